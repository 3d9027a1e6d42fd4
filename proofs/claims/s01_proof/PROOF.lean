import PyProof.Rows.All
import Wide.All
import OpenK.AllK
import Wide.FinOn
import PyProof.EqAt
import PyProof.EqKinds
import PyProof.TupleCall
import KE.BitLaws
import PyProof.ZipIter
import PyProof.WalkInts
import Open.SpecLaws
import KE.OsHead
import KE.OsGo
import PyFlatLaws
import PySem.Challenge.RW_worstways_s01_answers
set_option Elab.async false
set_option linter.all false
set_option maxRecDepth 100000
set_option maxHeartbeats 2000000
namespace PySem.W.Fast
def tw7604587897941782517:=0
def tw7757650386025149720:=0
def tw7332441069925311765:=0
def tw9445680629045679224:=0
def tw6866264806688032250:=0
def tw14479855159733051542:=0
def tw12508999563242639620:=0
def tw10802968831209693508:=0
def tw1976659229336600510:=0
def tw90036998428322785:=0
def tw13206230872240764246:=0
def tw1152479098825510020:=0
def tw3898496684274822354:=0
def tw2882236220829386097:=0
def tw7600787497615885910:=0
def tw8538731767398602207:=0
def tw471907992348190180:=0
def tw5729445548274099261:=0
def tw2566117294944627365:=0
def tw10587412061620345987:=0
def tw11138451430716050079:=0
def tw15659163080625370325:=0
def tw580974719108130794:=0
def tw12516130353325372849:=0
def tw568903881088926025:=0
def tw14422028170596420768:=0
def tw1370770338532990868:=0
def tw13115352111540667185:=0
def tw5115796403639046412:=0
def tw10267048417723310430:=0
def tw838761444286597857:=0
def tw15474592838350510175:=0
def tw13345920739357076437:=0
def tw58587931456778224:=0
def tw8717438110565041019:=0
def tw11646225318377912334:=0
def tw12132931737094720112:=0
def tw398439685831785198:=0
def tw15809771303091197218:=0
def tw13279532497287913492:=0
def tw10713705504962914517:=0
def tw13887779487390015952:=0
def tw17709661094814150083:=0
def tw15130026777494936962:=0
def tw2589557529780303615:=0
def tw12064447902695907132:=0
def tw4793095732412936391:=0
def tw3841331288478018359:=0
def tw6159247935063642699:=0
def tw12837598042281489673:=0
def tw6201631847461135606:=0
def tw6703165426850257343:=0
def tw14741998561291635978:=0
def tw15098327145556225674:=0
def tw9413326307128376657:=0
def tw4299314979952056900:=0
def tw17508742823504422511:=0
def tw10703440713492264831:=0
def tw903486310932976502:=0
def tw5124651248669806070:=0
def tw3478968584253905923:=0
def tw13634321429087309774:=0
def tw17841370260117022676:=0
def tw3331942687934844056:=0
def tw1089145572234148847:=0
def tw4666759462178703757:=0
def tw5480760800902504610:=0
def tw17679895564707784475:=0
def tw362769533959624105:=0
def tw431738371840479536:=0
def tw7528513623852765049:=0
def tw12138707283778911876:=0
def tw6217884272707938354:=0
def tw17829395789473532981:=0
def tw9966030817087313742:=0
def tw5729054964063221436:=0
def tw8301432703046738671:=0
def tw3319606768022689042:=0
def tw12855429107164615796:=0
def tw1939949833316066713:=0
def tw11750035880619388027:=0
def tw12242035819286434467:=0
def tw12733370817598887666:=0
def tw17098554714002339336:=0
def tw15528098348861471961:=0
def tw6385487024104649485:=0
def tw9468350992458393603:=0
def tw10748633429801061612:=0
def tw10780783109931280853:=0
def tw15550957199291221147:=0
def tw15101359494462191682:=0
def tw1290880047292216741:=0
def tw8361496417848269483:=0
def tw2888147023606950260:=0
def tw8065647904140507173:=0
def tw4529667634905307336:=0
def tw101138413803132100:=0
def tw14204529309485581421:=0
def tw8766991731520233128:=0
def tw9641586143079319990:=0
def tw7672996154585489645:=0
def tw1950577248752504160:=0
def tw14230476163358201575:=0
def tw9053092235879069570:=0
def tw16150601192341354954:=0
def tw15455569565980957270:=0
def tw4271250525929518500:=0
def tw10564015734996414746:=0
def tw12066450709640146375:=0
def tw9508238787385543700:=0
def tw508286765184635532:=0
def tw16147749727957637081:=0
def tw7340100500834135179:=0
def tw4926901649029810522:=0
def tw5792772903157552850:=0
def tw4877726649189332790:=0
def tw14748924823021978819:=0
def tw5451578289886819835:=0
def tw17544876520087860678:=0
def tw17135731651660163699:=0
def tw3318223958222650755:=0
def tw11848355378749801208:=0
def tw16372462387989804543:=0
def tw15967360089166510102:=0
def tw3914351127921609643:=0
def tw14555512308567629485:=0
def tw12098083415077992801:=0
def tw13287682210419371448:=0
def tw17203990542184057626:=0
def tw5140426285340806970:=0
def tw7717153222178307316:=0
def tw17220602715342307147:=0
def tw9632329450118232148:=0
def tw17632669982839872988:=0
def tw15057991491924694391:=0
def tw15889422438025953664:=0
def tw2810822219451995411:=0
def tw18309254111618241015:=0
def tw1126384784686386888:=0
def tw1348719675008657882:=0
def tw9826080699556989772:=0
def tw9726326437872125598:=0
def tw14362727894373180383:=0
def tw6149485297908164991:=0
def tw16448605007521311961:=0
def tw2868940951897108439:=0
def tw10329214547118412844:=0
def tw4680153357480579867:=0
def tw5784154314512896232:=0
def tw15791467055540982046:=0
def tw11589736166653224253:=0
def tw2357590694353234629:=0
def tw11652036392950473604:=0
def tw5110398159009694684:=0
def tw14087650534722380795:=0
def tw3693432874905812669:=0
def tw8130095377007465567:=0
def tw9870682557764487577:=0
def tw17834363023321164225:=0
def tw9339367686492095031:=0
def tw16857922013816790689:=0
def tw2137180365895765728:=0
def tw9664171275183877628:=0
def tw11457228871010938348:=0
def tw4506637874102776157:=0
def tw7006960912610595509:=0
def tw4280713952138283080:=0
def tw8322295342975143776:=0
def tw164849749809584960:=0
def tw6130691602121790514:=0
def tw9352746809898468005:=0
def tw11331530262867159692:=0
def tw12059918344076672569:=0
def tw14131125872035456313:=0
def tw13066355432517303366:=0
def tw15865800591425432154:=0
def tw3720956223314209346:=0
def tw9440251070562670621:=0
def tw3192617792886760275:=0
def tw7971469164098472512:=0
def tw12116664694486536521:=0
def tw13403087302286505737:=0
def tw3238421459233458717:=0
def tw8463559536469258889:=0
def tw1882013563961254260:=0
def tw5071320709512508049:=0
def tw17641625866353312905:=0
def tw4559627902243077867:=0
def tw7046374381183632543:=0
def tw3846067358163621899:=0
def tw17333756453857887413:=0
def tw1545249788039306488:=0
def tw1900694642467388192:=0
def tw5511098439577565052:=0
def tw12067396980825810455:=0
def tw384550582407015396:=0
def tw810761208792485597:=0
def tw11862550249422884444:=0
def tw6665834239912483863:=0
def tw4082870670408877332:=0
def tw4569076056245167995:=0
def tw6797884364094952307:=0
def tw1376854557223088854:=0
def tw14465063966419480521:=0
def tw12356653037604453450:=0
def tw3227993110169883019:=0
def tw5962849374670793686:=0
def tw437359092826352517:=0
def tw9942239238981508587:=0
def tw6624442160214878380:=0
def tw14139184386282889140:=0
def tw3163619693516094385:=0
def tw11846816798031866455:=0
def tw15060033831305341201:=0
def tw3112435926828376273:=0
def tw4220438394006476819:=0
def tw2569327841709544898:=0
def tw4401370482003907933:=0
def tw15232910911767886807:=0
def tw8117977165970989961:=0
def tw9135184077779540615:=0
def tw5383130050113509068:=0
def tw12706730655526428320:=0
def tw4734034838494930686:=0
def tw2847314144749714113:=0
def tw18048452471328743683:=0
def tw14628581547189980524:=0
def tw2883898980313419296:=0
def tw13288146760313013117:=0
def tw15226745644449874437:=0
def tw14357190023947313329:=0
def tw1250636348130592361:=0
def tw16579796593720934872:=0
def tw1879281992677767529:=0
def tw6331625546387640986:=0
def tw5087477629962615948:=0
def tw6398683063700444814:=0
def tw5264690128267383575:=0
def tw17095281039797663468:=0
def tw15317213636798124941:=0
def tw7588099752702419302:=0
def tw17837153465148511862:=0
def tw11549852116450964620:=0
def tw6837119204184068062:=0
def tw17537640105960681351:=0
def tw365488758287317062:=0
def tw14002425574429537300:=0
def tw18201687703145064303:=0
def tw6453894908828328660:=0
def tw6928266759326248308:=0
def tw11371585866632111253:=0
def tw15830578978894154878:=0
def tw5701962855228815146:=0
def tw13501579346908359554:=0
def tw18145150202752745021:=0
def tw4402522068935873035:=0
def tw6710323152847417467:=0
def tw16573337428286898975:=0
def tw286560499270967209:=0
def tw3254776200981870858:=0
def tw12673082258382093157:=0
def tw7800488896257605722:=0
def tw5162446705409044843:=0
def tw1601700985704284667:=0
def tw15757831442592678877:=0
def tw10396234648046656583:=0
def tw1050393050553901185:=0
def tw10322206909912830349:=0
def tw11582439470354164117:=0
def tw13788568148169131113:=0
def tw333793047470906130:=0
def tw16898759309309152335:=0
def tw1894158459313623712:=0
def tw5975493126066760306:=0
def tw12315301773102315279:=0
def tw2599342128693991535:=0
def tw17254927623266072300:=0
def tw15625402245473127808:=0
def tw7116026165878313647:=0
def tw15104437945396887765:=0
def tw14054299408216807667:=0
def tw6900986222595883871:=0
def tw12192627176532479088:=0
def tw1647087211339397433:=0
def tw1043122618280564673:=0
def tw17614493160713619562:=0
def tw15157051774960143644:=0
def tw4781746508563350953:=0
def tw7411291849660914804:=0
def tw17416185093218250233:=0
def tw5605889400362151811:=0
def tw3922617260039705660:=0
def tw7978928116156116592:=0
def tw13298320939872204310:=0
def tw5732471458935894057:=0
def tw13851901373967518959:=0
def tw12782037676877205389:=0
def tw15999754990605153549:=0
def tw13459262989874335576:=0
def tw14240488603057345521:=0
def tw7580514984939037031:=0
def tw3694805870412116910:=0
def tw16292820347664419071:=0
def tw8501804458842005121:=0
def tw1567599681397271484:=0
def tw15838532437130340824:=0
def tw2374397901405627793:=0
def tw8850150952433076530:=0
def tw1958603678726228185:=0
def tw15441410856509225509:=0
def tw16512602780561397461:=0
def tw10715280646261654284:=0
def tw3544085267983041227:=0
def tw11555279322224526021:=0
def tw6085940450250139805:=0
def tw8222300898535605178:=0
def tw3731581712950829909:=0
def tw17204263440692236474:=0
def tw4254113503541023438:=0
def tw4882282341199820479:=0
def tw8286412906054275028:=0
def tw3598213581543563912:=0
def tw6788017203647019438:=0
def tw812415986278806966:=0
def tw9491169004629160999:=0
def tw4738734475133746757:=0
def tw16902103480478618246:=0
def tw18180710645508141932:=0
def tw820668507441321571:=0
def tw10666602175686700202:=0
def tw8008756407928449642:=0
def tw2636103404545047216:=0
def tw1524354821521747612:=0
def tw16218154043079126086:=0
def tw17532570463198350777:=0
def tw5023290207971072198:=0
def tw13333780427071704540:=0
def tw9300986809130842897:=0
def tw14204831166195865516:=0
def tw6713350234866534521:=0
def tw1859600102389144130:=0
def tw15718623442450150897:=0
def tw10246167349866768655:=0
def tw11586450866613611887:=0
def tw11680736652288385177:=0
def tw8354769962977505417:=0
def tw15803920961068044956:=0
def tw8479438050277020385:=0
def tw4420244716149342110:=0
def tw33940871970174064:=0
def tw5480053312663257328:=0
def tw14627482994430400226:=0
def tw3103052144716470877:=0
def tw14559740642918926039:=0
def tw319922238737748283:=0
def tw2446586366287469944:=0
def tw884993765968575823:=0
def tw12322781111258606220:=0
def tw8946649190785520456:=0
def tw13731462083511296804:=0
def tw14569223277563705122:=0
def tw17220484055035607231:=0
def tw15848674283882176936:=0
def tw7168489783045818945:=0
def tw3574565461511062812:=0
def tw6685436105860497818:=0
def tw4948456458251006777:=0
def tw12221107981860605:=0
def tw14059271402985237418:=0
def tw11877115346370998204:=0
def tw15204399039885829058:=0
def tw2967760228062942553:=0
def tw18318354885201903167:=0
def tw11467248692071287301:=0
def tw7180474843156444885:=0
def tw510595288007734962:=0
def tw15773612402852252468:=0
def tw8121991735077019273:=0
def tw10590810468340372709:=0
def tw8281339967817967124:=0
def tw11144554172663972564:=0
def tw8820291549680212949:=0
def tw18062553994112748562:=0
def tw12797909187812571664:=0
def tw16793472917939214372:=0
def tw5228734634838598523:=0
def tw2047368816045140021:=0
def tw13327293017664555474:=0
def tw5666595164454393211:=0
def tw10298569057916854640:=0
def tw898036432428652387:=0
def tw5769255419093950222:=0
def tw3066574716527473797:=0
def tw4630819773235280330:=0
def tw11424045015553413387:=0
def tw4082700129558599535:=0
def tw3759481132510854965:=0
def tw2791559234233918491:=0
def tw17200959389272376945:=0
def tw3781313405266683048:=0
def tw10349333571535119449:=0
def tw13294894790405021521:=0
def tw15113515096087398595:=0
def tw3230251687859517486:=0
def tw591085820397725115:=0
def tw15646968850978034077:=0
def tw6585238193982937076:=0
def tw7413675269851635573:=0
def tw2667441713627523651:=0
def tw2207449443488265035:=0
def tw1313590741348027104:=0
def tw3192305016765799606:=0
def tw13868754460698224842:=0
def tw7699736208494330507:=0
def tw2468852239056553513:=0
def tw3934603106445058873:=0
def tw17364821131907088535:=0
def tw2726760355864531729:=0
def tw15870320329771845437:=0
def tw4684982022345271332:=0
def tw6947264199987108228:=0
def tw10055967370913085208:=0
def tw10747237824892103429:=0
def tw2331273845482635838:=0
def tw14204450165157736075:=0
def tw11971825815374552548:=0
def tw15438679289442418975:=0
def tw11465501162459894694:=0
def tw6629773940104199104:=0
def tw17378084364591465962:=0
def tw13954076350367233669:=0
def tw11136946384833701750:=0
def tw17859581316633819529:=0
def tw18410482999679723132:=0
def tw430803931581859683:=0
def tw12407164429964851619:=0
def tw7613079391187516625:=0
def tw5352047698363615385:=0
def tw15308621094699185873:=0
def tw11814030165727867063:=0
def tw1784282454422847277:=0
def tw17553486557030302592:=0
def tw17467334566849468634:=0
def tw16434716876017390298:=0
def tw288839295611657499:=0
def tw12416462758907404084:=0
def tw1669685689731999988:=0
def tw6975795439079486589:=0
def tw4728018484472184486:=0
def tw1147000493927888099:=0
def tw921183767875759917:=0
def tw13758000025341907116:=0
def tw7293714468480733248:=0
def tw14748710356039647272:=0
def tw1407014973075432540:=0
def tw9740732353608300841:=0
def tw1306748472498795396:=0
def tw7514233059708634061:=0
def tw17484739659234986192:=0
def tw6088925991237482018:=0
def tw8661189967784948261:=0
def tw9467959619685342778:=0
def tw991582189899693500:=0
def tw10466463786581787004:=0
def tw14663015233283836122:=0
def tw11590303366158783436:=0
def tw11756737425925827380:=0
def tw13334093800692344382:=0
def tw9999792065205000086:=0
def tw11730157409117639573:=0
def tw4158822182660882827:=0
def tw11441966418232286922:=0
def tw4933983109565993551:=0
def tw3032035723117678511:=0
def tw17117029155141234029:=0
def tw7968556907994441613:=0
def tw6348384073242960726:=0
def tw9186542794892992224:=0
def tw13211317390575589139:=0
def tw13907076126850545989:=0
def tw1411339483232693400:=0
def tw7006388293944007459:=0
def tw17665226434941003643:=0
def tw17569806054244726771:=0
def tw1345707272667704530:=0
def tw3953719550069621687:=0
def tw13301294131344517430:=0
def tw2732314255311038708:=0
def tw10324945141150748810:=0
def tw7655297062565795351:=0
def tw11292863589220281445:=0
def tw6495783735601092577:=0
def tw17346438731666269542:=0
def tw11634537036677718742:=0
def tw4218596521999567456:=0
def tw12906937634005899190:=0
def tw10896156947587069725:=0
def tw5895236946152363029:=0
def tw9241213065999724631:=0
def tw16271930517026504889:=0
def tw8480296621730493728:=0
def tw13094305593445040420:=0
def tw9037290012006743551:=0
def tw12204050792420431178:=0
def tw13151483594910570527:=0
def tw6115864868148791976:=0
def tw6135835581685141:=0
def tw15341773480402470680:=0
def tw13909300867083813156:=0
def tw2510904061912288009:=0
def tw10440099488279271000:=0
def tw860500926138361398:=0
end PySem.W.Fast
section
namespace L2
open PySem PySem.Spec PyProof.Rows
abbrev Key:=Sum Int Str
def keyIs:Key->Value->Bool
 | .inl k,v=>Value.isInt k v
 | .inr x,v=>Value.isStrOf x v
def keyH (w:World):Key->Int
 | .inl k=>hashInt k
 | .inr x=>hashStr w x
theorem keyIs_shape:∀ {k:Key} {v:Value},keyIs k v=true->(∃ i t,k=Sum.inl i∧v=Value.int i t)∨(∃ x t,k=Sum.inr x∧v=Value.str x t)
 | .inl i,v,h=>by
  obtain⟨t,e⟩:=Value.isInt_shape (k:=i) (v:=v) h
  exact .inl ⟨i,t,rfl,e⟩
 | .inr x,v,h=>by
  obtain⟨t,e⟩:=Value.isStrOf_shape (x:=x) (v:=v) h
  exact .inr ⟨x,t,rfl,e⟩
theorem key_ll (a b:Int):decide ((Sum.inl a:Key)=Sum.inl b)=(a==b):=by
 by_cases e:a=b
 ·subst e;simp
 ·have h:¬ (Sum.inl a:Key)=Sum.inl b:=fun q=>e (Sum.inl.inj q)
  rw[decide_eq_false h]
  exact (beq_eq_false_iff_ne.mpr e).symm
theorem key_rr (a b:Str):decide ((Sum.inr a:Key)=Sum.inr b)=decide (a=b):=by
 by_cases e:a=b
 ·subst e;simp
 ·have h:¬ (Sum.inr a:Key)=Sum.inr b:=fun q=>e (Sum.inr.inj q)
  rw[decide_eq_false h,decide_eq_false e]
theorem key_lr (a:Int) (b:Str):decide ((Sum.inl a:Key)=Sum.inr b)=false:=decide_eq_false (fun q=>nomatch q)
theorem key_rl (a:Str) (b:Int):decide ((Sum.inr a:Key)=Sum.inl b)=false:=decide_eq_false (fun q=>nomatch q)
def mixKind (prog:Program) (w:World):PySem.KeyKind prog w Key where
 is:=keyIs
 hash:=keyH w
 inj:=fun v a b ha hb=>by
  rcases keyIs_shape ha with ⟨i,t,rfl,rfl⟩|⟨x,t,rfl,rfl⟩
  ·rcases keyIs_shape hb with ⟨j,u,rfl,e⟩|⟨y,u,rfl,e⟩
   ·injection e with e1 _;rw[e1]
   ·exact nomatch e
  ·rcases keyIs_shape hb with ⟨j,u,rfl,e⟩|⟨y,u,rfl,e⟩
   ·exact nomatch e
   ·injection e with e1 _;rw[e1]
 byValue:=fun k v h=>by
  rcases keyIs_shape h with ⟨i,t,rfl,rfl⟩|⟨x,t,rfl,rfl⟩<;>rfl
 pyHash:=fun hv h=>by
  rcases keyIs_shape hv with ⟨i,t,rfl,rfl⟩|⟨x,t,rfl,rfl⟩
  ·exact wpAny_pyHash_int h
  ·exact wpAny_pyHash_str h
 eqBool:=fun hu hv h=>by
  rcases keyIs_shape hu with ⟨i,t,rfl,rfl⟩|⟨x,t,rfl,rfl⟩
  ·rcases keyIs_shape hv with ⟨j,u,rfl,rfl⟩|⟨y,u,rfl,rfl⟩
   ·rw[key_ll] at h;exact wpAny_eqBool_int h
   ·rw[key_lr] at h;exact SeqAt.EqAt.int_str i t y u _ _ _ _ h
  ·rcases keyIs_shape hv with ⟨j,u,rfl,rfl⟩|⟨y,u,rfl,rfl⟩
   ·rw[key_rl] at h;exact SeqAt.EqAt.str_int x t j u _ _ _ _ h
   ·rw[key_rr] at h;exact wpAny_eqBool_str h
 «strs»:=fun k x t v h=>by
  rcases keyIs_shape h with ⟨i,u,rfl,e⟩|⟨y,u,rfl,e⟩
  ·exact nomatch e
  ·injection e with e1 _
   subst e1
   cases v<;>rfl
end L2
namespace L2
open PySem PySem.Spec PyProof.Rows
inductive V where
 | non|bl (b:Bool)|int (i:Int)|str (x:Str)|byt (b:Array UInt8)|flt (b:UInt64)|ref (a:Addr)|ty (n:String)
 deriving DecidableEq
def RelV:V->Value->Prop
 | .non,u=>u=Value.none
 | .bl b,u=>u=Value.bool b
 | .int i,u=>∃ t,u=Value.int i t
 | .str x,u=>∃ t,u=Value.str x t
 | .byt b,u=>∃ t,u=Value.bytes b t
 | .flt b,u=>∃ t,u=Value.float b t
 | .ref a,u=>u=Value.ref a
 | .ty n,u=>u=Value.type n
abbrev Vals:List V->List Value->Prop:=Paired RelV
theorem Vals.length {xs:List V} {us:List Value} (r:Vals xs us):xs.length=us.length:=Paired.length r
theorem Vals.get:∀ {xs:List V} {us:List Value} {i:Nat} {x:V},Vals xs us->xs[i]?=some x->∃ u,us[i]?=some u∧RelV x u
 | _,_,_,_,.nil,e=>by simp at e
 | _,_,0,_,.cons r _,e=>by simp at e;subst e;exact⟨_,rfl,r⟩
 | _,_,i+1,x,.cons _ t,e=>by
  obtain⟨u,h1,h2⟩:=Vals.get (i:=i) (x:=x) t (by simpa using e)
  exact⟨u,by simpa using h1,h2⟩
theorem Vals.set {x:V} {u:Value} (r:RelV x u):∀ {xs:List V} {us:List Value} (i:Nat),Vals xs us->Vals (xs.set i x) (us.set i u)
 | _,_,_,.nil=>.nil
 | _,_,0,.cons _ t=>.cons r t
 | _,_,i+1,.cons q t=>.cons q (Vals.set r i t)
theorem Vals.append:∀ {xs ys:List V} {us ws:List Value},Vals xs us->Vals ys ws->Vals (xs++ys) (us++ws)
 | _,_,_,_,.nil,s=>s
 | _,_,_,_,.cons r t,s=>.cons r (Vals.append t s)
theorem Vals.take:∀ {xs:List V} {us:List Value} (n:Nat),Vals xs us->Vals (xs.take n) (us.take n)
 | _,_,0,_=>.nil
 | _,_,_+1,.nil=>.nil
 | _,_,n+1,.cons r t=>.cons r (Vals.take n t)
theorem Vals.drop:∀ {xs:List V} {us:List Value} (n:Nat),Vals xs us->Vals (xs.drop n) (us.drop n)
 | _,_,0,r=>r
 | _,_,_+1,.nil=>.nil
 | _,_,n+1,.cons _ t=>Vals.drop n t
theorem Vals.none_of:∀ {xs:List V} {us:List Value} {i:Nat},Vals xs us->xs[i]?=none->us[i]?=none:=fun {xs us i} r e=>by
 have h1:=r.length
 have h2:xs.length≤i:=List.getElem?_eq_none_iff.mp e
 exact List.getElem?_eq_none_iff.mpr (by omega)
def RelO:Option V->Option Value->Prop
 | some v,some u=>RelV v u
 | none,none=>True
 | _,_=>False
def KV {κ:Type}:List (κ × V)->List (κ × Value)->Prop:=Paired fun (p:κ × V) (q:κ × Value)=>p.1=q.1∧RelV p.2 q.2
def kV:Key->V
 | .inl i=>.int i
 | .inr x=>.str x
inductive HO where
 | lst (xs:List V)
 | tup (xs:List V)
 | dK (kvs:List (Key × V))|dT (kvs:List (List Key × V))
 | set (S:Int->Bool) (n:Nat)
 | ins (C dx:Addr) (fs:List (Str × V))
 | own (x:Addr)
 | xd (fs:List (Str × V))
 | met (f x:Addr)
 | rng (lo hi:Int)
 | frz (o:Obj) (u:HO)
 | tbl (ps:Array Value)
 | ext (φ:Heap->Prop)
abbrev Hp:=Addr->Option HO
def upd (H:Hp) (a:Addr) (o:HO):Hp:=fun b=>if b=a then some o else H b
theorem k0f {H:Hp} {a:Addr} {o:HO}:upd H a o a=some o:=by unfold upd;rw[if_pos rfl]
theorem k0p {H:Hp} {a b:Addr} {o:HO} (h:b≠a):upd H a o b=H b:=by unfold upd;rw[if_neg h]
theorem upd_upd {H:Hp} {a:Addr} {o u:HO}:upd (upd H a o) a u=upd H a u:=by
 funext b;unfold upd;split<;>rfl
theorem ne_of {H:Hp} {a b:Addr} {o u:HO} (h:H a=some o) (h':H b=some u) (d:o≠u):a≠b:=by
 intro e;subst e;rw[h] at h';exact d (Option.some.inj h')
theorem k0h {H:Hp} {a b:Addr} {o:HO} (h:H a=some o) (h':H b=none):a≠b:=by
 intro e;subst e;rw[h] at h';cases h'
section
variable (P:Program) (w:World)
def ObjOk (H:Hp) (h:Heap) (a:Addr):HO->Prop
 | .lst xs=>xs.length≤sizeLine∧∃ (its:List Value) (n:Nat),Vals xs its∧h.get? a=some { cls:=.type "list",data:=.seq its.toArray n }
 | .tup xs=>xs.length≤sizeLine∧∃ its:List Value,Vals xs its∧IsTup h a its.toArray
 | .dK kvs=>kvs.length≤sizeLine∧(a==sysModules)=false∧∃ vs,KV kvs vs∧h.DictOf (mixKind P w) a vs
 | .dT kvs=>kvs.length≤sizeLine∧(a==sysModules)=false∧∃ xs:List (List Key × Addr × Value),
   Paired (fun (p:List Key × V) (q:List Key × Addr × Value)=>p.1=q.1∧H q.2.1=some (.tup (p.1.map kV))∧RelV p.2 q.2.2) kvs xs ∧
   ∃ o es ep,h.get? a=some o∧o.ExactDict∧o.data=.dict es ep∧es.toList=xs.map (entryOfKey (tupleKind (mixKind P w)))∧(xs.map (·.1)).Nodup
 | .set S n=>h.SetOf (intKind P w) a S n
 | .ins C dx fs=>H dx=some (.own a)∧fs.length≤1000∧dx≠a∧h.get? a=some (PySem.W.instObj C dx) ∧
   ∃ mA,h.Ns1 dx mA∧(∀ f,RelO (fs.lookup f) (mA f))∧PySem.Within mA (fs.map (·.1))
 | .own _=>∃ o,h.get? a=some o
 | .xd fs=>∃ mA,h.Ns1 a mA∧∀ f,RelO (fs.lookup f) (mA f)
 | .rng lo hi=>∃ t u v,h.get? a=some { cls:=.type "range",data:=.fields #[.int lo t,.int hi u,.int 1 v] }
 | .frz o u=>h.get? a=some o∧ObjOk H h a u
 | .tbl ps=>h.get? a=some { cls:=.none,data:=.fields ps }
 | .met f x=>h.get? a=some (PySem.W.methodObj (.ref f) (.ref x))
 | .ext φ=>φ h∧(∃ o,h.get? a=some o)∧∀ h1 h2:Heap,φ h1->(∀ o,h1.get? a=some o->h2.get? a=some o)->φ h2
def HOk (H:Hp) (h:Heap):Prop:=∀ a o,H a=some o->ObjOk P w H h a o
end
section
variable {P:Program} {w:World} {H H':Hp} {h h':Heap} {a:Addr} {o:HO}
theorem ObjOk.lt (x:ObjOk P w H h a o):a < h.objs.size:=by
 cases o with
 | lst xs=>obtain⟨_,_,_,_,e⟩:=x;exact Heap.lt_size e
 | tup xs=>obtain⟨_,_,_,p⟩:=x;exact p.lt
 | dK kvs=>obtain⟨_,_,_,_,o,_,_,e,_⟩:=x;exact Heap.lt_size e
 | dT kvs=>obtain⟨_,_,_,_,o,_,_,e,_⟩:=x;exact Heap.lt_size e
 | set S n=>obtain⟨o,_,_,_,e,_⟩:=x;exact Heap.lt_size e
 | ins C dx fs=>obtain⟨_,_,_,e,_⟩:=x;exact Heap.lt_size e
 | own y=>obtain⟨_,e⟩:=x;exact Heap.lt_size e
 | xd fs=>obtain⟨_,⟨_,_,_,e,_⟩,_⟩:=x;exact Heap.lt_size e
 | rng lo hi=>obtain⟨_,_,_,e⟩:=x;exact Heap.lt_size e
 | frz ob u=>obtain⟨e,_⟩:=x;exact Heap.lt_size e
 | tbl ps=>exact Heap.lt_size (show h.get? a=some _ from x)
 | met f y=>exact Heap.lt_size (show h.get? a=some _ from x)
 | ext φ=>obtain⟨_,⟨_,e⟩,_⟩:=x;exact Heap.lt_size e
theorem Paired.mapP {α β:Type} {F G:α->β->Prop}:∀ {l₁:List α} {l₂:List β},Paired F l₁ l₂->(∀ a b,F a b->G a b)->Paired G l₁ l₂
 | _,_,.nil,_=>.nil
 | _,_,.cons r t,f=>.cons (f _ _ r) (Paired.mapP t f)
theorem ObjOk.stay (x:ObjOk P w H h a o) (k:∀ b u,(b=a∨H b=some (.own a))->h.get? b=some u->h'.get? b=some u)
  (ho:∀ b,H b=some (.own a)->H' b=some (.own a)) (ht:∀ b xs,H b=some (.tup xs)->H' b=some (.tup xs)):ObjOk P w H' h' a o:=by
 induction o with
 | lst xs=>obtain⟨z,its,n,r,e⟩:=x;exact⟨z,its,n,r,k _ _ (.inl rfl) e⟩
 | tup xs=>obtain⟨z,its,r,ob,e,c⟩:=x;exact⟨z,its,r,ob,k _ _ (.inl rfl) e,c⟩
 | dK kvs=>obtain⟨z,y,vs,r,ob,es,ep,e,c⟩:=x;exact⟨z,y,vs,r,ob,es,ep,k _ _ (.inl rfl) e,c⟩
 | dT kvs =>
  obtain⟨z,y,xs,r,ob,es,ep,e,c⟩:=x
  exact⟨z,y,xs,Paired.mapP r fun p q z=>⟨z.1,ht _ _ z.2.1,z.2.2⟩,ob,es,ep,k _ _ (.inl rfl) e,c⟩
 | set S n=>obtain⟨ob,es,ep,t,e,c⟩:=x;exact⟨ob,es,ep,t,k _ _ (.inl rfl) e,c⟩
 | ins C dx fs =>
  obtain⟨d,z,ne,e,mA,⟨od,es,ep,e2,c⟩,r⟩:=x
  exact⟨ho _ d,z,ne,k _ _ (.inl rfl) e,mA,⟨od,es,ep,k _ _ (.inr d) e2,c⟩,r⟩
 | own y=>obtain⟨ob,e⟩:=x;exact⟨ob,k _ _ (.inl rfl) e⟩
 | xd fs=>obtain⟨mA,⟨od,es,ep,e,c⟩,r⟩:=x;exact⟨mA,⟨od,es,ep,k _ _ (.inl rfl) e,c⟩,r⟩
 | rng lo hi=>obtain⟨t,u,v,e⟩:=x;exact⟨t,u,v,k _ _ (.inl rfl) e⟩
 | frz ob u ih=>obtain⟨e,q⟩:=x;exact⟨k _ _ (.inl rfl) e,ih q⟩
 | tbl ps =>
  have e:h.get? a=some { cls:=.none,data:=.fields ps }:=x
  show h'.get? a=some { cls:=.none,data:=.fields ps }
  exact k a _ (.inl rfl) e
 | met f y =>
  have e:h.get? a=some (PySem.W.methodObj (.ref f) (.ref y)):=x
  show h'.get? a=some (PySem.W.methodObj (.ref f) (.ref y))
  exact k a _ (.inl rfl) e
 | ext φ=>obtain⟨p,⟨o,e⟩,st⟩:=x;exact⟨st _ _ p fun o q=>k _ _ (.inl rfl) q,⟨o,k _ _ (.inl rfl) e⟩,st⟩
theorem HOk.lt (x:HOk P w H h) (e:H a=some o):a < h.objs.size:=(x a o e).lt
theorem HOk.fresh (x:HOk P w H h) (e:h.objs.size≤a):H a=none:=by
 cases q:H a with
 | none=>rfl
 | some u=>exact absurd (Nat.lt_of_lt_of_le (x.lt q) e) (Nat.lt_irrefl _)
theorem HOk.kept (x:HOk P w H h) (k:∀ b u,h.get? b=some u->h'.get? b=some u):HOk P w H h':=fun a o e =>
 (x a o e).stay (fun b u _ q=>k b u q) (fun _ q=>q) fun _ _ q=>q
theorem HOk.laid (x:HOk P w H h) (k:∀ b u,h.get? b=some u->h'.get? b=some u) (hp:h.objs.size≤a) (new:ObjOk P w (upd H a o) h' a o):HOk P w (upd H a o) h':=fun b u e=>by
 have hn:=x.fresh hp
 by_cases hb:b=a
 ·subst hb;rw[k0f] at e;cases e;exact new
 ·rw[k0p hb] at e
  exact (x b u e).stay (fun c v _ q=>k c v q) (fun c q=>by rw[k0p (k0h q hn)];exact q) fun c xs q=>by rw[k0p (k0h q hn)];exact q
end
def Rd (H:Hp) (a:Addr) (u:HO):Prop:=H a=some u∨∃ o,H a=some (.frz o u)
theorem Rd.ok {P:Program} {w:World} {H:Hp} {h:Heap} {a:Addr} {u:HO} (r:Rd H a u) (x:HOk P w H h):ObjOk P w H h a u:=by
 rcases r with r|⟨o,r⟩
 ·exact x a u r
 ·obtain⟨_,q⟩:=x a _ r
  exact q
def Mut:Option HO->Prop
 | some (.lst _)=>True
 | some (.dK _)=>True
 | some (.dT _)=>True
 | some (.set _ _)=>True
 | some (.ins _ _ _)=>True
 | some (.ext _)=>True
 | _=>False
section
variable {P:Program} {w:World} {H:Hp} {h h':Heap} {x e:Addr} {o':HO}
theorem HOk.write (ok:HOk P w H h) (mu:Mut (H x)) (he:e=x∨H e=some (.own x)) (k:∀ b u,b≠e->h.get? b=some u->h'.get? b=some u) (heo:∃ u,h'.get? e=some u)
  (new:ObjOk P w (upd H x o') h' x o'):HOk P w (upd H x o') h':=fun b u q=>by
 have nown:∀ c y,H c=some (.own y)->c≠x:=fun c y r z=>by subst z;rw[r] at mu;exact mu
 have ntup:∀ c xs,H c=some (.tup xs)->c≠x:=fun c xs r z=>by subst z;rw[r] at mu;exact mu
 by_cases hb:b=x
 ·subst hb;rw[k0f] at q;cases q;exact new
 ·rw[k0p hb] at q
  by_cases hbe:b=e
  ·have q':H b=some (.own x):=by
    rcases he with z|z
    ·exact absurd (hbe.trans z) hb
    ·rw[hbe];exact z
   rw[q] at q';cases q'
   obtain⟨v,hv⟩:=heo
   exact⟨v,by rw[hbe];exact hv⟩
  ·refine (ok b u q).stay (fun c v hc r=>k c v ?_ r) (fun c r=>by rw[k0p (nown c b r)];exact r) fun c xs r=>by rw[k0p (ntup c xs r)];exact r
   rcases hc with rfl|hc
   ·exact hbe
   ·rintro rfl
    rcases he with z|z
    ·exact nown c b hc z
    ·rw[hc] at z;cases z;exact hb rfl
end
structure Un (fs ex:List Addr) (H H':Hp) (h h':Heap):Prop where
 keep:∀ b o,h.get? b=some o->H b=none->b∉fs->b∉ex->h'.get? b=some o
 slot:∀ b o,h.get? b=some o->H b=none->b∈fs->b∉ex->∃ sl,h'.get? b=some { o with slots:=sl }
 free:∀ b o,h.get? b=some o->H b=none->b∉ex->H' b=none
 there:∀ b o,h.get? b=some o->b∉ex->∃ o',h'.get? b=some o'
 tups:∀ b xs,H b=some (.tup xs)->H' b=some (.tup xs)
 frzs:∀ b o u,H b=some (.frz o u)->H' b=some (.frz o u)
 tbls:∀ b ps,H b=some (.tbl ps)->∃ more,H' b=some (.tbl (ps++more))
section
variable {fs fs' ex ex':List Addr} {H H1 H2:Hp} {h h1 h2 h':Heap} {a x e:Addr} {o:HO}
theorem Un.any (u:Un fs ex H H1 h h1) {b:Addr} {ob:Obj} (q:h.get? b=some ob) (n:H b=none) (hx:b∉ex):∃ sl,h1.get? b=some { ob with slots:=sl }:=by
 by_cases hb:b∈fs
 ·exact u.slot b ob q n hb hx
 ·exact⟨ob.slots,u.keep b ob q n hb hx⟩
theorem Un.kept (k:∀ b u,h.get? b=some u->h'.get? b=some u):Un fs ex H H h h' :=
 ⟨fun b ob q _ _ _=>k b ob q,fun b ob q _ _ _=>⟨ob.slots,k b ob q⟩,fun _ _ _ n _=>n,fun b ob q _=>⟨ob,k b ob q⟩,fun _ _ q=>q,fun _ _ _ q=>q,fun _ ps q=>⟨#[],by rw[q];simp⟩⟩
theorem Un.refl:Un fs ex H H h h:=Un.kept fun _ _ q=>q
theorem Un.laid (k:∀ b u,h.get? b=some u->h'.get? b=some u) (hp:h.objs.size≤a) (hn:H a=none):Un fs ex H (upd H a o) h h' where
 keep:=fun b u q _ _ _=>k b u q
 slot:=fun b u q _ _ _=>⟨u.slots,k b u q⟩
 free:=fun b u q n _=>by rw[k0p (Nat.ne_of_lt (Nat.lt_of_lt_of_le (Heap.lt_size q) hp))];exact n
 there:=fun b u q _=>⟨u,k b u q⟩
 tups:=fun b xs q=>by rw[k0p (k0h q hn)];exact q
 frzs:=fun b u xs q=>by rw[k0p (k0h q hn)];exact q
 tbls:=fun b ps q=>⟨#[],by rw[k0p (k0h q hn),q];simp⟩
theorem Un.write (mu:Mut (H x)) (he:e=x∨H e=some (.own x)) (k:∀ b u,b≠e->h.get? b=some u->h'.get? b=some u) (heo:∃ u,h'.get? e=some u):Un fs ex H (upd H x o) h h':=by
 have hx:∀ b,H b=none->b≠x:=fun b n z=>by subst z;rw[n] at mu;exact mu
 have hb:∀ b,H b=none->b≠e:=fun b n z=>by
  subst z
  rcases he with r|r
  ·exact hx b n r
  ·rw[n] at r;cases r
 have hm:∀ b u,H b=some u->¬ Mut (some u)->b≠x:=fun b u q nm z=>by subst z;rw[q] at mu;exact nm mu
 refine⟨fun b u q n _ _=>k b u (hb b n) q,fun b u q n _ _=>⟨u.slots,k b u (hb b n) q⟩,fun b u q n _=>by rw[k0p (hx b n)];exact n,fun b u q _=>?_,
  fun b xs q=>by rw[k0p (hm b _ q fun z=>z)];exact q,fun b u xs q=>by rw[k0p (hm b _ q fun z=>z)];exact q,fun b ps q=>⟨#[],by rw[k0p (hm b _ q fun z=>z),q];simp⟩⟩
 by_cases hbe:b=e
 ·subst hbe;exact heo
 ·exact⟨u,k b u hbe q⟩
end
def trk (h:Heap) (H:Hp):List Addr:=(List.range h.objs.size).filter fun a=>(H a).isSome
def hidT (h:Heap) (H:Hp):Heap:=PySem.W.hideAll h (trk h H)
theorem hidT_size (h:Heap) (H:Hp):(hidT h H).objs.size=h.objs.size:=PySem.W.hideAll_size _ _
theorem hidT_get {h:Heap} {H:Hp} {b:Addr} {o:Obj} (e:h.get? b=some o) (n:H b=none):(hidT h H).get? b=some o :=
 PySem.W.hideAll_get _ e fun hm=>by
  have q:(H b).isSome=true:=(List.mem_filter.mp hm).2
  rw[n] at q;simp at q
theorem of_hidT {h:Heap} {H:Hp} {b:Addr} {o:Obj} (e:(hidT h H).get? b=some o):h.get? b=some o∧H b=none:=by
 have e':h.get? b=some o:=PySem.W.of_hideAll (trk h H) e
 refine⟨e',?_⟩
 cases q:H b with
 | none=>rfl
 | some x =>
  have hm:b∈trk h H:=List.mem_filter.mpr ⟨List.mem_range.mpr (Heap.lt_size e'),by simp[q]⟩
  have z:(hidT h H).get? b=none:=PySem.W.hideAll_none (trk h H) hm
  rw[z] at e;cases e
def allNews (g h:Heap) (L:Addr):List (Addr × Obj):=(List.range h.objs.size).filterMap fun a=>if a=L∨(g.get? a).isSome=true then none else (h.get? a).map fun o=>(a,o)
def rest (g h:Heap) (L d:Addr):List (Addr × Obj):=(allNews g h L).filter fun p=>decide (p.1≠d)
end L2
namespace L2
open PySem PySem.Spec PyProof.Rows
structure Mod (K:PySem.W.Frag) (mg:Str->Option Value) (base:Heap):Prop where
 kin:K.In base
 glob:base.Ns mainGlobals mg
 blt:∃ mb,base.Ns builtinsNs mb∧∀ x:Str,x≠"__name__"->mb x=bootBuiltins x
 nolimit:base.NoLimit
structure Cx where
 prog:Program
 w:World
 K:PySem.W.Frag
 mg:Str->Option Value
 base:Heap
 A:Around
 N:List Str
 s_0:Shared
 H_0:Hp
 env:Env
 outer:List Env
 stack:List Env
 ex:List Addr
 fn:Str->Bool
 calm:Bool
 pn:List (Addr × Obj)
 xe:Value->Shared->Prop
def frs (l:List Env):List Addr:=l.filterMap (·.frame)
abbrev Cx.fs (X:Cx):List Addr:=frs X.outer
def Vis (sc:Scope) (x:Str):Prop:=sc.names.lookup x=some .local∨sc.names.lookup x=some .cell∨sc.names.lookup x=some .free
def Loc (sc:Scope) (x:Str):Prop:=sc.names.lookup x=some .local∨sc.names.lookup x=some .cell
def Look (env:Env) (h:Heap) (m:Str->Option Value) (x:Str) (u:Value):Prop :=
 (env.kindOf x=some .local∧m x=some u)∨((env.kindOf x=some .cell∨env.kindOf x=some .free)∧∃ c,env.cells.lookup x=some c∧h.IsCell c (some u))
structure Cx.Ok (X:Cx):Prop where
 mod:Mod X.K X.mg X.base
 kind:X.env.scope.kind=.function
 glob:X.env.globals=mainGlobals
 blt:X.env.builtins=builtinsNs
 above:X.s_0.heap.objs.size≤X.env.locals
 inj:∀ x y c,X.env.cells.lookup x=some c->X.env.cells.lookup y=some c->x=y
 has:∀ x,(X.env.kindOf x=some .cell∨X.env.kindOf x=some .free)->∃ c,X.env.cells.lookup x=some c
 cab:∀ x c,X.fn x=true->X.env.cells.lookup x=some c->X.s_0.heap.objs.size≤c
 hd:X.calm=true->X.A.handled=none
 frames:X.A.frames=some X.stack
 stk:X.stack=X.outer∨(X.stack=X.env::X.outer∧X.env.frame=some X.env.locals)
 exf:∀ b∈X.ex,b≠X.env.locals∧∀ x c,X.env.cells.lookup x=some c->c≠b
 bs:∀ b o,X.base.get? b=some o->X.s_0.heap.get? b=some o∧X.H_0 b=none
 bsz:X.base.objs.size≤X.s_0.heap.objs.size
 noex:∀ b o,X.base.get? b=some o->b∉X.ex
 exfs:∀ b∈X.ex,b∉X.fs
 funs:X.s_0.heap.FunFrames X.base X.outer
 frf:∀ b∈X.fs,X.H_0 b=none
structure Inv (X:Cx) (pins:List (Addr × Obj)) (σ:List (Option V)) (H:Hp) (s:Shared):Prop where
 ok:X.Ok
 os:s.os=X.s_0.os
 bare:AllBare s.gens
 base:Un X.fs X.ex X.H_0 H X.s_0.heap s.heap
 loc:∃ m,s.heap.Ns X.env.locals m∧∀ (i:Nat) (x:Str) (v:V),X.N[i]?=some x->σ[i]?=some (some v)->Vis X.env.scope x->∃ u,RelV v u∧Look X.env s.heap m x u
 cell:∀ x c,X.env.cells.lookup x=some c->∃ v,s.heap.IsCell c v
 free:H X.env.locals=none
 freeC:∀ x c,X.env.cells.lookup x=some c->H c=none
 pin:∀ p∈X.pn++pins,s.heap.get? p.1=some p.2∧H p.1=none∧p.1≠X.env.locals∧p.1∉X.fs∧∀ v,p.2.data≠.cell v
 hok:HOk X.prog X.w H s.heap
 len:σ.length=X.N.length
section
variable {X:Cx} {pins:List (Addr × Obj)} {σ:List (Option V)} {H H':Hp} {s:Shared} {h':Heap}
theorem Cx.Ok.nofr (ok:X.Ok) {b:Addr} {o:Obj} (e:X.base.get? b=some o):b∉X.fs:=fun hb=>by
 have:=(ok.funs.mem hb).1
 rw[e] at this;cases this
theorem Inv.bs (I:Inv X pins σ H s):∀ b o,X.base.get? b=some o->s.heap.get? b=some o∧H b=none:=fun b o e =>
 ⟨I.base.keep b o (I.ok.bs b o e).1 (I.ok.bs b o e).2 (I.ok.nofr e) (I.ok.noex b o e),I.base.free b o (I.ok.bs b o e).1 (I.ok.bs b o e).2 (I.ok.noex b o e)⟩
theorem Inv.bk (I:Inv X pins σ H s):∀ b o,X.base.get? b=some o->s.heap.get? b=some o:=fun b o e=>(I.bs b o e).1
theorem Inv.mod (I:Inv X pins σ H s):Mod X.K X.mg X.base:=I.ok.mod
theorem Inv.kIn (I:Inv X pins σ H s):X.K.In s.heap:=I.ok.mod.kin.keeps I.bk
theorem Inv.fr (I:Inv X pins σ H s):∃ m,Fr X.base X.env.locals s.heap m :=
 let ⟨m,hn,_⟩:=I.loc
 ⟨m,hn,I.bk,Nat.le_trans I.ok.bsz I.ok.above⟩
theorem Inv.lt (I:Inv X pins σ H s):X.env.locals < s.heap.objs.size:=let ⟨_,hn,_⟩:=I.loc;hn.lt
theorem Inv.sz (I:Inv X pins σ H s):X.s_0.heap.objs.size≤s.heap.objs.size:=Nat.le_trans I.ok.above (Nat.le_of_lt I.lt)
theorem Inv.nofs (I:Inv X pins σ H s) {a:Addr} (h:s.heap.objs.size≤a):a∉X.fs:=fun hb=>by
 obtain⟨_,o,ho,_⟩:=I.ok.funs.mem hb
 exact absurd (Nat.lt_of_lt_of_le (Heap.lt_size ho) (Nat.le_trans I.sz h)) (Nat.lt_irrefl _)
theorem Inv.cne (I:Inv X pins σ H s):∀ x c,X.env.cells.lookup x=some c->c≠X.env.locals:=fun x c e z=>by
 obtain⟨v,o,ho,hd⟩:=I.cell x c e
 obtain⟨m,⟨o',es,ep,ho',hd',_⟩,_⟩:=I.loc
 rw[z,ho'] at ho;cases ho;rw[hd'] at hd;cases hd
theorem Inv.funs (I:Inv X pins σ H s):s.heap.FunFrames X.base X.outer:=by
 have all:∀ (l:List Env),(∀ b∈frs l,b∈X.fs)->X.s_0.heap.FunFrames X.base l->s.heap.FunFrames X.base l:=by
  intro l
  induction l with
  | nil=>intro _ _;trivial
  | cons env r ih =>
   intro hs hl
   obtain⟨hk,⟨L,o,hf,hn,ho,hd⟩,hr⟩:=hl
   have hL:L∈X.fs:=hs L (by unfold frs;rw[List.filterMap_cons,hf];exact List.mem_cons_self)
   obtain⟨sl,e⟩:=I.base.slot L o ho (I.ok.frf L hL) hL fun z=>I.ok.exfs L z hL
   exact⟨hk,⟨L,_,hf,hn,e,hd⟩,ih (fun b hb=>hs b (by unfold frs;rw[List.filterMap_cons,hf];exact List.mem_cons_of_mem _ hb)) hr⟩
 exact all X.outer (fun _ hb=>hb) I.ok.funs
theorem Inv.stack (I:Inv X pins σ H s):s.heap.FunFrames X.base X.stack:=by
 rcases I.ok.stk with e|⟨e,hf⟩
 ·rw[e];exact I.funs
 ·rw[e]
  obtain⟨m,hn,_⟩:=I.loc
  refine .cons (by rw[I.ok.kind];decide) hf hn ?_ I.funs
  exact Heap.get?_none_of_le (Nat.le_trans I.ok.bsz I.ok.above)
theorem Inv.stkSub (I:Inv X pins σ H s):∀ b∈frs X.stack,b∈X.env.locals::X.fs:=fun b hb=>by
 rcases I.ok.stk with e|⟨e,hf⟩
 ·rw[e] at hb;exact List.mem_cons_of_mem _ hb
 ·rw[e] at hb
  unfold frs at hb
  rw[List.filterMap_cons,hf] at hb
  exact hb
theorem Inv.stkFree (I:Inv X pins σ H s):∀ b∈frs X.stack,H b=none:=fun b hb=>by
 rcases List.mem_cons.mp (I.stkSub b hb) with e|hb
 ·rw[e];exact I.free
 ·obtain⟨_,o,ho,_⟩:=I.ok.funs.mem hb
  exact I.base.free b o ho (I.ok.frf b hb) fun z=>I.ok.exfs b z hb
theorem Inv.step {g':Array GenState} {t':Nat} {d':Drawn} {ch:List Addr} (I:Inv X pins σ H s)
  (hch:∀ b∈ch,(b∈X.ex∨X.s_0.heap.objs.size≤b)∧b≠X.env.locals∧(∀ x c,X.env.cells.lookup x=some c->c≠b)∧∀ p∈X.pn++pins,p.1≠b)
  (keep:∀ b o,b≠X.env.locals->b∉X.fs->b∉ch->s.heap.get? b=some o->H b=none->h'.get? b=some o)
  (slot:∀ b o,b≠X.env.locals->b∈X.fs->b∉ch->s.heap.get? b=some o->H b=none->∃ sl,h'.get? b=some { o with slots:=sl }) (free:∀ b o,b∉ch->s.heap.get? b=some o->H b=none->H' b=none)
  (there:∀ b o,b∉ch->s.heap.get? b=some o->∃ o',h'.get? b=some o')
  (tups:∀ b xs,H b=some (.tup xs)->H' b=some (.tup xs)) (frzs:∀ b o u,H b=some (.frz o u)->H' b=some (.frz o u)) (tbls:∀ b ps,H b=some (.tbl ps)->∃ more,H' b=some (.tbl (ps++more)))
  (ns:∀ m,s.heap.Ns X.env.locals m->h'.Ns X.env.locals m) (hok:HOk X.prog X.w H' h') (hg:AllBare g') :
  Inv X pins σ H' { s with heap:=h',gens:=g',drawn:=d',toks:=t' }:=by
 have neL:∀ b o,X.s_0.heap.get? b=some o->b≠X.env.locals:=fun b o e=>Nat.ne_of_lt (Nat.lt_of_lt_of_le (Heap.lt_size e) I.ok.above)
 have neC:∀ b o,X.s_0.heap.get? b=some o->b∉X.ex->b∉ch:=fun b o e hx hb=>by
  rcases (hch b hb).1 with z|z
  ·exact hx z
  ·exact absurd (Nat.lt_of_lt_of_le (Heap.lt_size e) z) (Nat.lt_irrefl _)
 have cellK:∀ x c,X.env.cells.lookup x=some c->∀ v,s.heap.IsCell c v->h'.IsCell c v:=fun x c e v ⟨o,ho,hd⟩=>by
  have nch:c∉ch:=fun z=>(hch c z).2.2.1 x c e rfl
  by_cases hc:c∈X.fs
  ·obtain⟨sl,q⟩:=slot c o (I.cne x c e) hc nch ho (I.freeC x c e)
   exact⟨_,q,hd⟩
  ·exact⟨o,keep c o (I.cne x c e) hc nch ho (I.freeC x c e),hd⟩
 refine⟨I.ok,I.os,hg,⟨fun b o e n hb hx=>?_,fun b o e n hb hx=>?_,fun b o e n hx=>?_,fun b o e hx=>?_,fun b xs e=>tups b xs (I.base.tups b xs e),fun b o xs e=>frzs b o xs (I.base.frzs b o xs e),fun b ps e=>?_⟩,?_,fun x c e=>?_,?_,fun x c e=>?_,fun p hp=>?_,hok,I.len⟩
 ·exact keep b o (neL b o e) hb (neC b o e hx) (I.base.keep b o e n hb hx) (I.base.free b o e n hx)
 ·obtain⟨sl,e1⟩:=I.base.slot b o e n hb hx
  obtain⟨sl',e2⟩:=slot b _ (neL b o e) hb (neC b o e hx) e1 (I.base.free b o e n hx)
  exact⟨sl',e2⟩
 ·obtain⟨o',e1⟩:=I.base.there b o e hx
  exact free b o' (neC b o e hx) e1 (I.base.free b o e n hx)
 ·obtain⟨o',e1⟩:=I.base.there b o e hx
  exact there b o' (neC b o e hx) e1
 ·obtain⟨m1,e1⟩:=I.base.tbls b ps e
  obtain⟨m2,e2⟩:=tbls b _ e1
  exact⟨m1++m2,by rw[e2,Array.append_assoc]⟩
 ·obtain⟨m,hn,hl⟩:=I.loc
  refine⟨m,ns m hn,fun i x v e1 e2 e3=>?_⟩
  obtain⟨u,r,l⟩:=hl i x v e1 e2 e3
  refine⟨u,r,?_⟩
  rcases l with l|⟨k,c,e,z⟩
  ·exact .inl l
  ·exact .inr ⟨k,c,e,cellK x c e _ z⟩
 ·obtain⟨v,z⟩:=I.cell x c e
  exact⟨v,cellK x c e v z⟩
 ·obtain⟨m,⟨o,_,_,ho,_⟩,_⟩:=I.loc
  exact free _ o (fun z=>(hch _ z).2.1 rfl) ho I.free
 ·obtain⟨v,o,ho,hd⟩:=I.cell x c e
  exact free c o (fun z=>(hch c z).2.2.1 x c e rfl) ho (I.freeC x c e)
 ·obtain⟨e,n,ne,nf,d⟩:=I.pin p hp
  have nch:p.1∉ch:=fun z=>(hch p.1 z).2.2.2 p hp rfl
  exact⟨keep p.1 p.2 ne nf nch e n,free p.1 p.2 nch e n,ne,nf,d⟩
theorem Inv.un {t':Nat} (I:Inv X pins σ H s) (u:Un X.fs [] H H' s.heap h') (hok:HOk X.prog X.w H' h'):Inv X pins σ H' { s with heap:=h',toks:=t' }:=by
 obtain⟨m,⟨o,es,ep,ho,r⟩,_⟩:=id I.loc
 obtain⟨sl,hL⟩:=u.any ho I.free (by simp)
 exact I.step (g':=s.gens) (d':=s.drawn) (ch:=[]) (fun _ z=>nomatch z) (fun b o _ hb _ e n=>u.keep b o e n hb (by simp)) (fun b o _ hb _ e n=>u.slot b o e n hb (by simp)) (fun b o _ e n=>u.free b o e n (by simp)) (fun b o _ e=>u.there b o e (by simp)) u.tups u.frzs u.tbls (fun m' hm=>by
  obtain⟨o',es',ep',ho',r'⟩:=hm
  rw[ho] at ho';cases ho'
  exact⟨_,es',ep',hL,r'⟩) hok I.bare
theorem Inv.call {g':Array GenState} {t':Nat} {d':Drawn} {ch:List Addr} (I:Inv X pins σ H s) (u:Un (frs X.stack) ch H H' s.heap h') (hok:HOk X.prog X.w H' h') (hg:AllBare g')
  (hch:∀ b∈ch,(b∈X.ex∨X.s_0.heap.objs.size≤b)∧b≠X.env.locals∧(∀ x c,X.env.cells.lookup x=some c->c≠b)∧∀ p∈X.pn++pins,p.1≠b) :
  Inv X pins σ H' { s with heap:=h',gens:=g',drawn:=d',toks:=t' }:=by
 obtain⟨m,⟨o,es,ep,ho,r⟩,_⟩:=id I.loc
 obtain⟨sl,hL⟩:=u.any ho I.free fun z=>(hch _ z).2.1 rfl
 exact I.step (ch:=ch) hch (fun b o hL hb hc e n=>u.keep b o e n (fun z=>(List.mem_cons.mp (I.stkSub b z)).elim hL hb) hc) (fun b o _ _ hc e n=>u.any e n hc) (fun b o hc e n=>u.free b o e n hc) (fun b o hc e=>u.there b o e hc) u.tups u.frzs u.tbls (fun m' hm=>by
  obtain⟨o',es',ep',ho',r'⟩:=hm
  rw[ho] at ho';cases ho'
  exact⟨_,es',ep',hL,r'⟩) hok hg
theorem Inv.turned {t':Nat} {it:Addr} (I:Inv X pins σ H s) (k:∀ b o,b≠it->s.heap.get? b=some o->h'.get? b=some o) (hn:H it=none) (hL:it≠X.env.locals)
  (h1:it∈X.ex∨X.s_0.heap.objs.size≤it) (h2:∀ x c,X.env.cells.lookup x=some c->c≠it) (h3:∀ p∈X.pn++pins,p.1≠it):Inv X pins σ H { s with heap:=h',toks:=t' }:=by
 have nit:∀ b u,H b=some u->b≠it:=fun b u e z=>by rw[z,hn] at e;cases e
 refine I.step (g':=s.gens) (d':=s.drawn) (ch:=[it]) (fun b hb=>?_) (fun b o _ _ hc e _=>k b o (fun z=>hc (by simp[z])) e) (fun b o _ _ hc e _=>⟨o.slots,k b o (fun z=>hc (by simp[z])) e⟩) (fun _ _ _ _ n=>n)
  (fun b o hc e=>⟨o,k b o (fun z=>hc (by simp[z])) e⟩) (fun _ _ e=>e) (fun _ _ _ e=>e) (fun b ps e=>⟨#[],by rw[e];simp⟩) (fun m hm=>?_) (fun b u e=>?_) I.bare
 ·have e:b=it:=by simpa using hb
  subst e
  exact⟨h1,hL,h2,h3⟩
 ·obtain⟨o,es,ep,ho,r⟩:=hm
  exact⟨o,es,ep,k _ o (Ne.symm hL) ho,r⟩
 ·refine (I.hok b u e).stay (fun c v hc q=>k c v ?_ q) (fun _ q=>q) fun _ _ q=>q
  rcases hc with z|z
  ·rw[z];exact nit b u e
  ·exact nit c _ z
theorem Inv.tok (I:Inv X pins σ H s) (t:Nat):Inv X pins σ H { s with toks:=t }:=I.un (h':=s.heap) (t':=t) Un.refl I.hok
theorem Inv.kept {t':Nat} (I:Inv X pins σ H s) (k:∀ b u,s.heap.get? b=some u->h'.get? b=some u):Inv X pins σ H { s with heap:=h',toks:=t' }:=I.un (Un.kept k) (I.hok.kept k)
theorem Inv.laid {a:Addr} {o:HO} {t':Nat} (I:Inv X pins σ H s) (k:∀ b u,s.heap.get? b=some u->h'.get? b=some u) (hp:s.heap.objs.size≤a) (new:ObjOk X.prog X.w (upd H a o) h' a o) :
  Inv X pins σ (upd H a o) { s with heap:=h',toks:=t' }:=I.un (Un.laid k hp (I.hok.fresh hp)) (I.hok.laid k hp new)
theorem Inv.write {x e:Addr} {o:HO} {t':Nat} (I:Inv X pins σ H s) (mu:Mut (H x)) (he:e=x∨H e=some (.own x)) (k:∀ b u,b≠e->s.heap.get? b=some u->h'.get? b=some u) (heo:∃ u,h'.get? e=some u)
  (new:ObjOk X.prog X.w (upd H x o) h' x o):Inv X pins σ (upd H x o) { s with heap:=h',toks:=t' }:=I.un (Un.write mu he k heo) (I.hok.write mu he k heo new)
theorem Inv.weak {σ':List (Option V)} (I:Inv X pins σ H s) (hl:σ'.length=σ.length) (w:∀ (i:Nat) v,σ'[i]?=some (some v)->σ[i]?=some (some v)):Inv X pins σ' H s :=
 ⟨I.ok,I.os,I.bare,I.base,let ⟨m,hn,hl'⟩:=I.loc;⟨m,hn,fun i x v e1 e2 e3=>hl' i x v e1 (w i v e2) e3⟩,I.cell,I.free,I.freeC,I.pin,I.hok,hl.trans I.len⟩
theorem Inv.pins_of {pins':List (Addr × Obj)} (I:Inv X pins σ H s) (h:∀ p∈pins',s.heap.get? p.1=some p.2∧H p.1=none∧p.1≠X.env.locals∧p.1∉X.fs∧∀ v,p.2.data≠.cell v):Inv X pins' σ H s :=
 ⟨I.ok,I.os,I.bare,I.base,I.loc,I.cell,I.free,I.freeC,fun p hp=>(List.mem_append.mp hp).elim (fun z=>I.pin p (List.mem_append_left _ z)) (h p),I.hok,I.len⟩
theorem nodup_ix {N:List Str} (hN:N.Nodup) {i j:Nat} {x:Str} (a:N[i]?=some x) (b:N[j]?=some x):i=j:=by
 obtain⟨h1,e1⟩:=List.getElem?_eq_some_iff.mp a
 obtain⟨h2,e2⟩:=List.getElem?_eq_some_iff.mp b
 exact (List.getElem_inj hN).mp (e1.trans e2.symm)
theorem store_ok2 {M:Model} {A:Around} {E:Value->Shared->Prop} {i:Nat} {x:Str} {v:V} {u:Value} {Q:Unit->Shared->Prop} (I:Inv X pins σ H s) (hN:X.N.Nodup) (hi:X.N[i]?=some x) (hx:Loc X.env.scope x) (r:RelV v u)
  (h:∀ s',Inv X pins (σ.set i (some v)) H s'->(∃ a,Heap.SameBut a s.heap s'.heap∧(a=X.env.locals∨X.env.cells.lookup x=some a))->Q () s') (hf:X.fn x=true∨X.env.scope.names.lookup x=some .local:=by first|exact .inl rfl|exact .inr rfl|assumption):wpAny M A (storeName X.env x u) Q E s:=by
 obtain⟨m,hn,hl⟩:=id I.loc
 have hcls:(X.env.scope.kind==.class || (X.env.scope.kind==.module&&X.env.locals != X.env.globals))=false:=by rw[I.ok.kind];rfl
 have hiσ:i < σ.length:=by rw[I.len];exact (List.getElem?_eq_some_iff.mp hi).1
 have cne:=I.cne
 have tracked:∀ {a:Addr} {h':Heap},(∃ o,s.heap.get? a=some o∧H a=none)->Heap.SameBut a s.heap h'->HOk X.prog X.w H h':=fun {a h'} ha hs b ob e=>by
  obtain⟨_,_,hfree⟩:=ha
  refine (I.hok b ob e).stay (fun c w' hc q=>(hs.2 c ?_).trans q) (fun _ q=>q) fun _ _ q=>q
  rintro rfl
  rcases hc with rfl|hc
  ·rw[hfree] at e;cases e
  ·rw[hfree] at hc;cases hc
 rcases hx with hk|hk
 ·refine wpAny_storeName_local hk hn (fun h' hn' hs=>?_) hcls
  obtain⟨oL,_,_,hoL,_⟩:=id hn
  refine h _ ⟨I.ok,I.os,I.bare,⟨fun b o e n hb hx=>?_,fun b o e n hb hx=>?_,I.base.free,fun b o e hx=>?_,I.base.tups,I.base.frzs,I.base.tbls⟩,⟨_,hn',fun j y v' e1 e2 e3=>?_⟩,fun y c e=>?_,I.free,I.freeC,fun p hp=>?_,tracked ⟨oL,hoL,I.free⟩ hs,by simpa using I.len⟩ ⟨_,hs,.inl rfl⟩
  ·exact (hs.2 b (Nat.ne_of_lt (Nat.lt_of_lt_of_le (Heap.lt_size e) I.ok.above))).trans (I.base.keep b o e n hb hx)
  ·obtain⟨sl,e1⟩:=I.base.slot b o e n hb hx
   exact⟨sl,(hs.2 b (Nat.ne_of_lt (Nat.lt_of_lt_of_le (Heap.lt_size e) I.ok.above))).trans e1⟩
  ·obtain⟨o',e1⟩:=I.base.there b o e hx
   exact⟨o',(hs.2 b (Nat.ne_of_lt (Nat.lt_of_lt_of_le (Heap.lt_size e) I.ok.above))).trans e1⟩
  ·by_cases hj:j=i
   ·subst hj
    rw[hi] at e1;cases e1
    rw[List.getElem?_set_self hiσ] at e2
    cases e2
    exact⟨u,r,.inl ⟨hk,by simp⟩⟩
   ·rw[List.getElem?_set_ne (Ne.symm hj)] at e2
    obtain⟨u',r',q⟩:=hl j y v' e1 e2 e3
    refine⟨u',r',?_⟩
    rcases q with ⟨k,e⟩|⟨k,c,e,z⟩
    ·refine .inl ⟨k,?_⟩
     have:y≠x:=fun e=>hj (nodup_ix hN e1 (e▸hi))
     simp[this,e]
    ·exact .inr ⟨k,c,e,z.sameBut hs (cne y c e)⟩
  ·obtain⟨w',z⟩:=I.cell y c e
   exact⟨w',z.sameBut hs (cne y c e)⟩
  ·obtain⟨e,n,ne,nf,d⟩:=I.pin p hp
   exact⟨(hs.2 p.1 ne).trans e,n,ne,nf,d⟩
 ·have hfn:X.fn x=true:=by
   rcases hf with z|z
   ·exact z
   ·rw[z] at hk;cases hk
  obtain⟨c,hc⟩:=I.ok.has x (.inl hk)
  obtain⟨w',z⟩:=I.cell x c hc
  refine wpAny_storeName_cell I.ok.kind hk hc z (fun h' hc' hs=>?_)
  obtain⟨oc,hoc,hocd⟩:=id z
  refine h { s with heap:=h' } ⟨I.ok,I.os,I.bare,⟨fun b o e n hb hx=>?_,fun b o e n hb hx=>?_,I.base.free,fun b o e hx=>?_,I.base.tups,I.base.frzs,I.base.tbls⟩,⟨m,hn.sameBut hs (Ne.symm (cne x c hc)),fun j y v' e1 e2 e3=>?_⟩,fun y c' e=>?_,I.free,I.freeC,fun p hp=>?_,tracked ⟨oc,hoc,I.freeC x c hc⟩ hs,by simpa using I.len⟩ ⟨c,hs,.inr hc⟩
  ·exact (hs.2 b (Nat.ne_of_lt (Nat.lt_of_lt_of_le (Heap.lt_size e) (I.ok.cab x c hfn hc)))).trans (I.base.keep b o e n hb hx)
  ·obtain⟨sl,e1⟩:=I.base.slot b o e n hb hx
   exact⟨sl,(hs.2 b (Nat.ne_of_lt (Nat.lt_of_lt_of_le (Heap.lt_size e) (I.ok.cab x c hfn hc)))).trans e1⟩
  ·obtain⟨o',e1⟩:=I.base.there b o e hx
   exact⟨o',(hs.2 b (Nat.ne_of_lt (Nat.lt_of_lt_of_le (Heap.lt_size e) (I.ok.cab x c hfn hc)))).trans e1⟩
  ·by_cases hj:j=i
   ·subst hj
    rw[hi] at e1;cases e1
    rw[List.getElem?_set_self hiσ] at e2
    cases e2
    exact⟨u,r,.inr ⟨.inl hk,c,hc,hc'⟩⟩
   ·rw[List.getElem?_set_ne (Ne.symm hj)] at e2
    obtain⟨u',r',q⟩:=hl j y v' e1 e2 e3
    refine⟨u',r',?_⟩
    rcases q with q|⟨k,c',e,z'⟩
    ·exact .inl q
    ·refine .inr ⟨k,c',e,z'.sameBut hs ?_⟩
     rintro rfl
     exact hj (nodup_ix hN e1 (I.ok.inj _ _ _ e hc▸hi))
  ·by_cases hcc:c'=c
   ·subst hcc;exact⟨_,hc'⟩
   ·obtain⟨w2,z2⟩:=I.cell y c' e
    exact⟨w2,z2.sameBut hs hcc⟩
  ·obtain⟨e,n,ne,nf,d⟩:=I.pin p hp
   refine⟨(hs.2 p.1 ?_).trans e,n,ne,nf,d⟩
   intro q
   rw[q,hoc] at e
   have q':oc=p.2:=Option.some.inj e
   exact d w' (by rw[← q'];exact hocd)
theorem store_ok {M:Model} {A:Around} {E:Value->Shared->Prop} {i:Nat} {x:Str} {v:V} {u:Value} {Q:Unit->Shared->Prop} (I:Inv X pins σ H s) (hN:X.N.Nodup) (hi:X.N[i]?=some x) (hx:Loc X.env.scope x) (r:RelV v u)
  (h:∀ s',Inv X pins (σ.set i (some v)) H s'->Q () s') (hf:X.fn x=true∨X.env.scope.names.lookup x=some .local:=by first|exact .inl rfl|exact .inr rfl|assumption):wpAny M A (storeName X.env x u) Q E s :=
 store_ok2 I hN hi hx r (fun s' I' _=>h s' I') hf
theorem Inv.call' {s':Shared} {ch:List Addr} (I:Inv X pins σ H s) (ho:s'.os=s.os) (u:Un (frs X.stack) ch H H' s.heap s'.heap) (hok:HOk X.prog X.w H' s'.heap) (hg:AllBare s'.gens)
  (hch:∀ b∈ch,(b∈X.ex∨X.s_0.heap.objs.size≤b)∧b≠X.env.locals∧(∀ x c,X.env.cells.lookup x=some c->c≠b)∧∀ p∈X.pn++pins,p.1≠b):Inv X pins σ H' s':=by
 obtain⟨h',g',d',t',o'⟩:=s'
 have e:o'=s.os:=ho
 subst e
 exact I.call (g':=g') (t':=t') (d':=d') u hok hg hch
end
abbrev XK:=Value->Option Addr->Hp->Prop
abbrev St:=List (Option V)
abbrev VK:=V->Hp->Prop
abbrev TE:=St->Hp->VK->Prop
abbrev TT:=St->Hp->(Bool->Hp->Prop)->Prop
abbrev TA:=St->Hp->(List V->Hp->Prop)->Prop
structure Ends where
 nx:St->Hp->Prop
 rt:VK
 bk:St->Hp->Prop:=fun _ _=>False
 ct:St->Hp->Prop:=fun _ _=>False
abbrev TS:=Ends->St->Hp->Prop
def EP (X:Cx) (pins:List (Addr × Obj)) (σ:St) (Q:VK) (u:Value) (s':Shared):Prop:=∃ v H',Inv X pins σ H' s'∧RelV v u∧Q v H'
def TP (X:Cx) (pins:List (Addr × Obj)) (σ:St) (Q:Bool->Hp->Prop) (b:Bool) (s':Shared):Prop:=∃ H',Inv X pins σ H' s'∧Q b H'
def AP (X:Cx) (pins:List (Addr × Obj)) (σ:St) (Q:List V->Hp->Prop) (us:List Value) (s':Shared):Prop:=∃ vs H',Inv X pins σ H' s'∧Vals vs us∧Q vs H'
def SP (X:Cx) (pins:List (Addr × Obj)) (D:Ends) (f:Flow) (s':Shared):Prop :=
 match f with
 | .next=>∃ σ' H',Inv X pins σ' H' s'∧D.nx σ' H'
 | .brk=>∃ σ' H',Inv X pins σ' H' s'∧D.bk σ' H'
 | .cont=>∃ σ' H',Inv X pins σ' H' s'∧D.ct σ' H'
 | .ret u=>∃ v σ' H',Inv X pins σ' H' s'∧RelV v u∧D.rt v H'
def PE (X:Cx) (e:Expr) (t:TE):Prop :=
 ∀ (pins:List (Addr × Obj)) (s:Shared) (σ:St) (H:Hp) (Q:VK),Inv X pins σ H s->t σ H Q->wpAny (model X.prog X.w) X.A (eval e X.env) (EP X pins σ Q) X.xe s
def PT (X:Cx) (e:Expr) (t:TT):Prop :=
 ∀ (pins:List (Addr × Obj)) (s:Shared) (σ:St) (H:Hp) (Q:Bool->Hp->Prop),Inv X pins σ H s->t σ H Q->wpAny (model X.prog X.w) X.A (isTrue e X.env (eval e X.env)) (TP X pins σ Q) X.xe s
def PW (X:Cx) (e:Expr) (t:TT):Prop :=
 ∀ (whole:Sem Value) (pins:List (Addr × Obj)) (s:Shared) (σ:St) (H:Hp) (Q:Bool->Hp->Prop),Inv X pins σ H s->t σ H Q->wpAny (model X.prog X.w) X.A (isTrue e X.env whole) (TP X pins σ Q) X.xe s
theorem PW.pt {X:Cx} {e:Expr} {t:TT} (h:PW X e t):PT X e t:=h _
def PA (X:Cx) (es:List Expr) (t:TA):Prop :=
 ∀ (pos:Pos) (pins:List (Addr × Obj)) (s:Shared) (σ:St) (H:Hp) (Q:List V->Hp->Prop),Inv X pins σ H s->t σ H Q->wpAny (model X.prog X.w) X.A (spliced (backTo pos (starEach es X.env))) (AP X pins σ Q) X.xe s
def PS (X:Cx) (st:Stmt) (t:TS):Prop :=
 ∀ (pins:List (Addr × Obj)) (s:Shared) (σ:St) (H:Hp) (D:Ends),Inv X pins σ H s->t D σ H->wpAny (model X.prog X.w) X.A (exec st X.env) (SP X pins D) X.xe s
def PSs (X:Cx) (st:List Stmt) (t:TS):Prop :=
 ∀ (pins:List (Addr × Obj)) (s:Shared) (σ:St) (H:Hp) (D:Ends),Inv X pins σ H s->t D σ H->wpAny (model X.prog X.w) X.A (execs st X.env) (SP X pins D) X.xe s
theorem thn {α:Type} {t:Sem α} {Q Q':α->Shared->Prop} {M:Model} {A:Around} {E:Value->Shared->Prop} {s:Shared} (h:wpAny M A t Q E s) (hQ:∀ a s,Q a s->Q' a s):wpAny M A t Q' E s:=wpAny_mono h hQ fun _ _ x=>x
end L2
namespace L2
open PySem PySem.Spec PyProof.Rows
section
variable {X:Cx}
theorem bin {a b:Expr} {ta tb:TE} (ha:PE X a ta) (hb:PE X b tb) {pins:List (Addr × Obj)} {s:Shared} {σ:St} {H:Hp} {R:V->V->Hp->Prop} (I:Inv X pins σ H s) (h:ta σ H fun x H1=>tb σ H1 fun y H2=>R x y H2)
  {α:Type} {Q:α->Shared->Prop} {f:Value->Value->Sem α}
  (hf:∀ v u s2 x y H2,Inv X pins σ H2 s2->RelV x v->RelV y u->R x y H2->wpAny (model X.prog X.w) X.A (f v u) Q X.xe s2) :
  wpAny (model X.prog X.w) X.A (eval a X.env) (fun v s₁=>wpAny (model X.prog X.w) X.A (eval b X.env) (fun u s₂=>wpAny (model X.prog X.w) X.A (f v u) Q X.xe s₂) X.xe s₁) X.xe s:=by
 refine thn (ha pins s σ H _ I h) fun v s1 ⟨x,H1,I1,r1,q1⟩=>?_
 refine thn (hb pins s1 σ H1 _ I1 q1) fun u s2 ⟨y,H2,I2,r2,q2⟩=>?_
 exact hf v u s2 x y H2 I2 r1 r2 q2
def tVar (i:Nat):TE:=fun σ H Q=>∃ v,σ[i]?=some (some v)∧Q v H
def tC (v:V):TE:=fun _ H Q=>Q v H
theorem pe_var {i:Nat} {x:Str} {pos:Pos} (hN:X.N[i]?=some x) (hv:Vis X.env.scope x) (hd:(x==("__debug__":Str))=false:=by decide) (hcd:(x==("__classdict__":Str))=false:=by decide):PE X (.Name x pos) (tVar i):=by
 intro pins s σ H Q I h
 obtain⟨v,e,h⟩:=h
 obtain⟨m,hn,hl⟩:=I.loc
 obtain⟨u,r,l⟩:=hl i x v hN e hv
 have fin:EP X pins σ Q u s:=⟨v,H,I,r,h⟩
 rcases l with ⟨hk,hm⟩|⟨hk,c,hc,hcell⟩
 ·exact wpAny_Name (wpAny_loadName_local I.ok.kind hk hn hm fin) hd
 ·rcases hk with hk|hk
  ·exact wpAny_Name (wpAny_loadName_cell I.ok.kind hk hc hcell fin) hd
  ·exact wpAny_Name (wpAny_loadName_free I.ok.kind hk hc hcell fin hcd) hd
theorem k0n {i j pos}:PE X (.Constant (.int i) j pos) (tC (.int i)):=fun _ _ _ H _ I h=>wpAny_Constant_int ⟨.int i,H,I.tok _,⟨_,rfl⟩,h⟩
theorem pe_bl {b j pos}:PE X (.Constant (.bool b) j pos) (tC (.bl b)):=fun _ _ _ H _ I h=>Constant_bool ⟨.bl b,H,I,rfl,h⟩
def Gl (X:Cx) (x:Str):Prop:=X.env.kindOf x=some .globalImplicit
theorem ld_glob {E:Value->Shared->Prop} {pins:List (Addr × Obj)} {s:Shared} {σ:St} {H:Hp} {x:Str} {u:Value} {pos:Pos} {Q:Value->Shared->Prop} (I:Inv X pins σ H s) (hg:Gl X x) (hm:X.mg x=some u) (h:Q u s)
  (hd:(x==("__debug__":Str))=false:=by decide):wpAny (model X.prog X.w) X.A (eval (.Name x pos) X.env) Q E s :=
 Calls.Name_function_global I.ok.kind hg (Calls.loadGlobal_global (by rw[I.ok.glob];exact I.mod.glob.keeps I.bk) hm h) hd
theorem ld_blt {E:Value->Shared->Prop} {pins:List (Addr × Obj)} {s:Shared} {σ:St} {H:Hp} {x:Str} {u:Value} {pos:Pos} {Q:Value->Shared->Prop} (I:Inv X pins σ H s) (hg:Gl X x) (hm:X.mg x=none) (hv:bootBuiltins x=some u) (h:Q u s)
  (hn:x≠"__name__":=by decide) (hd:(x==("__debug__":Str))=false:=by decide):wpAny (model X.prog X.w) X.A (eval (.Name x pos) X.env) Q E s:=by
 obtain⟨mb,h1,h2⟩:=I.mod.blt
 exact Calls.Name_function_global I.ok.kind hg (Calls.loadGlobal_builtin (by rw[I.ok.glob];exact I.mod.glob.keeps I.bk) hm (by rw[I.ok.blt];exact h1.keeps I.bk) ((h2 x hn).trans hv) h) hd
theorem pe_glob {x:Str} {v:V} {u:Value} {pos:Pos} (hg:Gl X x) (hm:X.mg x=some u) (r:RelV v u) (hd:(x==("__debug__":Str))=false:=by decide):PE X (.Name x pos) (tC v) :=
 fun _ _ _ H _ I h=>ld_glob I hg hm ⟨v,H,I,r,h⟩ hd
variable {a b:Expr} {ta tb:TE} {pos:Pos}
def tB (t:TE):TT:=fun σ H Q=>t σ H fun x H1=>∃ c,x=.bl c∧Q c H1
variable {tA tB':TT} {rest:List Expr}
def tAnd (t u:TT):TT:=fun σ H Q=>t σ H fun c H1=>if c=true then u σ H1 Q else Q false H1
def tOr (t u:TT):TT:=fun σ H Q=>t σ H fun c H1=>if c=true then Q true H1 else u σ H1 Q
def tNot (t:TT):TT:=fun σ H Q=>t σ H fun c H1=>Q (!c) H1
theorem pw_and1 (ha:PT X a tA):PW X (.BoolOp .And [a] pos) tA:=by
 intro wh pins s σ H Q I h
 refine isTrue_and (thn (ha pins s σ H Q I h) fun c s1 e=>?_)
 cases c with
 | true=>exact isTrue_and_nil e
 | false=>exact e
theorem pw_or1 (ha:PT X a tA):PW X (.BoolOp .Or [a] pos) tA:=by
 intro wh pins s σ H Q I h
 refine isTrue_or (thn (ha pins s σ H Q I h) fun c s1 e=>?_)
 cases c with
 | false=>exact isTrue_or_nil e
 | true=>exact e
theorem pw_and (ha:PT X a tA) (hb:PW X (.BoolOp .And (b::rest) pos) tB'):PW X (.BoolOp .And (a::b::rest) pos) (tAnd tA tB'):=by
 intro wh pins s σ H Q I h
 refine isTrue_and (thn (ha pins s σ H _ I h) fun c s1 ⟨H1,I1,q1⟩=>?_)
 cases c with
 | true=>exact hb wh pins s1 σ H1 Q I1 q1
 | false=>exact⟨H1,I1,q1⟩
theorem pw_or (ha:PT X a tA) (hb:PW X (.BoolOp .Or (b::rest) pos) tB'):PW X (.BoolOp .Or (a::b::rest) pos) (tOr tA tB'):=by
 intro wh pins s σ H Q I h
 refine isTrue_or (thn (ha pins s σ H _ I h) fun c s1 ⟨H1,I1,q1⟩=>?_)
 cases c with
 | true=>exact⟨H1,I1,q1⟩
 | false=>exact hb wh pins s1 σ H1 Q I1 q1
theorem pt_not (ha:PT X a tA):PT X (.UnaryOp .Not a pos) (tNot tA):=by
 intro pins s σ H Q I h
 exact isTrue_not (ha pins s σ H (fun c H1=>Q (!c) H1) I h)
def tAndV (ta tb:TE):TE:=fun σ H Q=>ta σ H fun x H1=>∃ c,x=.bl c∧if c=true then tb σ H1 Q else Q (.bl false) H1
def tOrV (ta tb:TE):TE:=fun σ H Q=>ta σ H fun x H1=>∃ c,x=.bl c∧if c=true then Q (.bl true) H1 else tb σ H1 Q
def tNotV (ta:TE):TE:=fun σ H Q=>ta σ H fun x H1=>∃ c,x=.bl c∧Q (.bl (!c)) H1
theorem pe_one {op} {t:TE} (h:PE X a t):PE X (.BoolOp op [a] pos) t:=fun pins s σ H Q I hw=>BoolOp_one (h pins s σ H Q I hw)
theorem pe_and (ha:PE X a ta) (hb:PE X (.BoolOp .And (b::rest) pos) tb):PE X (.BoolOp .And (a::b::rest) pos) (tAndV ta tb):=by
 intro pins s σ H Q I h
 refine BoolOp_and (thn (ha pins s σ H _ I h) fun v s1 ⟨x,H1,I1,r1,q1⟩=>?_)
 obtain⟨c,rfl,q1⟩:=q1
 cases r1
 refine wpAny_truthy_bool ?_
 cases c with
 | true=>exact hb pins s1 σ H1 Q I1 q1
 | false=>exact⟨.bl false,H1,I1,rfl,q1⟩
theorem pe_or (ha:PE X a ta) (hb:PE X (.BoolOp .Or (b::rest) pos) tb):PE X (.BoolOp .Or (a::b::rest) pos) (tOrV ta tb):=by
 intro pins s σ H Q I h
 refine BoolOp_or (thn (ha pins s σ H _ I h) fun v s1 ⟨x,H1,I1,r1,q1⟩=>?_)
 obtain⟨c,rfl,q1⟩:=q1
 cases r1
 refine wpAny_truthy_bool ?_
 cases c with
 | false=>exact hb pins s1 σ H1 Q I1 q1
 | true=>exact⟨.bl true,H1,I1,rfl,q1⟩
theorem pe_not (ha:PE X a ta):PE X (.UnaryOp .Not a pos) (tNotV ta):=by
 intro pins s σ H Q I h
 refine UnaryOp_ (thn (ha pins s σ H _ I h) fun v s1 ⟨x,H1,I1,r1,q1⟩=>?_)
 obtain⟨c,rfl,q1⟩:=q1
 cases r1
 exact not_of (wpAny_truthy_bool ⟨.bl (!c),H1,I1,rfl,q1⟩)
def tIf (t:TT) (ta tb:TE):TE:=fun σ H Q=>t σ H fun c H1=>if c=true then ta σ H1 Q else tb σ H1 Q
theorem pe_ifExp {c:Expr} (hc:PT X c tA) (ha:PE X a ta) (hb:PE X b tb):PE X (.IfExp c a b pos) (tIf tA ta tb):=by
 intro pins s σ H Q I h
 refine wpAny_IfExp (thn (hc pins s σ H _ I h) fun d s1 ⟨H1,I1,q1⟩=>?_)
 cases d with
 | true=>exact ha pins s1 σ H1 Q I1 q1
 | false=>exact hb pins s1 σ H1 Q I1 q1
end
end L2
namespace L2
open PySem PySem.Spec PyProof.Rows
def SqL (K:PySem.W.Frag) (H:Hp) (a:Addr) (xs:List V):Prop :=
 Rd H a (.lst xs) ∨
  ∃ (o:Obj) (its:Array Value) (n:Nat),K.lookup a=some o∧o.cls=.type "list"∧o.dict=none∧o.data=.seq its n∧its.size≤sizeLine∧Vals xs its.toList
def SqT (K:PySem.W.Frag) (H:Hp) (a:Addr) (xs:List V):Prop :=
 Rd H a (.tup xs) ∨
  ∃ (o:Obj) (its:Array Value) (n:Nat),K.lookup a=some o∧o.cls=.type "tuple"∧o.data=.seq its n∧its.size≤sizeLine∧Vals xs its.toList
def absV:Value->Option V
 | .none=>some .non
 | .bool b=>some (.bl b)
 | .int i _=>some (.int i)
 | .str x _=>some (.str x)
 | .bytes b _=>some (.byt b)
 | .float b _=>some (.flt b)
 | .ref a=>some (.ref a)
 | .type n=>some (.ty n)
 | _=>none
theorem RelV.abs {x:V} {u:Value} (r:RelV x u):absV u=some x:=by
 cases x with
 | non=>cases r;rfl
 | bl _=>cases r;rfl
 | int _=>obtain⟨t,rfl⟩:=r;rfl
 | str _=>obtain⟨t,rfl⟩:=r;rfl
 | byt _=>obtain⟨t,rfl⟩:=r;rfl
 | flt _=>obtain⟨t,rfl⟩:=r;rfl
 | ref _=>cases r;rfl
 | ty _=>cases r;rfl
theorem RelV.inj {x y:V} {u:Value} (r:RelV x u) (q:RelV y u):x=y:=Option.some.inj (r.abs.symm.trans q.abs)
theorem Vals.inj:∀ {xs ys:List V} {us:List Value},Vals xs us->Vals ys us->xs=ys
 | _,_,_,.nil,.nil=>rfl
 | _,_,_,.cons r t,.cons r' t'=>by rw[r.inj r',Vals.inj t t']
section
variable {X:Cx} {pins:List (Addr × Obj)} {σ:St} {H:Hp} {s:Shared} {a:Addr} {xs ys:List V}
theorem SqL.of {K:PySem.W.Frag} (h:H a=some (.lst xs)):SqL K H a xs:=.inl (.inl h)
theorem SqT.of {K:PySem.W.Frag} (h:H a=some (.tup xs)):SqT K H a xs:=.inl (.inl h)
theorem Inv.list (I:Inv X pins σ H s) (h:SqL X.K H a xs):∃ its:List Value,Vals xs its∧PlainL s.heap a its.toArray∧xs.length≤sizeLine:=by
 rcases h with h|⟨o,its,n,hk,hc,hd,hs,hz,r⟩
 ·obtain⟨z,its,n,r,e⟩:=h.ok I.hok
  exact⟨its,r,⟨_,n,e,rfl,rfl,rfl⟩,z⟩
 ·refine⟨its.toList,r,⟨o,n,I.kIn a o hk,hc,hd,by simpa using hs⟩,?_⟩
  have e:=r.length
  simp only[Array.length_toList] at e
  omega
theorem Inv.tuple (I:Inv X pins σ H s) (h:SqT X.K H a xs):∃ its:List Value,Vals xs its∧IsTup s.heap a its.toArray∧xs.length≤sizeLine:=by
 rcases h with h|⟨o,its,n,hk,hc,hs,hz,r⟩
 ·obtain⟨z,its,r,p⟩:=h.ok I.hok
  exact⟨its,r,p,z⟩
 ·refine⟨its.toList,r,⟨o,I.kIn a o hk,hc,n,by simpa using hs⟩,?_⟩
  have e:=r.length
  simp only[Array.length_toList] at e
  omega
theorem Inv.list_inj (I:Inv X pins σ H s) (h:SqL X.K H a xs) (h':SqL X.K H a ys):xs=ys:=by
 obtain⟨its,r,⟨o,n,e,_,_,d⟩,_⟩:=I.list h
 obtain⟨its',r',⟨o',n',e',_,_,d'⟩,_⟩:=I.list h'
 rw[e] at e';cases e'
 rw[d] at d'
 injection d' with d1 _
 have:its=its':=by simpa using congrArg Array.toList d1
 subst this
 exact r.inj r'
end
abbrev Cx.wish (X:Cx) (E:Value->Shared->Prop):Cx:={ X with xe:=E }
abbrev Cx.nox (X:Cx):Cx:=X.wish fun _ _=>False
theorem Cx.Ok.wish {X:Cx} (ok:X.Ok) (E:Value->Shared->Prop):(X.wish E).Ok :=
 ⟨ok.mod,ok.kind,ok.glob,ok.blt,ok.above,ok.inj,ok.has,ok.cab,ok.hd,ok.frames,ok.stk,ok.exf,ok.bs,ok.bsz,ok.noex,ok.exfs,ok.funs,ok.frf⟩
theorem Cx.Ok.unwish {X:Cx} {E:Value->Shared->Prop} (ok:(X.wish E).Ok):X.Ok :=
 ⟨ok.mod,ok.kind,ok.glob,ok.blt,ok.above,ok.inj,ok.has,ok.cab,ok.hd,ok.frames,ok.stk,ok.exf,ok.bs,ok.bsz,ok.noex,ok.exfs,ok.funs,ok.frf⟩
section
variable {X:Cx} {pins:List (Addr × Obj)} {σ:St} {H:Hp} {s:Shared} {E:Value->Shared->Prop}
theorem Inv.wish (I:Inv X pins σ H s) (E:Value->Shared->Prop):Inv (X.wish E) pins σ H s:=⟨I.ok.wish E,I.os,I.bare,I.base,I.loc,I.cell,I.free,I.freeC,I.pin,I.hok,I.len⟩
theorem Inv.unwish (I:Inv (X.wish E) pins σ H s):Inv X pins σ H s:=⟨I.ok.unwish,I.os,I.bare,I.base,I.loc,I.cell,I.free,I.freeC,I.pin,I.hok,I.len⟩
theorem SP.unwish {D:Ends} {f:Flow} {s':Shared} (h:SP (X.wish E) pins D f s'):SP X pins D f s':=by
 cases f with
 | next=>obtain⟨σ',H',I,q⟩:=h;exact⟨σ',H',I.unwish,q⟩
 | brk=>obtain⟨σ',H',I,q⟩:=h;exact⟨σ',H',I.unwish,q⟩
 | cont=>obtain⟨σ',H',I,q⟩:=h;exact⟨σ',H',I.unwish,q⟩
 | ret u=>obtain⟨v,σ',H',I,r,q⟩:=h;exact⟨v,σ',H',I.unwish,r,q⟩
theorem PSs.nox {st:List Stmt} {t:TS} (h:PSs X.nox st t):PSs X st t:=fun pins s σ H D I hw =>
 wpAny_mono (h pins s σ H D (I.wish _) hw) (fun _ _ q=>q.unwish) fun _ _ z=>False.elim z
end
section
variable {X:Cx} {st:Stmt} {rest:List Stmt} {t u:TS} {e:Expr} {te:TE} {pos:Pos}
def tNext:TS:=fun D σ H=>D.nx σ H
def tSeq (t u:TS):TS:=fun D σ H=>t { D with nx:=u D } σ H
theorem k0z:PSs X [] tNext:=fun _ _ σ H _ I h=>wpAny_execs_nil ⟨σ,H,I,h⟩
theorem k0e (h1:PS X st t) (h2:PSs X rest u):PSs X (st::rest) (tSeq t u):=by
 intro pins s σ H D I h
 refine wpAny_execs_cons (thn (h1 pins s σ H { D with nx:=u D } I h) fun f s1 q=>?_)
 cases f with
 | next =>
  obtain⟨σ',H',I',q⟩:=q
  exact h2 pins s1 σ' H' D I' q
 | ret v=>exact q
 | brk=>exact q
 | cont=>exact q
theorem k0j (h1:PS X st t):PSs X [st] t:=by
 intro pins s σ H D I h
 refine wpAny_execs_cons (thn (h1 pins s σ H D I h) fun f s1 q=>?_)
 cases f with
 | next=>exact wpAny_execs_nil q
 | ret v=>exact q
 | brk=>exact q
 | cont=>exact q
def tBreak:TS:=fun D σ H=>D.bk σ H
theorem ps_break:PS X (.Break pos) tBreak:=fun _ _ σ H _ I h=>wpAny_Break ⟨σ,H,I,h⟩
theorem Inv.quiet {pins:List (Addr × Obj)} {σ:St} {H:Hp} {s:Shared} (I:Inv X pins σ H s):interactive X.env=false:=by simp[interactive,I.ok.kind]
def tDrop (te:TE):TS:=fun D σ H=>te σ H fun _ H1=>D.nx σ H1
theorem ps_expr (he:PE X e te) (hs:swapsWith e none pos.line X.env=pure false:=by rfl):PS X (.Expr e pos) (tDrop te):=by
 intro pins s σ H D I h
 exact wpAny_Expr_any (thn (he pins s σ H _ I h) fun v s1 ⟨x,H1,I1,r1,q1⟩=>⟨σ,H1,I1,q1⟩) I.quiet hs
def tRet (te:TE):TS:=fun D σ H=>te σ H D.rt
theorem k0q (he:PE X e te):PS X (.Return (some e) pos) (tRet te):=by
 intro pins s σ H D I h
 exact wpAny_Return_some (thn (he pins s σ H _ I h) fun v s1 ⟨x,H1,I1,r1,q1⟩=>⟨x,σ,H1,I1,r1,q1⟩)
def tIfS (c:TT) (t u:TS):TS:=fun D σ H=>c σ H fun b H1=>if b=true then t D σ H1 else u D σ H1
theorem ps_if {c:Expr} {a b:List Stmt} {tc:TT} (hc:PT X c tc) (ha:PSs X a t) (hb:PSs X b u):PS X (.If c a b pos) (tIfS tc t u):=by
 intro pins s σ H D I h
 refine wpAny_If (thn (hc pins s σ H _ I h) fun d s1 ⟨H1,I1,q1⟩=>?_)
 cases d with
 | true=>exact ha pins s1 σ H1 D I1 q1
 | false=>exact hb pins s1 σ H1 D I1 q1
end
abbrev TG:=V->St->Hp->(St->Hp->Prop)->Prop
abbrev TGs:=List V->St->Hp->(St->Hp->Prop)->Prop
def PG (X:Cx) (target:Expr) (t:TG):Prop :=
 ∀ (pins:List (Addr × Obj)) (s:Shared) (σ:St) (H:Hp) (v:V) (u:Value) (Q:St->Hp->Prop),Inv X pins σ H s->RelV v u->t v σ H Q ->
  wpAny (model X.prog X.w) X.A (assign target X.env u) (fun _ s'=>∃ σ' H',Inv X pins σ' H' s'∧Q σ' H') X.xe s
def PGs (X:Cx) (ts:List Expr) (t:TGs):Prop :=
 ∀ (pins:List (Addr × Obj)) (s:Shared) (σ:St) (H:Hp) (vs:List V) (us:List Value) (Q:St->Hp->Prop),Inv X pins σ H s->Vals vs us->t vs σ H Q ->
  wpAny (model X.prog X.w) X.A (assignInOrder ((assignEach ts X.env).map (·.2)) us) (fun _ s'=>∃ σ' H',Inv X pins σ' H' s'∧Q σ' H') X.xe s
abbrev TSet:=V->V->V->Hp->(Hp->Prop)->Prop
def PSet (X:Cx) (t:TSet):Prop :=
 ∀ (pins:List (Addr × Obj)) (s:Shared) (σ:St) (H:Hp) (o i v:V) (ov iv u:Value) (Q:Hp->Prop),Inv X pins σ H s->RelV o ov->RelV i iv->RelV v u->t o i v H Q ->
  wpAny (model X.prog X.w) X.A (setItem ov iv u) (fun _ s'=>∃ H',Inv X pins σ H' s'∧Q H') X.xe s
abbrev TIp:=V->V->Hp->VK->Prop
def PIp (X:Cx) (op:Operator) (t:TIp):Prop :=
 ∀ (pins:List (Addr × Obj)) (s:Shared) (σ:St) (H:Hp) (x y:V) (v u:Value) (Q:VK),Inv X pins σ H s->RelV x v->RelV y u->t x y H Q ->
  wpAny (model X.prog X.w) X.A (inplaceOp op v u) (EP X pins σ Q) X.xe s
section
variable {X:Cx} {pos:Pos}
def gName (i:Nat):TG:=fun v σ H Q=>Q (σ.set i (some v)) H
theorem k1f {i:Nat} {x:Str} (hN:X.N.Nodup) (hi:X.N[i]?=some x) (hx:Loc X.env.scope x) (hf:X.fn x=true∨X.env.scope.names.lookup x=some .local:=by first|exact .inl rfl|exact .inr rfl|assumption):PG X (.Name x pos) (gName i):=by
 intro pins s σ H v u Q I r h
 exact wpAny_assign_Name (store_ok I hN hi hx r (fun s' I'=>⟨_,H,I',h⟩) hf)
def gNil:TGs:=fun vs σ H Q=>vs=[]∧Q σ H
def gCons (t:TG) (u:TGs):TGs:=fun vs σ H Q=>∃ v r,vs=v::r∧t v σ H fun σ' H'=>u r σ' H' Q
theorem pgs_nil:PGs X [] gNil:=by
 intro pins s σ H vs us Q I r h
 obtain⟨e,h⟩:=h
 subst e
 cases r
 exact assignInOrder_nil ⟨σ,H,I,h⟩
theorem k1h {e:Expr} {es:List Expr} {t:TG} {u:TGs} (h1:PG X e t) (h2:PGs X es u)
  (hs:(assignEach (e::es) X.env).map (·.2)=assign e X.env::(assignEach es X.env).map (·.2):=by rfl):PGs X (e::es) (gCons t u):=by
 intro pins s σ H vs us Q I r h
 obtain⟨v,vr,e1,h⟩:=h
 subst e1
 cases r with
 | cons r rr =>
  rw[hs]
  refine assignInOrder_cons (thn (h1 pins s σ H _ _ _ I r h) fun _ s1 ⟨σ1,H1,I1,q1⟩=>?_)
  exact h2 pins s1 σ1 H1 _ _ Q I1 rr q1
def gTup (K:PySem.W.Frag) (n:Nat) (t:TGs):TG:=fun v σ H Q=>∃ a xs,v=.ref a∧SqT K H a xs∧xs.length=n∧t xs σ H Q
theorem pg_tup {es:List Expr} {k:Nat} {t:TGs} {n:Nat} (hc:X.calm=true) (h:PGs X es t)
  (hn:(assignEach es X.env).length=n:=by rfl) (hst:(assignEach es X.env).findIdx? (·.1)=none:=by rfl):PG X (.Tuple es k pos) (gTup X.K n t):=by
 intro pins s σ H v u Q I r hw
 obtain⟨a,xs,e1,hq,hl,hw⟩:=hw
 subst e1
 cases r
 obtain⟨its,rv,ht,hz⟩:=I.tuple hq
 refine assign_Tuple_tuple (I.ok.hd hc) ht (by simp[hn,← hl,rv.length]) hst fun h' hx=>?_
 have I1:Inv X pins σ H { s with heap:=h' }:=I.kept (t':=s.toks) fun b o e=>hx b o (Nat.ne_of_lt (Heap.lt_size e)) e
 exact h pins _ σ H xs _ Q I1 (by simpa using rv) hw
def gSub (to ti:TE) (t:TSet):TG:=fun v σ H Q=>to σ H fun o H1=>ti σ H1 fun i H2=>t o i v H2 fun H3=>Q σ H3
theorem pg_sub {o i:Expr} {to ti:TE} {t:TSet} (ho:PE X o to) (hi:PE X i ti) (hs:PSet X t)
  (ha:∀ v,assign (.Subscript o i pos) X.env v=(do
   let ov ← holding [v] (eval o X.env)
   let iv ← holding [v,ov] (eval i X.env)
   standAt pos
   holding [v,ov,iv] (setItem ov iv v)
   release [v,ov,iv] []):=by intro _;rfl):PG X (.Subscript o i pos) (gSub to ti t):=by
 intro pins s σ H v u Q I r h
 rw[ha]
 refine wpAny_bind (wpAny_holding (thn (ho pins s σ H _ I h) fun ov s1 ⟨x,H1,I1,r1,q1⟩=>?_))
 refine wpAny_bind (wpAny_holding (thn (hi pins s1 σ H1 _ I1 q1) fun iv s2 ⟨y,H2,I2,r2,q2⟩=>?_))
 refine wpAny_bind (wpAny_standAt (wpAny_bind (wpAny_holding (thn (hs pins s2 σ H2 x y v ov iv u _ I2 r1 r2 r q2) fun _ s3 ⟨H3,I3,q3⟩=>?_))))
 exact wpAny_release ⟨σ,H3,I3,q3⟩
def tAsg (te:TE) (g:TG):TS:=fun D σ H=>te σ H fun x H1=>g x σ H1 D.nx
theorem ps_asg {tg e:Expr} {te:TE} {g:TG} (he:PE X e te) (hg:PG X tg g) (hs:swapsWithSole [tg] e pos.line X.env=pure false:=by rfl) (hw:swappedStores [tg] e X.env=pure none:=by rfl)
  (h1:(assignEach [tg] X.env).map (·.2)=[assign tg X.env]:=by rfl):PS X (.Assign [tg] e pos) (tAsg te g):=by
 intro pins s σ H D I h
 refine wpAny_Assign_stores (thn (he pins s σ H _ I h) fun v s1 ⟨x,H1,I1,r1,q1⟩=>?_) hs hw
 rw[h1]
 exact thn (hg pins s1 σ H1 x v _ I1 r1 q1) fun _ s2 q=>q
theorem k1m {i:Nat} {x:Str} {e:Expr} {te:TE} {pos':Pos} (hN:X.N.Nodup) (hi:X.N[i]?=some x) (hx:Loc X.env.scope x) (he:PE X e te) (hs:swapsWith e (some (.Name x pos')) pos.line X.env=pure false:=by rfl) (hf:X.fn x=true∨X.env.scope.names.lookup x=some .local:=by first|exact .inl rfl|exact .inr rfl|assumption) :
  PS X (.Assign [.Name x pos'] e pos) (tAsg te (gName i)):=by
 intro pins s σ H D I h
 refine wpAny_Assign_Name (thn (he pins s σ H _ I h) fun v s1 ⟨y,H1,I1,r1,q1⟩=>?_) hs
 exact store_ok I1 hN hi hx r1 (fun s2 I2=>⟨_,H1,I2,q1⟩) hf
def tAug (i:Nat) (te:TE) (ti:TIp):TS:=fun D σ H=>∃ x,σ[i]?=some (some x)∧te σ H fun y H1=>ti x y H1 fun z H2=>D.nx (σ.set i (some z)) H2
theorem ps_aug {i:Nat} {x:Str} {e:Expr} {te:TE} {op:Operator} {ti:TIp} {pos':Pos} (hN:X.N.Nodup) (hi:X.N[i]?=some x) (hx:Loc X.env.scope x) (he:PE X e te) (ho:PIp X op ti) (hf:X.fn x=true∨X.env.scope.names.lookup x=some .local:=by first|exact .inl rfl|exact .inr rfl|assumption) :
  PS X (.AugAssign (.Name x pos') op e pos) (tAug i te ti):=by
 intro pins s σ H D I h
 obtain⟨v,e1,h⟩:=h
 obtain⟨m,hn,hl⟩:=I.loc
 have vis:Vis X.env.scope x:=by rcases hx with k|k;exact .inl k;exact .inr (.inl k)
 obtain⟨u,r,l⟩:=hl i x v hi e1 vis
 refine wpAny_AugAssign_Name ?_
 have go:wpAny (model X.prog X.w) X.A (eval e X.env) (fun w s₂=>wpAny (model X.prog X.w) X.A (inplaceOp op u w) (fun r s₃=>wpAny (model X.prog X.w) X.A (storeName X.env x r) (fun _=>SP X pins D .next) X.xe s₃) X.xe s₂) X.xe s:=by
  refine thn (he pins s σ H _ I h) fun w s1 ⟨y,H1,I1,r1,q1⟩=>?_
  refine thn (ho pins s1 σ H1 v y u w _ I1 r r1 q1) fun z s2 ⟨zv,H2,I2,r2,q2⟩=>?_
  exact store_ok I2 hN hi hx r2 (fun s3 I3=>⟨_,H2,I3,q2⟩) hf
 rcases l with ⟨hk,hm⟩|⟨hk,c,hc,hcell⟩
 ·exact wpAny_loadName_local I.ok.kind hk hn hm go
 ·rcases hk with hk|hk
  ·exact wpAny_loadName_cell I.ok.kind hk hc hcell go
  ·rcases hx with k|k
   ·have:X.env.scope.names.lookup x=some .free:=hk
    rw[k] at this;cases this
   ·have:X.env.scope.names.lookup x=some .free:=hk
    rw[k] at this;cases this
def tAugS (to ti te:TE) (tget:V->V->Hp->VK->Prop) (tip:TIp) (tset:TSet):TS:=fun D σ H=>to σ H fun o H1=>ti σ H1 fun i H2=>tget o i H2 fun x H3=>te σ H3 fun y H4=>tip x y H4 fun z H5=>tset o i z H5 fun H6=>D.nx σ H6
def PGet (X:Cx) (t:V->V->Hp->VK->Prop):Prop :=
 ∀ (pins:List (Addr × Obj)) (s:Shared) (σ:St) (H:Hp) (o i:V) (ov iv:Value) (Q:VK),Inv X pins σ H s->RelV o ov->RelV i iv->t o i H Q ->
  wpAny (model X.prog X.w) X.A (getItem ov iv) (EP X pins σ Q) X.xe s
theorem ps_augS {o i e:Expr} {to ti te:TE} {tget:V->V->Hp->VK->Prop} {tip:TIp} {tset:TSet} {op:Operator} {tpos:Pos} (ho:PE X o to) (hi:PE X i ti) (hg:PGet X tget) (he:PE X e te) (hp:PIp X op tip) (hs:PSet X tset)
  (ha:∀ ov iv new,augStore i ov iv new=(do holding [new,ov,iv] (setItem ov iv new);release [new,ov,iv] [];pure .next):=by intros;rfl):PS X (.AugAssign (.Subscript o i tpos) op e pos) (tAugS to ti te tget tip tset):=by
 intro pins s σ H D I h
 refine wpAny_AugAssign_SubscriptAny (thn (ho pins s σ H _ I h) fun ov s1 ⟨x1,H1,I1,r1,q1⟩=>?_) ha
 refine thn (hi pins s1 σ H1 _ I1 q1) fun iv s2 ⟨x2,H2,I2,r2,q2⟩=>?_
 refine thn (hg pins s2 σ H2 x1 x2 ov iv _ I2 r1 r2 q2) fun old s3 ⟨x3,H3,I3,r3,q3⟩=>?_
 refine thn (he pins s3 σ H3 _ I3 q3) fun v s4 ⟨x4,H4,I4,r4,q4⟩=>?_
 refine thn (hp pins s4 σ H4 x3 x4 old v _ I4 r3 r4 q4) fun new s5 ⟨x5,H5,I5,r5,q5⟩=>?_
 exact thn (hs pins s5 σ H5 x1 x2 x5 ov iv new _ I5 r1 r2 r5 q5) fun _ s6 ⟨H6,I6,q6⟩=>⟨σ,H6,I6,q6⟩
def ipI (f:Int->Int->Int):TIp:=fun x y H Q=>∃ i j,x=.int i∧y=.int j∧Q (.int (f i j)) H
theorem ip_add:PIp X .Add (ipI fun i j=>i+j):=by
 intro pins s σ H x y v u Q I r1 r2 h
 obtain⟨i,j,e1,e2,q⟩:=h
 subst e1;subst e2
 obtain⟨t,rfl⟩:=r1
 obtain⟨t',rfl⟩:=r2
 exact iadd_int ⟨.int _,H,I.tok _,⟨_,rfl⟩,q⟩
theorem ip_sub:PIp X .Sub (ipI fun i j=>i - j):=by
 intro pins s σ H x y v u Q I r1 r2 h
 obtain⟨i,j,e1,e2,q⟩:=h
 subst e1;subst e2
 obtain⟨t,rfl⟩:=r1
 obtain⟨t',rfl⟩:=r2
 exact isub_int ⟨.int _,H,I.tok _,⟨_,rfl⟩,q⟩
end
section
variable {X:Cx} {pos:Pos}
def tWhile (c:TT) (tb:TS):TS:=fun D σ H=>∃ W:Nat->St->Hp->Prop,(∃ m,W m σ H)∧∀ m σ H,W m σ H ->
 c σ H fun b H1=>if b=true then ∃ N:St->Hp->Prop,(∀ σ' H',N σ' H'->∃ m',m' < m∧W m' σ' H')∧tb { D with nx:=N,ct:=N,bk:=D.nx } σ H1 else D.nx σ H1
theorem ps_while {c:Expr} {body:List Stmt} {tc:TT} {tb:TS} (hp:PassesOwn (model X.prog X.w) X.A X.env X.xe) (hc:PT X c tc) (hb:PSs X body tb):PS X (.While c body [] pos) (tWhile tc tb):=by
 intro pins s σ H D I h
 obtain⟨W,⟨m0,w0⟩,turn⟩:=h
 refine wpAny_While (codeAny_whileLoop (fun n s'=>∃ σ' H',Inv X pins σ' H' s'∧W n σ' H') ?_ m0 ⟨σ,H,I,w0⟩)
 rintro n s1 ⟨σ1,H1,I1,w1⟩
 refine wpAny_passesOwn hp (thn (hc pins s1 σ1 H1 _ I1 (turn n σ1 H1 w1)) fun b s2 ⟨H2,I2,q2⟩=>?_)
 cases b with
 | true =>
  obtain⟨N,hN,q2⟩:=q2
  rw[if_pos rfl]
  refine wpAny_passesOwn hp (thn (hb pins s2 σ1 H2 _ I2 q2) fun f s3 q3=>?_)
  cases f with
  | next =>
   obtain⟨σ3,H3,I3,n3⟩:=q3
   obtain⟨m',hm,w3⟩:=hN σ3 H3 n3
   exact⟨m',hm,σ3,H3,I3,w3⟩
  | cont =>
   obtain⟨σ3,H3,I3,n3⟩:=q3
   obtain⟨m',hm,w3⟩:=hN σ3 H3 n3
   exact⟨m',hm,σ3,H3,I3,w3⟩
  | brk=>exact q3
  | ret v=>exact q3
 | false =>
  rw[if_neg Bool.false_ne_true]
  exact wpAny_execs_nil ⟨σ1,H2,I2,q2⟩
end
structure It where
 go:Nat->Hp->Prop
 yld:Nat->Hp->V->Hp->Prop
 stop:Nat->Hp->Prop
def FpOk (X:Cx) (pins:List (Addr × Obj)) (H:Hp) (b:Addr):Prop :=
 H b=none∧b≠X.env.locals∧b∉X.fs∧(b∈X.ex∨X.s_0.heap.objs.size≤b)∧(∀ x c,X.env.cells.lookup x=some c->c≠b)∧∀ p∈X.pn++pins,p.1≠b
theorem Inv.fpOk {X:Cx} {pins:List (Addr × Obj)} {σ:St} {H H':Hp} {s:Shared} {b:Addr} (I:Inv X pins σ H s) (hb:s.heap.objs.size≤b) (hn:H' b=none):FpOk X pins H' b:=by
 refine⟨hn,Nat.ne_of_gt (Nat.lt_of_lt_of_le I.lt hb),I.nofs hb,.inr (Nat.le_trans I.sz hb),fun x c e z=>?_,fun p hp z=>?_⟩
 ·obtain⟨v,q⟩:=I.cell x c e
  exact absurd (Nat.lt_of_lt_of_le q.lt (by rw[z];exact hb)) (Nat.lt_irrefl _)
 ·exact absurd (Nat.lt_of_lt_of_le (Heap.lt_size (I.pin p hp).1) (by rw[z];exact hb)) (Nat.lt_irrefl _)
structure Turn (P:Program) (w:World) (K:PySem.W.Frag) (tg:Expr) (J:It) (fp:List Addr) (it:Addr) (tn:Nat->Heap->Prop):Prop where
 mem:it∈fp
 obj:∀ i h,tn i h->∀ b∈fp,∃ o,h.get? b=some o∧∀ v,o.data≠.cell v
 keep:∀ i h h',tn i h->(∀ b∈fp,∀ o,h.get? b=some o->h'.get? b=some o)->tn i h'
 item:∀ (X:Cx),X.prog=P->X.w=w->X.K=K->X.calm=true->∀ (i:Nat) (pins:List (Addr × Obj)) (s:Shared) (σ:St) (H:Hp) (E:Value->Shared->Prop),Inv X pins σ H s->(∀ b∈fp,FpOk X pins H b)->tn i s.heap->J.go i H ->
  wpAny (model P w) X.A (pyNext (.ref it)) (fun r s1=>∃ u,r=some u ∧
   wpAny (model P w) X.A (letOwnedTupleGo tg (.ref it) u) (fun _ s2=>∃ x H',Inv X pins σ H' s2∧RelV x u∧J.yld i H x H'∧tn (i+1) s2.heap∧∀ b∈fp,H' b=none) E s1) E s
 done:∀ (X:Cx),X.prog=P->X.w=w->X.K=K->X.calm=true->∀ (i:Nat) (pins:List (Addr × Obj)) (s:Shared) (σ:St) (H:Hp) (E:Value->Shared->Prop),Inv X pins σ H s->(∀ b∈fp,FpOk X pins H b)->tn i s.heap->J.stop i H ->
  wpAny (model P w) X.A (pyNext (.ref it)) (fun r s1=>r=none∧Inv X pins σ H s1) E s
 self:∀ (A:Around) (i:Nat) (s:Shared) (Q:Value->Shared->Prop) (E:Value->Shared->Prop),tn i s.heap->Q (.ref it) s->wpAny (model P w) A (pyIter (.ref it)) Q E s
abbrev TI:=St->Hp->(It->Hp->Prop)->Prop
def PIE (X:Cx) (pins:List (Addr × Obj)) (σ:St) (tg:Expr) (R:It->Hp->Prop) (itv:Value) (s2:Shared):Prop :=
 ∃ (it:Addr) (fp:List Addr) (tn:Nat->Heap->Prop) (J:It) (H':Hp),itv=.ref it∧Inv X pins σ H' s2∧Turn X.prog X.w X.K tg J fp it tn∧tn 0 s2.heap∧(∀ b∈fp,FpOk X pins H' b)∧R J H'
def PI (X:Cx) (tg iter:Expr) (wi:TI):Prop :=
 ∀ (pins:List (Addr × Obj)) (s:Shared) (σ:St) (H:Hp) (R:It->Hp->Prop),Inv X pins σ H s->wi σ H R ->
  wpAny (model X.prog X.w) X.A (eval iter X.env) (fun v s1=>wpAny (model X.prog X.w) X.A (pyIter v) (PIE X pins σ tg R) X.xe s1) X.xe s
theorem go_of {M:Model} {A:Around} {E:Value->Shared->Prop} {s:Shared} {tg:Expr} {it:Addr} {u:Value} {o:Obj} {n:String} {vs:Array Value} {Q:Unit->Shared->Prop} (ho:s.heap.get? it=some o) (hc:o.cls=.type n) (hd:o.data=.fields vs)
  (hn:["enumerate","zip","dict_itemiterator","dict_reverseitemiterator","odict_iterator","itertools.zip_longest","itertools.pairwise"].contains n=false) (hQ:Q () s):wpAny M A (letOwnedTupleGo tg (.ref it) u) Q E s:=by
 unfold letOwnedTupleGo
 cases tg<;>first
  | exact wpAny_pure hQ
  | (cases u<;>first
      | exact wpAny_pure hQ
      | (refine wpAny_bind (wpAny_load ho ?_)
         rw[hc,hd]
         show wpAny M A (if (["enumerate","zip","dict_itemiterator","dict_reverseitemiterator","odict_iterator","itertools.zip_longest","itertools.pairwise"].contains n&&vs[0]?==some (rawInt _))=true then _ else _) Q E s
         rw[if_neg (by intro h;rw[hn,Bool.false_and] at h;cases h)]
         exact wpAny_pure hQ))
def Itl (K:PySem.W.Frag) (a:Addr):It :=
 ⟨fun i H=>∃ xs x,SqL K H a xs∧xs[i]?=some x,fun i H x H'=>H'=H∧∀ xs,SqL K H a xs->xs[i]?=some x,fun i H=>∃ xs,SqL K H a xs∧xs.length≤i⟩
def Itr (lo:Int) (n:Nat):It:=⟨fun i _=>i < n,fun i H x H'=>H'=H∧x=.int (lo+i),fun i _=>n≤i⟩
theorem turn_list {P:Program} {w:World} {K:PySem.W.Frag} {tg:Expr} (a it:Addr):Turn P w K tg (Itl K a) [it] it (fun i h=>h.IsListIter it a i) where
 mem:=by simp
 obj:=fun i h st b hb=>by
  have e:b=it:=by simpa using hb
  subst e
  obtain⟨o,e,c,d⟩:=st
  exact⟨o,e,fun v z=>by rw[d] at z;cases z⟩
 keep:=fun i h h' st k=>st.at fun o e=>k it (by simp) o e
 item:=by
  intro X hP hw hK hc i pins s σ H E I hf st hg
  subst hP hw hK
  obtain⟨xs,x,hq,hx⟩:=hg
  obtain⟨its,rv,p,hz⟩:=I.list hq
  obtain⟨u,hu,ru⟩:=rv.get hx
  obtain⟨f0,f1,f2,f3,f4,f5⟩:=hf it (by simp)
  refine wpAny_pyNext_list_item st p.isList (x:=u) (by simpa using hu) fun h' st' sb=>?_
  have I1:Inv X pins σ H { s with heap:=h' }:=I.turned (t':=s.toks) (fun b o hb e=>(sb.2 b hb).trans e) f0 f1 f3 f4 f5
  obtain⟨o,e,c,d⟩:=id st'
  exact⟨u,rfl,go_of (s:={ s with heap:=h' }) e c d (by decide) ⟨x,H,I1,ru,⟨rfl,fun ys hy=>by rw[I.list_inj hy hq];exact hx⟩,st',fun b hb=>(hf b hb).1⟩⟩
 done:=by
  intro X hP hw hK hc i pins s σ H E I hf st hg
  subst hP hw hK
  obtain⟨xs,hq,hx⟩:=hg
  obtain⟨its,rv,p,hz⟩:=I.list hq
  obtain⟨f0,f1,f2,f3,f4,f5⟩:=hf it (by simp)
  have hl:=rv.length
  exact wpAny_pyNext_list_end (I.ok.hd hc) st p.isList (by simp;omega) fun h' eb=>⟨rfl,I.turned (t':=s.toks) (fun b o hb e=>eb b o hb e) f0 f1 f3 f4 f5⟩
 self:=fun _ _ _ _ _ st h=>wpAny_pyIter_listiter st h
theorem turn_range {P:Program} {w:World} {K:PySem.W.Frag} {tg:Expr} (it:Addr) (lo:Int) (n:Nat):Turn P w K tg (Itr lo n) [it] it (fun i h=>IsRangeIter h it (lo+(i:Nat)*1) ((n:Int) - (i:Nat)) 1) where
 mem:=by simp
 obj:=fun i h st b hb=>by
  have e:b=it:=by simpa using hb
  subst e
  exact⟨_,st,fun v z=>by
   have z':Data.fields _=Data.cell v:=z
   cases z'⟩
 keep:=fun i h h' st k=>k it (by simp) _ st
 item:=by
  intro X hP hw hK hc i pins s σ H E I hf st hg
  subst hP hw hK
  obtain⟨f0,f1,f2,f3,f4,f5⟩:=hf it (by simp)
  have W:=Walks.range (prog:=X.prog) (w:=X.w) (I.ok.hd hc) it lo 1 n
  refine W.item i s _ _ hg st fun v h' tk hv st' kk=>?_
  obtain⟨t,rfl⟩:=hv
  have I1:Inv X pins σ H { s with heap:=h',toks:=tk }:=I.turned (fun b o hb e=>kk b o (by simpa using hb) e) f0 f1 f3 f4 f5
  refine⟨_,rfl,go_of (s:={ s with heap:=h',toks:=tk }) (n:="range_iterator") st' rfl rfl (by decide) ⟨.int (lo+i),H,I1,⟨t,?_⟩,⟨rfl,rfl⟩,st',fun b hb=>(hf b hb).1⟩⟩
  rw[Int.mul_one]
 done:=by
  intro X hP hw hK hc i pins s σ H E I hf st hg
  subst hP hw hK
  obtain⟨f0,f1,f2,f3,f4,f5⟩:=hf it (by simp)
  exact wpAny_pyNext_range_end (I.ok.hd hc) st (by have:n≤i:=hg;omega) fun h' eb=>⟨rfl,I.turned (t':=s.toks) (fun b o hb e=>eb b o hb e) f0 f1 f3 f4 f5⟩
 self:=fun _ _ _ _ _ st h=>wpAny_pyIter_rangeiter st h
end L2
namespace L2
open PySem PySem.Spec PyProof.Rows
section
variable {X:Cx} {tg:Expr}
def iList (K:PySem.W.Frag) (tl:TE):TI:=fun σ H R=>tl σ H fun x H1=>∃ a,x=.ref a∧(∃ xs,SqL K H1 a xs)∧R (Itl K a) H1
theorem pi_list {l:Expr} {tl:TE} (hl:PE X l tl):PI X tg l (iList X.K tl):=by
 intro pins s σ H R I h
 refine thn (hl pins s σ H _ I h) fun v s1 ⟨x,H1,I1,r1,q1⟩=>?_
 obtain⟨a,e,⟨xs,hq⟩,q⟩:=q1
 subst e
 cases r1
 obtain⟨its,rv,p,hz⟩:=I1.list hq
 refine wpAny_pyIter_list p.isList ?_
 refine⟨s1.heap.objs.size,[s1.heap.objs.size],_,_,H1,rfl,I1.kept (t':=s1.toks) fun b o e=>Heap.get?_push_of_some _ e,turn_list a _,⟨_,Heap.get?_push_size _ rfl,rfl,rfl⟩,fun b hb=>?_,q⟩
 have e:b=s1.heap.objs.size:=by simpa using hb
 subst e
 exact I1.fpOk (Nat.le_refl _) (I1.hok.fresh (Nat.le_refl _))
theorem range_it {pins:List (Addr × Obj)} {σ:St} {H:Hp} {s:Shared} {R:It->Hp->Prop} {E:Value->Shared->Prop} {lo hi:Int} {t u v:Tok} {tk:Nat} (I:Inv X pins σ H s) (h1:-(2 ^ 62)≤lo) (h2:lo < 2 ^ 62) (h3:-(2 ^ 62)≤hi) (h4:hi < 2 ^ 62)
  (q:R (Itr lo (hi - lo).toNat) H):wpAny (model X.prog X.w) X.A (pyIter (.ref s.heap.objs.size)) (PIE X pins σ tg R) E { s with heap:=s.heap.push { cls:=.type "range",data:=.fields #[.int lo t,.int hi u,.int 1 v] },toks:=tk }:=by
 refine wpAny_pyIter_range (IsRange.new ..) (small_one h1 h2 h3 h4) ?_
 have I1:Inv X pins σ H { s with heap:=s.heap.push { cls:=.type "range",data:=.fields #[.int lo t,.int hi u,.int 1 v] },toks:=tk }:=I.kept fun b o e=>Heap.get?_push_of_some _ e
 refine⟨(s.heap.push { cls:=.type "range",data:=.fields #[.int lo t,.int hi u,.int 1 v] }).objs.size,[(s.heap.push { cls:=.type "range",data:=.fields #[.int lo t,.int hi u,.int 1 v] }).objs.size],_,_,H,rfl,
  I1.kept (t':=tk) fun b o e=>Heap.get?_push_of_some _ e,turn_range _ lo (hi - lo).toNat,?_,fun b hb=>?_,q⟩
 ·have e1:lo+((0:Nat):Int)*1=lo:=by simp
  have e2:(((hi - lo).toNat:Nat):Int) - ((0:Nat):Int)=Builtin.Range.rangeSize lo hi 1:=by rw[rangeSize_one];split<;>omega
  show IsRangeIter _ _ (lo+((0:Nat):Int)*1) ((((hi - lo).toNat:Nat):Int) - ((0:Nat):Int)) 1
  rw[e1,e2]
  exact Heap.get?_push_size _ rfl
 ·have e:b=(s.heap.push { cls:=.type "range",data:=.fields #[.int lo t,.int hi u,.int 1 v] }).objs.size:=by simpa using hb
  subst e
  exact I1.fpOk (Nat.le_refl _) (I1.hok.fresh (Nat.le_refl _))
def iRng1 (ta:TA):TI:=fun σ H R=>ta σ H fun vs H1=>∃ j:Int,vs=[.int j]∧-(2 ^ 62)≤j∧j < 2 ^ 62∧R (Itr 0 j.toNat) H1
theorem pi_range1 {a:Expr} {ta:TA} {p pos:Pos} (hg:Gl X "range") (hm:X.mg "range"=none) (ha:PA X [a] ta) (hs:starEach [a] X.env=[(false,eval a X.env)]:=by rfl):PI X tg (.Call (.Name "range" p) [a] [] pos) (iRng1 ta):=by
 intro pins s σ H R I h
 refine Call_ (ld_blt I hg hm boot_range (PyProof.Rows.callWith_type1 (thn (ha pos pins s σ H _ I h) fun us s1 ⟨vs,H1,I1,r1,q1⟩=>?_) hs rfl))
 obtain⟨j,e,q1,q2,q⟩:=q1
 subst e
 cases r1 with
 | cons r rr =>
  cases rr
  obtain⟨t,rfl⟩:=r
  exact call_range_1 (range_it I1 (by omega) (by omega) q1 q2 (by simpa using q))
def tFor (wi:TI) (g:TG) (tb:TS):TS:=fun D σ H=>wi σ H fun J H1=>∃ W:Nat->Nat->St->Hp->Prop,(∃ m,W 0 m σ H1)∧∀ i m σ H,W i m σ H ->
 (J.stop i H∧D.nx σ H)∨(J.go i H∧∃ N:St->Hp->Prop,(∀ σ' H',N σ' H'->∃ m',m' < m∧W (i+1) m' σ' H')∧∀ x H',J.yld i H x H'->g x σ H' fun σ2 H2=>tb { D with nx:=N,ct:=N,bk:=D.nx } σ2 H2)
def pinsAt (fp:List Addr) (h:Heap):List (Addr × Obj):=fp.filterMap fun b=>(h.get? b).map fun o=>(b,o)
theorem mem_pinsAt {fp:List Addr} {h:Heap} {b:Addr} {o:Obj} (hb:b∈fp) (e:h.get? b=some o):(b,o)∈pinsAt fp h:=List.mem_filterMap.mpr ⟨b,hb,by rw[e];rfl⟩
theorem of_pinsAt {fp:List Addr} {h:Heap} {p:Addr × Obj} (hp:p∈pinsAt fp h):p.1∈fp∧h.get? p.1=some p.2:=by
 obtain⟨b,hb,e⟩:=List.mem_filterMap.mp hp
 cases q:h.get? b with
 | none=>rw[q] at e;cases e
 | some o =>
  rw[q] at e
  have e':(b,o)=p:=Option.some.inj e
  subst e'
  exact⟨hb,q⟩
theorem Inv.pinned {pins:List (Addr × Obj)} {σ:St} {H:Hp} {s:Shared} {fp:List Addr} (I:Inv X pins σ H s) (hf:∀ b∈fp,FpOk X pins H b) (ho:∀ b∈fp,∃ o,s.heap.get? b=some o∧∀ v,o.data≠.cell v):Inv X (pins++pinsAt fp s.heap) σ H s :=
 I.pins_of fun p hp=>(List.mem_append.mp hp).elim (fun z=>I.pin p (List.mem_append_right _ z)) fun z=>by
  obtain⟨hb,e⟩:=of_pinsAt z
  obtain⟨f0,f1,f2,_⟩:=hf p.1 hb
  obtain⟨o,e',d⟩:=ho p.1 hb
  rw[e] at e';cases e'
  exact⟨e,f0,f1,f2,d⟩
theorem Inv.unpinned {pins pl:List (Addr × Obj)} {σ:St} {H:Hp} {s:Shared} (I:Inv X (pins++pl) σ H s):Inv X pins σ H s:=I.pins_of fun p hp=>I.pin p (List.mem_append_right _ (List.mem_append_left _ hp))
theorem ps_for {iter:Expr} {body:List Stmt} {wi:TI} {g:TG} {tb:TS} {pos:Pos} (hp:PassesOwn (model X.prog X.w) X.A X.env X.xe) (hc:X.calm=true) (hi:PI X tg iter wi) (hg:PG X tg g) (hb:PSs X body tb)
  (hs:∀ x,foldedSetIterable iter X.env x=pure x:=by intro _;rfl):PS X (.For tg iter body [] pos) (tFor wi g tb):=by
 intro pins s σ H D I h
 refine wpAny_For (thn (hi pins s σ H _ I h) fun v s1 h1=>thn h1 fun itv s2 h2=>?_) hs
 obtain⟨it,fp,tn,J,H2,e,I2,T,st2,f2,W,⟨m0,w0⟩,turn⟩:=h2
 subst e
 have stat:∀ {H':Hp},(∀ b∈fp,H' b=none)->∀ b∈fp,FpOk X pins H' b:=fun hn b hb=>⟨hn b hb,(f2 b hb).2⟩
 refine codeAny_forLoop_any (fun n s'=>∃ i σ' H',Inv X pins σ' H' s'∧tn i s'.heap∧(∀ b∈fp,H' b=none)∧W i n σ' H') ?_ m0 ⟨0,σ,H2,I2,st2,fun b hb=>(f2 b hb).1,w0⟩
 rintro n s3 ⟨i,σ3,H3,I3,st3,fr3,w3⟩
 rcases turn i n σ3 H3 w3 with ⟨stop,qn⟩|⟨go,N,hN,step⟩
 ·refine wpAny_passesOwn hp (thn (T.done X rfl rfl rfl hc i pins s3 σ3 H3 X.xe I3 (stat fr3) st3 stop) fun r s4 ⟨hr,I4⟩=>?_)
  subst hr
  exact wpAny_execs_nil ⟨σ3,H3,I4,qn⟩
 ·refine wpAny_passesOwn hp (thn (T.item X rfl rfl rfl hc i pins s3 σ3 H3 X.xe I3 (stat fr3) st3 go) fun r s4 ⟨u,hr,h4⟩=>?_)
  subst hr
  refine wpAny_passesOwn hp (thn h4 fun _ s5 ⟨x,H5,I5,r5,y5,st5,fr5⟩=>?_)
  have I5':=I5.pinned (stat fr5) (T.obj _ _ st5)
  refine wpAny_passesOwn hp (thn (hg _ s5 σ3 H5 x u _ I5' r5 (step x H5 y5)) fun _ s6 ⟨σ6,H6,I6,q6⟩=>?_)
  refine wpAny_passesOwn hp (thn (hb _ s6 σ6 H6 _ I6 q6) fun f s7 q7=>?_)
  have again:∀ {σ7:St} {H7:Hp},Inv X (pins++pinsAt fp s5.heap) σ7 H7 s7->N σ7 H7->∃ m,m < n∧∃ i σ' H',Inv X pins σ' H' s7∧tn i s7.heap∧(∀ b∈fp,H' b=none)∧W i m σ' H':=fun {σ7 H7} I7 n7=>by
   obtain⟨m',hm,w7⟩:=hN σ7 H7 n7
   refine⟨m',hm,i+1,σ7,H7,I7.unpinned,T.keep _ _ _ st5 fun b hb o e=>(I7.pin (b,o) (List.mem_append_right _ (List.mem_append_right _ (mem_pinsAt hb e)))).1,fun b hb=>?_,w7⟩
   obtain⟨o,e,d⟩:=T.obj _ _ st5 b hb
   exact (I7.pin (b,o) (List.mem_append_right _ (List.mem_append_right _ (mem_pinsAt hb e)))).2.1
  cases f with
  | next=>obtain⟨σ7,H7,I7,n7⟩:=q7;exact again I7 n7
  | cont=>obtain⟨σ7,H7,I7,n7⟩:=q7;exact again I7 n7
  | brk=>obtain⟨σ7,H7,I7,q7⟩:=q7;exact⟨σ7,H7,I7.unpinned,q7⟩
  | ret v=>obtain⟨x7,σ7,H7,I7,r7,q7⟩:=q7;exact⟨x7,σ7,H7,I7.unpinned,r7,q7⟩
end
theorem for_list {K:PySem.W.Frag} {a:Addr} {xs:List V} {g:TG} {tb:TS} {D:Ends} {σ:St} {H:Hp} (Pv:Nat->St->Hp->Prop) (h0:Pv 0 σ H) (hl:∀ i σ H,i≤xs.length->Pv i σ H->SqL K H a xs)
  (hs:∀ i x σ H,xs[i]?=some x->Pv i σ H->g x σ H fun σ2 H2=>tb { D with nx:=Pv (i+1),ct:=Pv (i+1),bk:=D.nx } σ2 H2) (hd:∀ σ H,Pv xs.length σ H->D.nx σ H) :
  ∃ W:Nat->Nat->St->Hp->Prop,(∃ m,W 0 m σ H)∧∀ i m σ H,W i m σ H ->
   ((Itl K a).stop i H∧D.nx σ H)∨((Itl K a).go i H∧∃ N:St->Hp->Prop,(∀ σ' H',N σ' H'->∃ m',m' < m∧W (i+1) m' σ' H')∧∀ x H',(Itl K a).yld i H x H'->g x σ H' fun σ2 H2=>tb { D with nx:=N,ct:=N,bk:=D.nx } σ2 H2):=by
 refine⟨fun i m σ H=>m=xs.length - i∧i≤xs.length∧Pv i σ H,⟨xs.length,by simp,Nat.zero_le _,h0⟩,?_⟩
 rintro i m σ H ⟨rfl,hi,p⟩
 have q:=hl i σ H hi p
 by_cases hlt:i < xs.length
 ·refine .inr ⟨⟨xs,xs[i],q,by simp[hlt]⟩,Pv (i+1),fun σ' H' p'=>⟨xs.length - (i+1),by omega,rfl,hlt,p'⟩,fun x H' y=>?_⟩
  obtain⟨e,y⟩:=y
  subst e
  exact hs i x σ _ (y xs q) p
 ·have e:i=xs.length:=by omega
  subst e
  exact .inl ⟨⟨xs,q,Nat.le_refl _⟩,hd σ H p⟩
theorem for_range {lo:Int} {n:Nat} {g:TG} {tb:TS} {D:Ends} {σ:St} {H:Hp} (Pv:Nat->St->Hp->Prop) (h0:Pv 0 σ H)
  (hs:∀ i σ H,i < n->Pv i σ H->g (.int (lo+i)) σ H fun σ2 H2=>tb { D with nx:=Pv (i+1),ct:=Pv (i+1),bk:=D.nx } σ2 H2) (hd:∀ σ H,Pv n σ H->D.nx σ H) :
  ∃ W:Nat->Nat->St->Hp->Prop,(∃ m,W 0 m σ H)∧∀ i m σ H,W i m σ H ->
   ((Itr lo n).stop i H∧D.nx σ H)∨((Itr lo n).go i H∧∃ N:St->Hp->Prop,(∀ σ' H',N σ' H'->∃ m',m' < m∧W (i+1) m' σ' H')∧∀ x H',(Itr lo n).yld i H x H'->g x σ H' fun σ2 H2=>tb { D with nx:=N,ct:=N,bk:=D.nx } σ2 H2):=by
 refine⟨fun i m σ H=>m=n - i∧i≤n∧Pv i σ H,⟨n,by simp,Nat.zero_le _,h0⟩,?_⟩
 rintro i m σ H ⟨rfl,hi,p⟩
 by_cases hlt:i < n
 ·refine .inr ⟨hlt,Pv (i+1),fun σ' H' p'=>⟨n - (i+1),by omega,rfl,hlt,p'⟩,fun x H' y=>?_⟩
  obtain⟨e,y⟩:=y
  subst e y
  exact hs i σ _ hlt p
 ·have e:i=n:=by omega
  subst e
  exact .inl ⟨Nat.le_refl _,hd σ H p⟩
theorem while_by {c:TT} {tb:TS} {D:Ends} {σ:St} {H:Hp} (Pv:St->Hp->Prop) (μ:St->Hp->Nat) (h0:Pv σ H)
  (hs:∀ σ H,Pv σ H->c σ H fun b H1=>if b=true then tb { D with nx:=fun σ' H'=>Pv σ' H'∧μ σ' H' < μ σ H,ct:=fun σ' H'=>Pv σ' H'∧μ σ' H' < μ σ H,bk:=D.nx } σ H1 else D.nx σ H1)
  (mono:∀ σ H Q Q',(∀ b H1,Q b H1->Q' b H1)->c σ H Q->c σ H Q'):tWhile c tb D σ H:=by
 refine⟨fun m σ H=>m=μ σ H∧Pv σ H,⟨_,rfl,h0⟩,?_⟩
 rintro m σ H ⟨rfl,p⟩
 refine mono σ H _ _ (fun b H1 q=>?_) (hs σ H p)
 cases b with
 | true=>exact⟨_,fun σ' H' ⟨p',l⟩=>⟨_,l,rfl,p'⟩,q⟩
 | false=>exact q
end L2
namespace L2
open PySem PySem.Spec PyProof.Rows
abbrev R2:=V->V->Hp->VK->Prop
def OpR (X:Cx) (f:Value->Value->Sem Value) (r:R2):Prop :=
 ∀ (pins:List (Addr × Obj)) (s:Shared) (σ:St) (H:Hp) (x y:V) (v u:Value) (Q:VK),Inv X pins σ H s->RelV x v->RelV y u->r x y H Q ->
  wpAny (model X.prog X.w) X.A (f v u) (EP X pins σ Q) X.xe s
def UnR (X:Cx) (f:Value->Sem Value) (r:V->Hp->VK->Prop):Prop :=
 ∀ (pins:List (Addr × Obj)) (s:Shared) (σ:St) (H:Hp) (x:V) (v:Value) (Q:VK),Inv X pins σ H s->RelV x v->r x H Q ->
  wpAny (model X.prog X.w) X.A (f v) (EP X pins σ Q) X.xe s
def CallR (X:Cx) (f:Value) (r:List V->Hp->VK->Prop):Prop :=
 ∀ (pins:List (Addr × Obj)) (s:Shared) (σ:St) (H:Hp) (xs:List V) (us:List Value) (Q:VK),Inv X pins σ H s->Vals xs us->r xs H Q ->
  wpAny (model X.prog X.w) X.A (call f us) (EP X pins σ Q) X.xe s
def TruR (X:Cx) (r:V->Hp->(Bool->Hp->Prop)->Prop):Prop :=
 ∀ (pins:List (Addr × Obj)) (s:Shared) (σ:St) (H:Hp) (x:V) (v:Value) (Q:Bool->Hp->Prop),Inv X pins σ H s->RelV x v->r x H Q ->
  wpAny (model X.prog X.w) X.A (truthy v) (TP X pins σ Q) X.xe s
def tOp (r:R2) (ta tb:TE):TE:=fun σ H Q=>ta σ H fun x H1=>tb σ H1 fun y H2=>r x y H2 Q
def tUn (r:V->Hp->VK->Prop) (ta:TE):TE:=fun σ H Q=>ta σ H fun x H1=>r x H1 Q
def rI (C:Int->Int->Prop) (g:Int->Int->V):R2:=fun x y H Q=>∃ i j,x=.int i∧y=.int j∧C i j∧Q (g i j) H
def rI0 (g:Int->Int->V):R2:=fun x y H Q=>∃ i j,x=.int i∧y=.int j∧Q (g i j) H
def rU (g:Int->V):V->Hp->VK->Prop:=fun x H Q=>∃ i,x=.int i∧Q (g i) H
section
variable {X:Cx} {a b c:Expr} {ta tb tc:TE} {pos:Pos}
theorem binT (ha:PE X a ta) (hb:PE X b tb) {pins:List (Addr × Obj)} {s:Shared} {σ:St} {H:Hp} {R:V->V->Hp->Prop} (I:Inv X pins σ H s)
  (h:ta σ H fun x H1=>tb σ H1 fun y H2=>R x y H2) {Q:Value->Shared->Prop} {f:Value->Value->Sem Value}
  (hf:∀ v u s2 x y H2,Inv X pins σ H2 s2->RelV x v->RelV y u->R x y H2->wpAny (model X.prog X.w) X.A (f v u) Q X.xe s2) :
  wpAny (model X.prog X.w) X.A (eval a X.env) (fun v s₁=>wpAny (model X.prog X.w) X.A (eval b X.env) (fun u s₂=>wpAny (model X.prog X.w) X.A (f v u) Q X.xe s₂) X.xe s₁) X.xe s:=by
 refine thn (ha pins s σ H _ I h) fun v s1 ⟨x,H1,I1,r1,q1⟩=>?_
 refine thn (hb pins s1 σ H1 _ I1 q1) fun u s2 ⟨y,H2,I2,r2,q2⟩=>?_
 exact hf v u s2 x y H2 I2 r1 r2 q2
theorem pe_op {op:Operator} {r:R2} (ho:OpR X (binaryOp op) r) (ha:PE X a ta) (hb:PE X b tb):PE X (.BinOp a op b pos) (tOp r ta tb):=by
 intro pins s σ H Q I h
 exact wpAny_BinOp (binT ha hb I h fun v u s2 x y H2 I2 rx ry q=>ho pins s2 σ H2 x y v u Q I2 rx ry q)
theorem pe_un {op:UnaryOp} {r:V->Hp->VK->Prop} (ho:UnR X (unaryOp op) r) (ha:PE X a ta):PE X (.UnaryOp op a pos) (tUn r ta):=by
 intro pins s σ H Q I h
 exact UnaryOp_ (thn (ha pins s σ H _ I h) fun v s1 ⟨x,H1,I1,r1,q1⟩=>ho pins s1 σ H1 x v Q I1 r1 q1)
theorem opI {f:Value->Value->Sem Value} {C:Int->Int->Prop} {g:Int->Int->Int}
  (rule:∀ (i j:Int) (t u:Tok) (s:Shared) (Q:Value->Shared->Prop) (E:Value->Shared->Prop),C i j->Q (.int (g i j) s.toks) { s with toks:=s.toks+1 }->wpAny (model X.prog X.w) X.A (f (.int i t) (.int j u)) Q E s) :
  OpR X f (rI C fun i j=>.int (g i j)):=by
 intro pins s σ H x y v u Q I rx ry h
 obtain⟨i,j,rfl,rfl,hc,q⟩:=h
 obtain⟨t,rfl⟩:=rx
 obtain⟨t',rfl⟩:=ry
 exact rule i j t t' s _ _ hc ⟨.int (g i j),H,I.tok _,⟨_,rfl⟩,q⟩
theorem opI0 {f:Value->Value->Sem Value} {g:Int->Int->Int}
  (rule:∀ (i j:Int) (t u:Tok) (s:Shared) (Q:Value->Shared->Prop) (E:Value->Shared->Prop),Q (.int (g i j) s.toks) { s with toks:=s.toks+1 }->wpAny (model X.prog X.w) X.A (f (.int i t) (.int j u)) Q E s) :
  OpR X f (rI0 fun i j=>.int (g i j)):=by
 intro pins s σ H x y v u Q I rx ry h
 obtain⟨i,j,rfl,rfl,q⟩:=h
 obtain⟨t,rfl⟩:=rx
 obtain⟨t',rfl⟩:=ry
 exact rule i j t t' s _ _ ⟨.int (g i j),H,I.tok _,⟨_,rfl⟩,q⟩
theorem opB0 {f:Value->Value->Sem Value} {g:Int->Int->Bool}
  (rule:∀ (i j:Int) (t u:Tok) (s:Shared) (Q:Value->Shared->Prop) (E:Value->Shared->Prop),Q (.bool (g i j)) s->wpAny (model X.prog X.w) X.A (f (.int i t) (.int j u)) Q E s) :
  OpR X f (rI0 fun i j=>.bl (g i j)):=by
 intro pins s σ H x y v u Q I rx ry h
 obtain⟨i,j,rfl,rfl,q⟩:=h
 obtain⟨t,rfl⟩:=rx
 obtain⟨t',rfl⟩:=ry
 exact rule i j t t' s _ _ ⟨.bl (g i j),H,I,rfl,q⟩
def CDiv (i j:Int):Prop:=0 < j∧j < 1073741824
def CMul (i j:Int):Prop:=(-(2 ^ 64) < i∧i < 2 ^ 64)∨(-(2 ^ 64) < j∧j < 2 ^ 64)
theorem CMul.ok {i j:Int} (h:CMul i j):IntMulOk i j:=by
 rcases h with ⟨h1,h2⟩|⟨h1,h2⟩
 ·exact .of_left (intBits_le_64 h1 h2)
 ·exact .of_right (intBits_le_64 h1 h2)
theorem op_add:OpR X (binaryOp .Add) (rI0 fun i j=>.int (i+j)):=opI0 fun _ _ _ _ _ _ _ q=>add_int q
theorem op_sub:OpR X (binaryOp .Sub) (rI0 fun i j=>.int (i - j)):=opI0 fun _ _ _ _ _ _ _ q=>sub_int q
theorem op_mul:OpR X (binaryOp .Mult) (rI CMul fun i j=>.int (i*j)):=opI fun _ _ _ _ _ _ _ hc q=>mul_int q hc.ok
theorem op_fdiv:OpR X (binaryOp .FloorDiv) (rI CDiv fun i j=>.int (i / j)):=opI fun i j _ _ _ _ _ hc q=>by
 have h1:(0:Int) < j:=hc.1
 have h2:j < 1073741824:=hc.2
 exact floordiv_int (by omega) (by rw[Int.fdiv_eq_ediv_of_nonneg i (by omega)];exact q) (.inl (PyProof.noPylong_small (by omega)))
theorem op_mod:OpR X (binaryOp .Mod) (rI (fun _ j=>0 < j) fun i j=>.int (i % j)):=opI fun i j _ _ _ _ _ hc q=>by
 have h1:(0:Int) < j:=hc
 exact mod_int' (by omega) (by rw[Int.fmod_eq_emod_of_nonneg i (by omega)];exact q)
theorem unI {f:Value->Sem Value} {g:Int->Int}
  (rule:∀ (i:Int) (t:Tok) (s:Shared) (Q:Value->Shared->Prop) (E:Value->Shared->Prop),Q (.int (g i) s.toks) { s with toks:=s.toks+1 }->wpAny (model X.prog X.w) X.A (f (.int i t)) Q E s) :
  UnR X f (rU fun i=>.int (g i)):=by
 intro pins s σ H x v Q I rx h
 obtain⟨i,rfl,q⟩:=h
 obtain⟨t,rfl⟩:=rx
 exact rule i t s _ _ ⟨.int (g i),H,I.tok _,⟨_,rfl⟩,q⟩
theorem un_neg:UnR X (unaryOp .USub) (rU fun i=>.int (-i)):=unI fun _ _ _ _ _ q=>neg_int q
end
def scal:V->V->Bool
 | .non,.non=>true|.non,.int _=>true|.int _,.non=>true|.non,.bl _=>true|.bl _,.non=>true|.non,.str _=>true|.str _,.non=>true
 | .int _,.int _=>true|.bl _,.bl _=>true|.str _,.str _=>true|.byt _,.byt _=>true
 | .int _,.str _=>true|.str _,.int _=>true|.bl _,.str _=>true|.str _,.bl _=>true
 | _,_=>false
def rEq:R2:=fun x y H Q=>scal x y=true∧Q (.bl (decide (x=y))) H
def rNe:R2:=fun x y H Q=>scal x y=true∧Q (.bl (!decide (x=y))) H
theorem dec_int {i j:Int}:decide (V.int i=V.int j)=(i==j):=by
 rw[Bool.eq_iff_iff]
 simp
theorem dec_bl {i j:Bool}:decide (V.bl i=V.bl j)=(i==j):=by
 rw[Bool.eq_iff_iff]
 simp
theorem dec_str {i j:Str}:decide (V.str i=V.str j)=(i==j):=by
 rw[Bool.eq_iff_iff]
 simp
theorem dec_byt {i j:Array UInt8}:decide (V.byt i=V.byt j)=(i.toList==j.toList):=by
 rw[Bool.eq_iff_iff]
 cases i
 cases j
 simp
section
variable {X:Cx} {a b c:Expr} {ta tb tc:TE} {pos:Pos}
theorem fin_bl {pins:List (Addr × Obj)} {σ:St} {H:Hp} {s:Shared} {Q:VK} {k k':Bool} (I:Inv X pins σ H s) (q:Q (.bl k) H) (e:k=k'):EP X pins σ Q (.bool k') s:=by
 subst e
 exact⟨.bl k,H,I,rfl,q⟩
theorem op_eq:OpR X (compareOp .Eq) rEq:=by
 intro pins s σ H x y v u Q I rx ry h
 obtain⟨hs,q⟩:=h
 cases x with
 | non =>
  cases rx
  cases y with
  | non=>cases ry;exact PySem.EqNone.eq_none_none (fin_bl I q (by simp))
  | bl j=>cases ry;exact PySem.EqNone.eq_none_bool (fin_bl I q (by simp))
  | int j=>obtain⟨t',rfl⟩:=ry;exact PySem.EqNone.eq_none_int (fin_bl I q (by simp))
  | str j=>obtain⟨t',rfl⟩:=ry;exact PySem.EqNone.eq_none_str (fin_bl I q (by simp))
  | _=>exact absurd (show false=true from hs) Bool.false_ne_true
 | bl i =>
  cases rx
  cases y with
  | non=>cases ry;exact PySem.EqNone.eq_bool_none (fin_bl I q (by simp))
  | bl j=>cases ry;exact eq_bool (fin_bl I q dec_bl)
  | str j=>obtain⟨t',rfl⟩:=ry;exact PySem.EqMixed.eq_bool_str (fin_bl I q (by simp))
  | _=>exact absurd (show false=true from hs) Bool.false_ne_true
 | int i =>
  obtain⟨t,rfl⟩:=rx
  cases y with
  | non=>cases ry;exact PySem.EqNone.eq_int_none (fin_bl I q (by simp))
  | int j=>obtain⟨t',rfl⟩:=ry;exact eq_int (fin_bl I q dec_int)
  | str j=>obtain⟨t',rfl⟩:=ry;exact PySem.EqMixed.eq_int_str (fin_bl I q (by simp))
  | _=>exact absurd (show false=true from hs) Bool.false_ne_true
 | str i =>
  obtain⟨t,rfl⟩:=rx
  cases y with
  | non=>cases ry;exact PySem.EqNone.eq_str_none (fin_bl I q (by simp))
  | bl j=>cases ry;exact PySem.EqMixed.eq_str_bool (fin_bl I q (by simp))
  | int j=>obtain⟨t',rfl⟩:=ry;exact PySem.EqMixed.eq_str_int (fin_bl I q (by simp))
  | str j=>obtain⟨t',rfl⟩:=ry;exact eq_str (fin_bl I q dec_str)
  | _=>exact absurd (show false=true from hs) Bool.false_ne_true
 | byt i =>
  obtain⟨t,rfl⟩:=rx
  cases y with
  | byt j=>obtain⟨t',rfl⟩:=ry;exact PySem.W.eq_bytes (fin_bl I q dec_byt)
  | _=>exact absurd (show false=true from hs) Bool.false_ne_true
 | _=>cases y<;>exact absurd (show false=true from hs) Bool.false_ne_true
theorem op_ne:OpR X (compareOp .NotEq) rNe:=by
 intro pins s σ H x y v u Q I rx ry h
 obtain⟨hs,q⟩:=h
 cases x with
 | non =>
  cases rx
  cases y with
  | non=>cases ry;exact PySem.EqNone.ne_none_none (fin_bl I q (by simp))
  | bl j=>cases ry;exact PySem.EqNone.ne_none_bool (fin_bl I q (by simp))
  | int j=>obtain⟨t',rfl⟩:=ry;exact PySem.EqNone.ne_none_int (fin_bl I q (by simp))
  | str j=>obtain⟨t',rfl⟩:=ry;exact PySem.EqNone.ne_none_str (fin_bl I q (by simp))
  | _=>exact absurd (show false=true from hs) Bool.false_ne_true
 | bl i =>
  cases rx
  cases y with
  | non=>cases ry;exact PySem.EqNone.ne_bool_none (fin_bl I q (by simp))
  | bl j=>cases ry;exact ne_bool (fin_bl I q (congrArg not dec_bl))
  | str j=>obtain⟨t',rfl⟩:=ry;exact PySem.EqMixed.ne_bool_str (fin_bl I q (by simp))
  | _=>exact absurd (show false=true from hs) Bool.false_ne_true
 | int i =>
  obtain⟨t,rfl⟩:=rx
  cases y with
  | non=>cases ry;exact PySem.EqNone.ne_int_none (fin_bl I q (by simp))
  | int j=>obtain⟨t',rfl⟩:=ry;exact ne_int (fin_bl I q (congrArg not dec_int))
  | str j=>obtain⟨t',rfl⟩:=ry;exact PySem.EqMixed.ne_int_str (fin_bl I q (by simp))
  | _=>exact absurd (show false=true from hs) Bool.false_ne_true
 | str i =>
  obtain⟨t,rfl⟩:=rx
  cases y with
  | non=>cases ry;exact PySem.EqNone.ne_str_none (fin_bl I q (by simp))
  | bl j=>cases ry;exact PySem.EqMixed.ne_str_bool (fin_bl I q (by simp))
  | int j=>obtain⟨t',rfl⟩:=ry;exact PySem.EqMixed.ne_str_int (fin_bl I q (by simp))
  | str j=>obtain⟨t',rfl⟩:=ry;exact ne_str (fin_bl I q (congrArg not dec_str))
  | _=>exact absurd (show false=true from hs) Bool.false_ne_true
 | byt i =>
  obtain⟨t,rfl⟩:=rx
  cases y with
  | byt j=>obtain⟨t',rfl⟩:=ry;exact PySem.W.ne_bytes (fin_bl I q (congrArg not dec_byt))
  | _=>exact absurd (show false=true from hs) Bool.false_ne_true
 | _=>cases y<;>exact absurd (show false=true from hs) Bool.false_ne_true
theorem op_lt:OpR X (compareOp .Lt) (rI0 fun i j=>.bl (decide (i < j))):=opB0 fun _ _ _ _ _ _ _ q=>lt_int q
theorem op_le:OpR X (compareOp .LtE) (rI0 fun i j=>.bl (decide (i≤j))):=opB0 fun _ _ _ _ _ _ _ q=>le_int q
theorem op_gt:OpR X (compareOp .Gt) (rI0 fun i j=>.bl (decide (j < i))):=opB0 fun _ _ _ _ _ _ _ q=>gt_int q
theorem op_ge:OpR X (compareOp .GtE) (rI0 fun i j=>.bl (decide (j≤i))):=opB0 fun _ _ _ _ _ _ _ q=>ge_int q
theorem k1e (b:Expr) {op:CmpOp} (h:op≠.In:=by decide) (h2:op≠.NotIn:=by decide):behindInMarks op b=false:=by
 have e1:(op==CmpOp.In)=false:=by cases op<;>first|rfl|exact absurd rfl h
 have e2:(op==CmpOp.NotIn)=false:=by cases op<;>first|rfl|exact absurd rfl h2
 cases b<;>simp[behindInMarks,e1,e2]
theorem pe_cmpR {op:CmpOp} {r:R2} (ho:OpR X (compareOp op) r) (ha:PE X a ta) (hb:PE X b tb) (hm:behindInMarks op b=false):PE X (.Compare a [op] [b] pos) (tOp r ta tb):=by
 intro pins s σ H Q I h
 exact wpAny_Compare1 (binT ha hb I h fun v u s2 x y H2 I2 rx ry q=>ho pins s2 σ H2 x y v u Q I2 rx ry q) hm
def tTest (t:TE):TT:=fun σ H Q=>t σ H fun x H'=>∃ k,x=.bl k∧Q k H'
theorem k0x {op:CmpOp} {r:R2} (ho:OpR X (compareOp op) r) (ha:PE X a ta) (hb:PE X b tb) (hm:behindInMarks op b=false):PT X (.Compare a [op] [b] pos) (tTest (tOp r ta tb)):=by
 intro pins s σ H Q I h
 refine wpAny_isTrue_Compare1 (thn (ha pins s σ H _ I h) fun v s1 ⟨x,H1,I1,r1,q1⟩=>thn (hb pins s1 σ H1 _ I1 q1) fun u s2 ⟨y,H2,I2,r2,q2⟩ =>
  thn (ho pins s2 σ H2 x y v u _ I2 r1 r2 q2) fun c s3 ⟨z,H3,I3,r3,k,e,q3⟩=>?_) hm
 subst e
 cases r3
 exact wpAny_truthy_bool ⟨H3,I3,q3⟩
def tChain (r r':R2) (ta tb tc:TE):TE:=fun σ H Q=>ta σ H fun x H1=>tb σ H1 fun y H2=>r x y H2 fun z H3=>∃ k,z=.bl k ∧
 (if k=true then tc σ H3 fun w' H4=>r' y w' H4 Q else Q (.bl false) H3)
theorem pe_chain {op op':CmpOp} {r r':R2} (ho:OpR X (compareOp op) r) (ho':OpR X (compareOp op') r') (ha:PE X a ta) (hb:PE X b tb) (hc:PE X c tc)
  (hm:lastMarks [op,op'] [b,c]=false:=by with_unfolding_all rfl):PE X (.Compare a [op,op'] [b,c] pos) (tChain r r' ta tb tc):=by
 intro pins s σ H Q I h
 refine Compare_chain (thn (ha pins s σ H _ I h) fun v s1 ⟨x,H1,I1,r1,q1⟩=>chain_link (thn (hb pins s1 σ H1 _ I1 q1) fun u s2 ⟨y,H2,I2,r2,q2⟩ =>
  thn (ho pins s2 σ H2 x y v u _ I2 r1 r2 q2) fun d s3 ⟨z,H3,I3,r3,k,e,q3⟩=>?_)) hm
 subst e
 cases r3
 refine wpAny_truthy_bool ?_
 cases k with
 | false=>exact ite_ff ⟨.bl false,H3,I3,rfl,q3⟩
 | true=>exact ite_tt (chain_last (thn (hc pins s3 σ H3 _ I3 q3) fun w' s4 ⟨z',H4,I4,r4,q4⟩=>ho' pins s4 σ H4 y z' u w' Q I4 r2 r4 q4))
theorem pt_chain {op op':CmpOp} {r r':R2} (ho:OpR X (compareOp op) r) (ho':OpR X (compareOp op') r') (ha:PE X a ta) (hb:PE X b tb) (hc:PE X c tc)
  (hm:lastMarks [op,op'] [b,c]=false:=by with_unfolding_all rfl):PT X (.Compare a [op,op'] [b,c] pos) (tTest (tChain r r' ta tb tc)):=by
 intro pins s σ H Q I h
 refine isTrue_chain (thn (ha pins s σ H _ I h) fun v s1 ⟨x,H1,I1,r1,q1⟩=>test_link (thn (hb pins s1 σ H1 _ I1 q1) fun u s2 ⟨y,H2,I2,r2,q2⟩ =>
  thn (ho pins s2 σ H2 x y v u _ I2 r1 r2 q2) fun d s3 ⟨z,H3,I3,r3,k,e,q3⟩=>?_)) hm
 subst e
 cases r3
 refine wpAny_truthy_bool ?_
 cases k with
 | false =>
  obtain⟨k',e',q'⟩:=q3
  cases e'
  exact ite_ff ⟨H3,I3,q'⟩
 | true =>
  refine ite_tt (test_last (thn (hc pins s3 σ H3 _ I3 q3) fun w' s4 ⟨z',H4,I4,r4,q4⟩=>thn (ho' pins s4 σ H4 y z' u w' _ I4 r2 r4 q4) fun d' s5 ⟨z2,H5,I5,r5,k2,e2,q5⟩=>?_))
  subst e2
  cases r5
  exact wpAny_truthy_bool ⟨H5,I5,q5⟩
def TruV (K:PySem.W.Frag) (x:V) (H:Hp) (k:Bool):Prop :=
 match x with
 | .non=>k=false
 | .bl b=>k=b
 | .int i=>k=(i != 0)
 | .str y=>y.length≤sizeLine∧k=((y.length:Int) != 0)
 | .byt y=>y.size≤sizeLine∧k=((y.size:Int) != 0)
 | .ref p=>(∃ xs,SqL K H p xs∧k=!xs.isEmpty)∨(∃ xs,SqT K H p xs∧k=!xs.isEmpty)∨∃ kvs,H p=some (.dK kvs)∧k=!kvs.isEmpty
 | _=>False
theorem isEmpty_kv {κ:Type} {kvs:List (κ × V)} {vs:List (κ × Value)} (r:KV kvs vs):(!vs.isEmpty)=!kvs.isEmpty:=by
 cases r<;>rfl
theorem isEmpty_of {xs:List V} {its:List Value} (r:Vals xs its):(!its.toArray.isEmpty)=!xs.isEmpty:=by
 cases r<;>simp
theorem line63:(sizeLine:Nat) < 2 ^ 63:=by rw[sizeLine_eq];decide
theorem tru_ok:TruR X (fun x H Q=>∃ k,TruV X.K x H k∧Q k H):=by
 intro pins s σ H x v Q I rx h
 obtain⟨k,e,q⟩:=h
 have hl:=line63
 have hs:sizeLine=16777216:=sizeLine_eq
 cases x with
 | non =>
  cases rx
  have e':k=false:=e
  subst e'
  exact truthy_none ⟨H,I,q⟩
 | bl b =>
  cases rx
  have e':k=b:=e
  subst e'
  exact wpAny_truthy_bool ⟨H,I,q⟩
 | int i =>
  obtain⟨t,rfl⟩:=rx
  have e':k=(i != 0):=e
  subst e'
  exact PySem.P.truthy_int ⟨H,I,q⟩
 | str y =>
  obtain⟨t,rfl⟩:=rx
  obtain⟨hy,e'⟩:y.length≤sizeLine∧k=((y.length:Int) != 0):=e
  subst e'
  exact PySem.P.truthy_str (by omega) ⟨H,I.tok _,q⟩
 | byt y =>
  obtain⟨t,rfl⟩:=rx
  obtain⟨hy,e'⟩:y.size≤sizeLine∧k=((y.size:Int) != 0):=e
  subst e'
  exact PySem.W.truthy_bytes (by omega) ⟨H,I.tok _,q⟩
 | ref p =>
  cases rx
  have e':(∃ xs,SqL X.K H p xs∧k=!xs.isEmpty)∨(∃ xs,SqT X.K H p xs∧k=!xs.isEmpty)∨∃ kvs,H p=some (.dK kvs)∧k=!kvs.isEmpty:=e
  rcases e' with ⟨xs,hx,e'⟩|⟨xs,hx,e'⟩|⟨kvs,hx,e'⟩
  ·subst e'
   obtain⟨its,r,pl,hz⟩:=I.list hx
   have hlen:=r.length
   exact wpAny_truthy_list pl.isList (by simp only[List.size_toArray];omega) ⟨H,I.tok _,by rw[isEmpty_of r];exact q⟩
  ·subst e'
   obtain⟨its,r,pl,hz⟩:=I.tuple hx
   have hlen:=r.length
   exact truthy_tuple pl (by simp only[List.size_toArray];omega) ⟨H,I.tok _,by rw[isEmpty_of r];exact q⟩
  ·subst e'
   obtain⟨hz,hS,vs,r,m⟩:kvs.length≤sizeLine∧(p==sysModules)=false∧∃ vs,KV kvs vs∧s.heap.DictOf (mixKind X.prog X.w) p vs:=I.hok p _ hx
   have hlen:kvs.length=vs.length:=Paired.length r
   exact wpAny_truthy_dict hS m (by omega) ⟨H,I.tok _,by rw[isEmpty_kv r];exact q⟩
 | _=>exact (show False from e).elim
theorem pt_truth (ha:PE X a ta) (he:∀ whole,isTrue a X.env whole=(do let v ← whole;standAt a.pos;holding [v] (truthy v))) :
  PT X a (fun σ H Q=>ta σ H fun x H'=>∃ k,TruV X.K x H' k∧Q k H'):=by
 intro pins s σ H Q I h
 exact isTrue_plain (thn (ha pins s σ H _ I h) fun v s1 ⟨x,H1,I1,r1,q1⟩=>tru_ok pins s1 σ H1 x v Q I1 r1 q1) (he _)
theorem vals1 {x:V} {us:List Value} (r:Vals [x] us):∃ u,us=[u]∧RelV x u:=by
 cases r with
 | cons r1 r2=>cases r2;exact⟨_,rfl,r1⟩
theorem vals2 {x y:V} {us:List Value} (r:Vals [x,y] us):∃ u w',us=[u,w']∧RelV x u∧RelV y w':=by
 cases r with
 | cons r1 r2 =>
  cases r2 with
  | cons r3 r4=>cases r4;exact⟨_,_,rfl,r1,r3⟩
theorem call_min2 (hc:X.calm=true):CallR X (.builtin "min") (fun xs H Q=>∃ i j,xs=[.int i,.int j]∧Q (.int (if j < i then j else i)) H):=by
 intro pins s σ H xs us Q I r h
 obtain⟨i,j,rfl,q⟩:=h
 obtain⟨u,w',rfl,⟨t,rfl⟩,⟨t',rfl⟩⟩:=vals2 r
 refine min_two_ints (I.ok.hd hc) fun h' tk k=>⟨_,H,I.kept k,?_,q⟩
 by_cases hj:j < i
 ·rw[if_pos hj,if_pos hj];exact⟨_,rfl⟩
 ·rw[if_neg hj,if_neg hj];exact⟨_,rfl⟩
end
end L2
namespace L2
open PySem PySem.Spec PyProof.Rows
structure ObjM (h:Heap) (x dx C:Addr) (mA:Str->Option Value):Prop where
 obj:h.get? x=some (PySem.W.instObj C dx)
 ns:h.Ns1 dx mA
 ne:dx≠x
theorem lookIn_ns {h:Heap} {dx:Addr} {mA:Str->Option Value} (n:h.Ns1 dx mA):∃ od,h.get? dx=some od∧∀ name,PySem.W.lookIn name od=some (mA name):=by
 obtain⟨o,es,ep,ho,hd,hk,_,hm⟩:=n
 refine⟨o,ho,fun name=>?_⟩
 have e:=hm name
 unfold nsFind findBy at e
 rw[← Array.find?_toList] at e
 unfold PySem.W.lookIn
 rw[hd]
 dsimp only
 split
 ·rename_i y q
  rw[q] at e
  exact congrArg some e
 ·rename_i q
  rw[q] at e
  have a:es.toList.any (·.refKey)=false:=by
   rw[List.any_eq_false]
   intro y hy
   obtain⟨z,t,hkey⟩:=hk y (Array.mem_toList_iff.mp hy)
   simp[DictEntry.refKey,hkey]
  have a':¬ es.toList.any (·.refKey)=true:=by rw[a];exact Bool.false_ne_true
  rw[if_neg a']
  exact congrArg some e
theorem ObjM.look {h:Heap} {x dx C:Addr} {mA:Str->Option Value} (I:ObjM h x dx C mA):∃ od,PySem.W.InstAt h x (PySem.W.instObj C dx) C (some od)∧∀ name,PySem.W.lookIn name od=some (mA name) :=
 let ⟨od,ho,hl⟩:=lookIn_ns I.ns
 ⟨od,⟨I.obj,rfl,rfl,ho⟩,hl⟩
section
variable {prog:Program} {w:World} {A:Around} {E:Value->Shared->Prop} {s:Shared} {K:PySem.W.Frag} {x dx C f:Addr} {mA:Str->Option Value} {name:Str} {v:Value}
theorem get_map {expr:Bool} {Q:Value->Shared->Prop} (X:K.In s.heap) (I:ObjM s.heap x dx C mA) (hg:PySem.W.plainGet K C name=true) (hh:PySem.W.hasDictIn K C=true)
  (ha:PySem.W.findIn K (.ref C) name=some none) (hv:mA name=some v) (hv':PySem.W.handedIn v=true) (h:Q v { s with toks:=s.toks+1 }) :
  wpAny (model prog w) A (getAttr (.ref x) name expr) Q E s:=by
 obtain⟨od,J,hl⟩:=I.look
 exact PySem.W.get_value X J (PySem.W.plainGet_of hg).1 (PySem.W.findObj_own hh ha rfl (by rw[hl,hv])) hv' h
theorem set_map {ns:List Str} {Q:Unit->Shared->Prop} (X:K.In s.heap) (I:ObjM s.heap x dx C mA)
  (hs:PySem.W.findIn K (.ref C) "__setattr__"=some (some (.builtin "object.__setattr__"))) (hp:PySem.W.plainOver K C=true) (ht:PySem.W.takerIn K C name=some none) (hh:PySem.W.hasDictIn K C=true)
  (hw:PySem.Within mA ns) (hsz:ns.length≤sizeLine)
  (h:∀ h',ObjM h' x dx C (fun y=>if y=name then some v else mA y)->Heap.SameBut dx s.heap h'->Q () { s with heap:=h',toks:=s.toks+2 }) :
  wpAny (model prog w) A (setAttr (.ref x) name v) Q E s:=by
 obtain⟨od,J,hl⟩:=I.look
 refine PySem.W.set_plain X J hs (PySem.W.osa_open (s:={ s with toks:=s.toks+1 }) (r:=none) X J hp ht fun b=>?_)
 obtain⟨cd,hc,hd'⟩:=PySem.W.any_some hh
 have hx:s.heap.get? x=some ⟨.ref C,some dx,.plain,#[]⟩:=I.obj
 refine wpAny_bind (wpAny_pure (wpAny_bind (wpAny_bind (wpAny_loadPart hx (wpAny_bind (PySem.W.Looks.here (s:={ s with toks:=s.toks+1 }) (PySem.W.looks_clsIn X hc) ?_))))))
 rw[hd']
 refine wpAny_pure (a:=some dx) (wpAny_bind (wpAny_pure (wpAny_bind ?_)))
 refine wpAny_nsSet1 (s:={ s with toks:=s.toks+1 }) I.ns fun h' hn2 hs2=>?_
 obtain⟨oD,esD,epD,hoD,hdD,hcD⟩:=hn2.count (PySem.Within.cons name v hw)
 refine wpAny_bind (wpAny_lookBehind hoD (by rw[hdD];exact pastItsLine_dict (Nat.le_trans hcD (by rw[List.length_cons];omega))) ?_)
 exact wpAny_pure (h _ ⟨(hs2.2 _ (Ne.symm I.ne)).trans I.obj,hn2,I.ne⟩ hs2)
theorem make_map {R:Result->Shared->Prop} {vs:List Value} {kw:List (Str × Value)} (X:K.In s.heap) (hm:PySem.W.makesIn K C=true)
  (hi:PySem.W.findIn K (.ref C) "__init__"=some (some (.ref f))) (hf:PySem.W.typeIn K (.ref f)=some (.type "function"))
  (h:codeAny (model prog w) (A.under (.builtin "type.__call__" ⟨.ref C::vs,kw⟩)) (.call (.ref f) ⟨.ref (s.heap.objs.size+1)::vs,kw⟩) (PySem.W.InitBack (s.heap.objs.size+1) R)
   { s with heap:=(s.heap.push PySem.W.emptyDict).push (PySem.W.instObj C s.heap.objs.size) }) :
  codeAny (model prog w) A (.call (.ref C) ⟨vs,kw⟩) R s:=by
 obtain⟨hh,g,d,t,os⟩:=s
 exact PySem.W.make_core (PySem.W.makes_of X hm) (PySem.W.looks_findIn X hi) (fun self=>PySem.W.bind_fn X self hf) (.inl rfl) h
end
def putF (f:Str) (v:V):List (Str × V)->List (Str × V)
 | []=>[(f,v)]
 | (g,x)::r=>if g=f then (g,v)::r else (g,x)::putF f v r
theorem lookup_putF (f g:Str) (v:V):∀ fs:List (Str × V),(putF f v fs).lookup g=if g=f then some v else fs.lookup g
 | []=>by
  show List.lookup g [(f,v)]=_
  by_cases h:g=f
  ·have hb:(g==f)=true:=beq_iff_eq.mpr h
   simp only[List.lookup,hb,if_pos h]
  ·have hb:(g==f)=false:=beq_eq_false_iff_ne.mpr h
   simp only[List.lookup,hb,if_neg h]
 | (k,x)::r=>by
  have ih:=lookup_putF f g v r
  rw[show putF f v ((k,x)::r)=(if k=f then (k,v)::r else (k,x)::putF f v r) from rfl]
  by_cases hk:k=f
  ·rw[if_pos hk]
   by_cases h:g=k
   ·have hb:(g==k)=true:=beq_iff_eq.mpr h
    simp only[List.lookup,hb,if_pos (h.trans hk)]
   ·have hb:(g==k)=false:=beq_eq_false_iff_ne.mpr h
    simp only[List.lookup,hb,if_neg (fun e:g=f=>h (e.trans hk.symm))]
  ·rw[if_neg hk]
   by_cases h:g=k
   ·have hb:(g==k)=true:=beq_iff_eq.mpr h
    simp only[List.lookup,hb,if_neg (fun e:g=f=>hk (h.symm.trans e))]
   ·have hb:(g==k)=false:=beq_eq_false_iff_ne.mpr h
    simp only[List.lookup,hb]
    exact ih
theorem keys_putF (f:Str) (v:V):∀ fs:List (Str × V),f∈(putF f v fs).map (·.1)∧∀ g,g∈fs.map (·.1)->g∈(putF f v fs).map (·.1)
 | []=>⟨by simp[putF],fun g h=>by simp at h⟩
 | (k,x)::r=>by
  obtain⟨i1,i2⟩:=keys_putF f v r
  rw[show putF f v ((k,x)::r)=(if k=f then (k,v)::r else (k,x)::putF f v r) from rfl]
  by_cases hk:k=f
  ·rw[if_pos hk]
   subst hk
   exact⟨by simp,fun g h=>by simpa using h⟩
  ·rw[if_neg hk]
   refine⟨?_,fun g h=>?_⟩
   ·rw[List.map_cons]
    exact List.mem_cons_of_mem _ i1
   ·rw[List.map_cons] at h ⊢
    rcases List.mem_cons.mp h with e|e
    ·exact List.mem_cons.mpr (.inl e)
    ·exact List.mem_cons_of_mem _ (i2 g e)
theorem length_putF (f:Str) (v:V):∀ fs:List (Str × V),(putF f v fs).length≤fs.length+1
 | []=>by simp[putF]
 | (k,x)::r=>by
  have ih:=length_putF f v r
  rw[show putF f v ((k,x)::r)=(if k=f then (k,v)::r else (k,x)::putF f v r) from rfl]
  by_cases hk:k=f
  ·rw[if_pos hk,List.length_cons,List.length_cons];omega
  ·rw[if_neg hk,List.length_cons,List.length_cons];omega
theorem RelO.some_of {v:V} {o:Option Value} (r:RelO (some v) o):∃ u,o=some u∧RelV v u:=by
 cases o with
 | none=>exact (show False from r).elim
 | some u=>exact⟨u,rfl,r⟩
theorem handed_of {v:V} {u:Value} (r:RelV v u):PySem.W.handedIn u=true:=by
 cases v with
 | non=>cases (show u=Value.none from r);rfl
 | bl b=>cases (show u=Value.bool b from r);rfl
 | int i=>obtain⟨t,e⟩:=(show ∃ t,u=Value.int i t from r);cases e;rfl
 | str x=>obtain⟨t,e⟩:=(show ∃ t,u=Value.str x t from r);cases e;rfl
 | byt b=>obtain⟨t,e⟩:=(show ∃ t,u=Value.bytes b t from r);cases e;rfl
 | flt b=>obtain⟨t,e⟩:=(show ∃ t,u=Value.float b t from r);cases e;rfl
 | ref a=>cases (show u=Value.ref a from r);rfl
 | ty n=>cases (show u=Value.type n from r);rfl
section
variable {P:Program} {w:World} {H H':Hp} {h h':Heap} {a C dx:Addr} {fs fs':List (Str × V)}
theorem ins_get (hok:HOk P w H h) (e:H a=some (.ins C dx fs)):∃ mA,ObjM h a dx C mA∧(∀ f,RelO (fs.lookup f) (mA f))∧PySem.Within mA (fs.map (·.1))∧fs.length≤1000∧H dx=some (.own a):=by
 obtain⟨d,z,ne,ob,mA,n,r,q⟩:=(show ObjOk P w H h a (.ins C dx fs) from hok a _ e)
 exact⟨mA,⟨ob,n,ne⟩,r,q,z,d⟩
end
structure Cls (K:PySem.W.Frag) (C:Addr):Prop where
 pg:PySem.W.plainGet K C Str.empty=true
 hd:PySem.W.hasDictIn K C=true
 po:PySem.W.plainOver K C=true
 sa:PySem.W.findIn K (.ref C) "__setattr__"=some (some (.builtin "object.__setattr__"))
theorem Cls.get {K:PySem.W.Frag} {C:Addr} (c:Cls K C) (f:Str):PySem.W.plainGet K C f=true:=c.pg
def NoAttr (K:PySem.W.Frag) (C:Addr) (f:Str):Prop:=PySem.W.findIn K (.ref C) f=some none
theorem NoAttr.taker {K:PySem.W.Frag} {C:Addr} {f:Str} (n:NoAttr K C f):PySem.W.takerIn K C f=some none:=by
 unfold PySem.W.takerIn
 rw[show PySem.W.findIn K (.ref C) f=some none from n]
 rfl
section
variable {X:Cx} {pins:List (Addr × Obj)} {σ:St} {H:Hp} {s:Shared} {a C dx:Addr} {fs:List (Str × V)} {f:Str} {v:V} {A:Around} {E:Value->Shared->Prop}
theorem getattr_ok {b:Bool} {Q:Value->Shared->Prop} (I:Inv X pins σ H s) (e:H a=some (.ins C dx fs)) (c:Cls X.K C) (n:NoAttr X.K C f) (l:fs.lookup f=some v)
  (h:∀ u s',Inv X pins σ H s'->RelV v u->Q u s'):wpAny (model X.prog X.w) A (getAttr (.ref a) f b) Q E s:=by
 obtain⟨mA,O,r,_,_,_⟩:=ins_get I.hok e
 obtain⟨u,hu,ru⟩:=RelO.some_of (v:=v) (o:=mA f) (by rw[← l];exact r f)
 exact get_map I.kIn O (c.get f) c.hd n hu (handed_of ru) (h u _ (I.tok _) ru)
theorem setattr_ok {y:V} {u:Value} {Q:Unit->Shared->Prop} (I:Inv X pins σ H s) (e:H a=some (.ins C dx fs)) (c:Cls X.K C) (n:NoAttr X.K C f) (hl:fs.length < 1000) (ry:RelV y u)
  (h:∀ s',Inv X pins σ (upd H a (.ins C dx (putF f y fs))) s'->Q () s'):wpAny (model X.prog X.w) A (setAttr (.ref a) f u) Q E s:=by
 obtain⟨mA,O,r,wi,_,ho⟩:=ins_get I.hok e
 have hz:(fs.map (·.1)).length≤sizeLine:=by rw[List.length_map,sizeLine_eq];omega
 refine set_map I.kIn O c.sa c.po n.taker c.hd wi hz fun h' O' sb=>h _ ?_
 have hd:∃ o,h'.get? dx=some o:=let ⟨o,_,_,e',_⟩:=O'.ns;⟨o,e'⟩
 refine I.write (x:=a) (e:=dx) (by rw[e];exact True.intro) (.inr ho) (fun b q hb z=>(sb.2 b hb).trans z) hd ?_
 refine⟨by rw[k0p O.ne];exact ho,?_,O.ne,O'.obj,_,O'.ns,fun g=>?_,fun g hg=>?_⟩
 ·have:=length_putF f y fs;omega
 ·show RelO ((putF f y fs).lookup g) (if g=f then some u else mA g)
  rw[lookup_putF]
  by_cases q:g=f
  ·rw[if_pos q,if_pos q];exact ry
  ·rw[if_neg q,if_neg q];exact r g
 ·by_cases q:g=f
  ·rw[q];exact (keys_putF f y fs).1
  ·refine (keys_putF f y fs).2 g (wi g fun z=>hg ?_)
   show (if g=f then some u else mA g)=none
   rw[if_neg q];exact z
theorem Inv.made (I:Inv X pins σ H s):Inv X pins σ (upd (upd H s.heap.objs.size (.own (s.heap.objs.size+1))) (s.heap.objs.size+1) (.ins C s.heap.objs.size []))
  { s with heap:=(s.heap.push PySem.W.emptyDict).push (PySem.W.instObj C s.heap.objs.size) }:=by
 have e1:(s.heap.push PySem.W.emptyDict).get? s.heap.objs.size=some PySem.W.emptyDict:=Heap.get?_push_size s.heap rfl
 have e2:((s.heap.push PySem.W.emptyDict).push (PySem.W.instObj C s.heap.objs.size)).get? (s.heap.objs.size+1)=some (PySem.W.instObj C s.heap.objs.size):=by
  have:=Heap.get?_push_size (s.heap.push PySem.W.emptyDict) (o:=PySem.W.instObj C s.heap.objs.size) rfl
  rwa [Heap.size_push] at this
 have e3:(s.heap.push PySem.W.emptyDict).Ns s.heap.objs.size (fun _=>none):=⟨PySem.W.emptyDict,#[],_,e1,rfl,(fun e he=>absurd he (by simp)),fun _=>rfl⟩
 have I1:=I.laid (a:=s.heap.objs.size) (o:=.own (s.heap.objs.size+1)) (h':=s.heap.push PySem.W.emptyDict) (t':=s.toks) (fun b u q=>Heap.get?_push_of_some _ q) (Nat.le_refl _) ⟨_,e1⟩
 refine I1.laid (a:=s.heap.objs.size+1) (o:=.ins C s.heap.objs.size []) (t':=s.toks) (fun b u q=>Heap.get?_push_of_some _ q) (Nat.le_of_eq (Heap.size_push _ _)) ?_
 have ne:s.heap.objs.size≠s.heap.objs.size+1:=Nat.ne_of_lt (Nat.lt_succ_self _)
 refine⟨by rw[k0p ne,k0f],Nat.zero_le _,ne,e2,fun _=>none,(Heap.Ns1.of_empty e3).at fun o q=>Heap.get?_push_of_some _ q,fun _=>True.intro,fun y hy=>absurd rfl hy⟩
theorem attr_of {prog:Program} {w:World} {env:Env} {e:Expr} {f:Str} {pos:Pos} {s:Shared} {Q:Value->Shared->Prop} (hb:attributeBase e f env (eval e env)=eval e env)
  (h:wpAny (model prog w) A (eval e env) (fun o s₁=>wpAny (model prog w) A (getAttr o f true) Q E s₁) E s):wpAny (model prog w) A (eval (.Attribute e f pos) env) Q E s :=
 Attribute_any_ h (by rw[arm_eval_Attribute,hb])
end
def tFld (K:PySem.W.Frag) (ta:TE) (f:Str):TE:=fun σ H Q=>ta σ H fun x H1=>∃ a C dx fs v,x=.ref a∧H1 a=some (.ins C dx fs)∧Cls K C∧NoAttr K C f∧fs.lookup f=some v∧Q v H1
def sFld (K:PySem.W.Frag) (ta tv:TE) (f:Str):TS:=fun D σ H=>tv σ H fun y H1=>ta σ H1 fun x H2=>∃ a C dx fs,x=.ref a∧H2 a=some (.ins C dx fs)∧Cls K C∧NoAttr K C f∧fs.length < 1000 ∧
 D.nx σ (upd H2 a (.ins C dx (putF f y fs)))
def InOp (X:Cx) (op:Operator) (rd:V->V->Hp->VK->Prop):Prop :=
 ∀ (pins:List (Addr × Obj)) (s:Shared) (σ:St) (H:Hp) (x y:V) (u v:Value) (Q:VK),Inv X pins σ H s->RelV x u->RelV y v->rd x y H Q->wpAny (model X.prog X.w) X.A (inplaceOp op u v) (EP X pins σ Q) X.xe s
def sFldAug (K:PySem.W.Frag) (ta tv:TE) (rd:V->V->Hp->VK->Prop) (f:Str):TS:=fun D σ H=>ta σ H fun x H1=>∃ a C dx fs v,x=.ref a∧H1 a=some (.ins C dx fs)∧Cls K C∧NoAttr K C f∧fs.lookup f=some v ∧
 tv σ H1 fun y H2=>rd v y H2 fun z H3=>∃ dx' fs',H3 a=some (.ins C dx' fs')∧fs'.length < 1000∧D.nx σ (upd H3 a (.ins C dx' (putF f z fs')))
section
variable {X:Cx} {o e value:Expr} {f:Str} {pos pos' tpos:Pos} {ta tv:TE}
theorem pe_fld (he:PE X e ta) (hb:attributeBase e f X.env (eval e X.env)=eval e X.env):PE X (.Attribute e f pos) (tFld X.K ta f):=by
 intro pins s σ H Q I h
 refine attr_of hb (thn (he pins s σ H _ I h) fun u s1 ⟨x,H1,I1,rx,a,C,dx,fs,v,ex,ea,c,n,l,q⟩=>?_)
 subst ex
 obtain rfl:u=Value.ref a:=rx
 exact getattr_ok I1 ea c n l fun u' s2 I2 ru=>⟨v,H1,I2,ru,q⟩
theorem ps_fld (ha:PE X o ta) (hv:PE X value tv) (hs:swapsWith value (some (.Attribute o f pos')) pos.line X.env=pure false):PS X (.Assign [.Attribute o f pos'] value pos) (sFld X.K ta tv f):=by
 intro pins s σ H D I h
 refine plainObj_wpAny_Assign_Attribute (thn (hv pins s σ H _ I h) fun u s1 ⟨y,H1,I1,ry,q⟩=>thn (ha pins s1 σ H1 _ I1 q) fun ov s2 ⟨x,H2,I2,rx,a,C,dx,fs,ex,ea,c,n,l,q2⟩=>?_) hs
 subst ex
 obtain rfl:ov=Value.ref a:=rx
 exact setattr_ok I2 ea c n l ry fun s3 I3=>⟨σ,_,I3,q2⟩
theorem ps_fldaug {op:Operator} {rd:V->V->Hp->VK->Prop} (ha:PE X o ta) (hv:PE X value tv) (hop:InOp X op rd):PS X (.AugAssign (.Attribute o f tpos) op value pos) (sFldAug X.K ta tv rd f):=by
 intro pins s σ H D I h
 refine wpAny_AugAssign_AttributeAny (thn (ha pins s σ H _ I h) fun ov s1 ⟨x,H1,I1,rx,a,C,dx,fs,v,ex,ea,c,n,l,q⟩=>?_)
 subst ex
 obtain rfl:ov=Value.ref a:=rx
 refine getattr_ok I1 ea c n l fun u s2 I2 ru=>thn (hv pins s2 σ H1 _ I2 q) fun w3 s3 ⟨y,H2,I3,ry,q3⟩=>thn (hop pins s3 σ H2 v y u w3 _ I3 ru ry q3) fun w4 s4 ⟨z,H3,I4,rz,dx',fs',ea',l',q4⟩=>?_
 exact setattr_ok I4 ea' c n l' rz fun s5 I5=>⟨σ,_,I5,q4⟩
def rAdd:V->V->Hp->VK->Prop:=fun x y H Q=>∃ i j,x=.int i∧y=.int j∧Q (.int (i+j)) H
theorem in_add:InOp X .Add rAdd:=by
 rintro pins s σ H x y u v Q I rx ry ⟨i,j,rfl,rfl,q⟩
 obtain⟨t,rfl⟩:=(show ∃ t,u=Value.int i t from rx)
 obtain⟨t',rfl⟩:=(show ∃ t',v=Value.int j t' from ry)
 exact PyProof.Rows.iadd_int ⟨.int (i+j),H,I.tok _,⟨_,rfl⟩,q⟩
end
end L2
namespace L2
open PySem PySem.Spec PyProof.Rows
structure Room (k:Nat) (A:Around):Prop where
 hd:A.handled=none
 dp:A.depth+3*k+5 < recursionLimit
 un:A.units+16*k+200 < cLine
theorem Room.mono {j k:Nat} {A:Around} (r:Room k A) (h:j≤k):Room j A:=⟨r.hd,by have:=r.dp;omega,by have:=r.un;omega⟩
theorem Room.deeper {k:Nat} {A:Around} (r:Room (k+1) A) (env:Env):Room k (A.deeper env) :=
 ⟨r.hd,by have:=r.dp;show A.depth+1+3*k+5 < _;omega,by have:=r.un;show A.units+3+16*k+200 < _;omega⟩
theorem make_depth {A:Around} {C:Addr} {us:List Value} {kw:List (Str × Value)}:(A.under (.builtin "type.__call__" ⟨.ref C::us,kw⟩)).depth=A.depth+1:=by
 first|rfl|simp[Around.under,Code.weight,Code.isCreation,Code.isGuard,Code.isCaller,Code.frames,Code.isFrame,guardIds]
theorem make_units {A:Around} {C:Addr} {us:List Value} {kw:List (Str × Value)}:(A.under (.builtin "type.__call__" ⟨.ref C::us,kw⟩)).units=A.units+1:=by
 first|rfl|simp[Around.under,Code.cUnits,Code.frames,Code.isFrame]
theorem Room.make {k:Nat} {A:Around} (r:Room (k+1) A) (C:Addr) (us:List Value) (kw:List (Str × Value)):Room k (A.under (.builtin "type.__call__" ⟨.ref C::us,kw⟩)) :=
 ⟨r.hd,by have:=r.dp;rw[make_depth];omega,by have:=r.un;rw[make_units];omega⟩
theorem Room.depth {k:Nat} {A:Around} (r:Room k A):A.depth < recursionLimit:=by have:=r.dp;omega
theorem Room.units {k:Nat} {A:Around} (r:Room k A):A.units+64 < cLine:=by have:=r.un;omega
def tNil:TA:=fun _ H Q=>Q [] H
def tCons (ta:TE) (tr:TA):TA:=fun σ H Q=>ta σ H fun x H1=>tr σ H1 fun xs H2=>Q (x::xs) H2
section
variable {X:Cx} {e:Expr} {es:List Expr} {te:TE} {t:TA} {pos:Pos}
theorem k0g:PA X [] tNil:=fun _ _ _ _ H Q I h=>Calls.spliced_nil ⟨[],H,I,.nil,h⟩
theorem k0a (ha:PE X e te) (hr:PA X es t) (hs:starEach (e::es) X.env=(false,eval e X.env)::starEach es X.env:=by rfl):PA X (e::es) (tCons te t):=by
 intro pos pins s σ H Q I h
 rw[hs]
 show wpAny _ _ (spliced ((false,eval e X.env)::backTo pos (starEach es X.env))) _ _ s
 refine Calls.spliced_cons (thn (ha pins s σ H _ I h) fun u s1 ⟨x,H1,I1,r1,q1⟩=>?_)
 exact thn (hr pos pins s1 σ H1 _ I1 q1) fun us s2 ⟨xs,H2,I2,r2,q2⟩=>⟨x::xs,H2,I2,.cons r1 r2,q2⟩
def tTup (t:TA):TE:=fun σ H Q=>t σ H fun xs H1=>xs.length≤sizeLine∧∀ p,H1 p=none->Q (.ref p) (upd H1 p (.tup xs))
def tLst (t:TA):TE:=fun σ H Q=>t σ H fun xs H1=>xs.length≤sizeLine∧∀ p,H1 p=none->Q (.ref p) (upd H1 p (.lst xs))
theorem pe_tup {x1} (h:PA X es t):PE X (.Tuple es x1 pos) (tTup t):=by
 intro pins s σ H Q I hq
 refine wpAny_Tuple_spliced (thn (h pos pins s σ H _ I hq) fun us s1 ⟨xs,H1,I1,r,z,q⟩=>⟨by rw[← r.length];exact z,?_⟩)
 have hf:H1 s1.heap.objs.size=none:=I1.hok.fresh (Nat.le_refl _)
 refine⟨.ref s1.heap.objs.size,upd H1 s1.heap.objs.size (.tup xs),I1.laid (t':=s1.toks) (fun b u e=>Heap.get?_push_of_some _ e) (Nat.le_refl _) ?_,rfl,q _ hf⟩
 exact⟨z,us,r,⟨_,Heap.get?_push_size _ rfl,rfl,_,rfl⟩⟩
theorem k1g (h:PA X es t):PE X (.List es pos) (tLst t):=by
 intro pins s σ H Q I hq
 refine wpAny_List_spliced (thn (h pos pins s σ H _ I hq) fun us s1 ⟨xs,H1,I1,r,z,q⟩=>⟨by rw[← r.length];exact z,?_⟩)
 have hf:H1 s1.heap.objs.size=none:=I1.hok.fresh (Nat.le_refl _)
 refine⟨.ref s1.heap.objs.size,upd H1 s1.heap.objs.size (.lst xs),I1.laid (t':=s1.toks) (fun b u e=>Heap.get?_push_of_some _ e) (Nat.le_refl _) ?_,rfl,q _ hf⟩
 exact⟨z,us,0,r,Heap.get?_push_size _ rfl⟩
end
abbrev Sp:=List V->Hp->VK->XK->Prop
abbrev CXT:=List Env->Hp->Shared->XK->Value->Shared->Prop
structure Env0 (P:Program) (w:World) (K:PySem.W.Frag) (mg:Str->Option Value) (base:Heap) (A:Around) (outer:List Env) (s:Shared) (H:Hp):Prop where
 frames:A.frames=some outer
 mod:Mod K mg base
 bs:∀ b o,base.get? b=some o->s.heap.get? b=some o∧H b=none
 bsz:base.objs.size≤s.heap.objs.size
 funs:s.heap.FunFrames base outer
 frf:∀ b∈frs outer,H b=none
 hok:HOk P w H s.heap
 bare:AllBare s.gens
def CE (outer:List Env) (P:Program) (w:World) (H:Hp) (s:Shared) (Q:VK) (u:Value) (s':Shared):Prop :=
 ∃ v H',s'.os=s.os∧AllBare s'.gens∧Un (frs outer) [] H H' s.heap s'.heap∧HOk P w H' s'.heap∧RelV v u∧Q v H'
def CR (CX:CXT) (outer:List Env) (P:Program) (w:World) (H:Hp) (s:Shared) (Q:VK) (E:XK) (r:Result) (s':Shared):Prop :=
 match r with
 | .ok (.ret u)=>CE outer P w H s Q u s'
 | .ok _=>False
 | .error e=>CX outer H s E e s'
structure FnOk (P:Program) (w:World) (K:PySem.W.Frag) (mg:Str->Option Value) (base:Heap) (CX:CXT) (k:Nat) (f:Addr) (fd:FuncData) (ps:List Str) (sp:Sp):Prop where
 len:∀ vs H Q E,sp vs H Q E->vs.length=ps.length
 run:∀ (A:Around) (outer:List Env) (s:Shared) (H:Hp) (args:Args) (us:List Value) (vs:List V) (Q:VK) (E:XK),Room k A->Env0 P w K mg base A outer s H->BindsTo s fd args (ps.zip us)->Vals vs us->sp vs H Q E ->
  codeAny (model P w) A (.call (.ref f) args) (CR CX outer P w H s Q E) s
theorem Env0.make {P:Program} {w:World} {K:PySem.W.Frag} {mg:Str->Option Value} {base:Heap} {A:Around} {outer:List Env} {s:Shared} {H:Hp} (e:Env0 P w K mg base A outer s H) (C:Addr) (us:List Value) (kw:List (Str × Value)) :
  Env0 P w K mg base (A.under (.builtin "type.__call__" ⟨.ref C::us,kw⟩)) outer s H:=⟨by first|exact e.frames|(simpa [Around.under,Code.envs,Code.isFrame,pushEnvs] using e.frames),e.mod,e.bs,e.bsz,e.funs,e.frf,e.hok,e.bare⟩
section
variable {X:Cx} {pins:List (Addr × Obj)} {σ:St} {H:Hp} {s s':Shared}
theorem Inv.env0 (I:Inv X pins σ H s):Env0 X.prog X.w X.K X.mg X.base X.A X.stack s H :=
 ⟨I.ok.frames,I.ok.mod,I.bs,Nat.le_trans I.ok.bsz I.sz,I.stack,I.stkFree,I.hok,I.bare⟩
theorem Inv.after {Q:VK} {u:Value} (I:Inv X pins σ H s) (h:CE X.stack X.prog X.w H s Q u s'):EP X pins σ Q u s':=by
 obtain⟨v,H',os,bare,un,hok,r,q⟩:=h
 obtain⟨hh,g,d,t,os'⟩:=s'
 obtain rfl:os'=s.os:=os
 exact⟨v,H',I.call (h':=hh) (g':=g) (d':=d) (t':=t) (ch:=[]) un hok bare (fun b z=>absurd z (by simp)),r,q⟩
end
def tCall (sp:Sp) (dvs:List V) (E:XK) (t:TA):TE:=fun σ H Q=>t σ H fun vs H1=>sp (vs++dvs) H1 Q E
def tMake (C:Addr) (sp:Sp) (dvs:List V) (E:XK) (t:TA):TE:=fun σ H Q=>t σ H fun vs H1=>∀ x dx,H1 x=none->H1 dx=none->dx≠x ->
 sp (.ref x::(vs++dvs)) (upd (upd H1 dx (.own x)) x (.ins C dx [])) (fun v H2=>v=.non∧Q (.ref x) H2) E
def Binds (K:PySem.W.Frag) (fd:FuncData) (ps:List Str) (ds:List Value):Prop :=
 ∀ (s:Shared) (us:List Value),K.In s.heap->(us++ds).length=ps.length->BindsTo s fd ⟨us,[]⟩ (ps.zip (us++ds))
theorem Binds.all {K:PySem.W.Frag} {fd:FuncData} {ps:List Str} (h:∀ us:List Value,us.length=ps.length->bindArgs fd ⟨us,[]⟩=pure (ps.zip us)):Binds K fd ps []:=fun s us _ hl=>by
 rw[List.append_nil] at hl ⊢
 exact .of_eq (h us hl)
def Passes (CX:CXT) (X:Cx) (E:XK):Prop:=∀ (pins:List (Addr × Obj)) (σ:St) (H:Hp) (s:Shared) (e:Value) (s':Shared),Inv X pins σ H s->CX X.stack H s E e s'->X.xe e s'
section
variable {X:Cx} {CX:CXT} {k:Nat} {f C:Addr} {fd:FuncData} {ps:List Str} {sp:Sp} {dvs:List V} {ds:List Value} {E:XK} {x m:Str} {p pos apos:Pos} {e o:Expr} {es:List Expr} {ta:TE} {t:TA}
theorem run_fn {pins:List (Addr × Obj)} {σ:St} {H:Hp} {s:Shared} {Q:VK} {us:List Value} {vs:List V} (F:FnOk X.prog X.w X.K X.mg X.base CX k f fd ps sp) (hr:Room k X.A) (hb:Binds X.K fd ps ds) (hd:Vals dvs ds) (hx:Passes CX X E)
  (I:Inv X pins σ H s) (r:Vals vs us) (h:sp (vs++dvs) H Q E):wpAny (model X.prog X.w) X.A (call (.ref f) us) (EP X pins σ Q) X.xe s:=by
 have r2:Vals (vs++dvs) (us++ds):=r.append hd
 have hl:(us++ds).length=ps.length:=by rw[← r2.length];exact F.len _ _ _ _ h
 refine wpAny_call (codeAny_mono (F.run X.A X.stack s H ⟨us,[]⟩ (us++ds) (vs++dvs) Q E hr I.env0 (hb s us I.kIn hl) r2 h) fun r s' hq=>?_)
 cases r with
 | error e=>exact hx pins σ H s e s' I hq
 | ok fl =>
  cases fl with
  | ret u=>exact I.after hq
  | next=>exact False.elim hq
  | brk=>exact False.elim hq
  | cont=>exact False.elim hq
theorem pe_call (F:FnOk X.prog X.w X.K X.mg X.base CX k f fd ps sp) (hr:Room k X.A) (hg:Gl X x) (hm:X.mg x=some (.ref f)) (hk:PySem.W.keepIn X.K (.ref f)=true) (hb:Binds X.K fd ps ds) (hd:Vals dvs ds) (hx:Passes CX X E)
  (ha:PA X (e::es) t) (hdb:(x==("__debug__":Str))=false:=by decide) (he:starEach (e::es) X.env=(false,eval e X.env)::starEach es X.env:=by rfl) (hpl:(backTo pos (starEach es X.env)).any (·.1)=false:=by rfl) :
  PE X (.Call (.Name x p) (e::es) [] pos) (tCall sp dvs E t):=by
 intro pins s σ H Q I h
 refine wpAny_Call_Name_kw (ld_glob I hg hm ?_ hdb)
 refine PySem.W.callWith_K (h₀:=X.base) I.ok.mod.kin hk (thn (ha pos pins s σ H _ I h) fun us s1 ⟨vs,H1,I1,r,q⟩=>⟨I1.kIn,?_⟩) he hpl
 exact run_fn F hr hb hd hx I1 r q
structure Mk (K:PySem.W.Frag) (C f:Addr):Prop where
 makes:PySem.W.makesIn K C=true
 init:PySem.W.findIn K (.ref C) "__init__"=some (some (.ref f))
 fn:PySem.W.isFn K (.ref f)=true
 kp:PySem.W.keepIn K (.ref C)=true
theorem run_make {pins:List (Addr × Obj)} {σ:St} {H:Hp} {s:Shared} {Q:VK} {us:List Value} {vs:List V} (M:Mk X.K C f) (F:FnOk X.prog X.w X.K X.mg X.base CX k f fd ps sp) (hr:Room (k+1) X.A) (hb:Binds X.K fd ps ds) (hd:Vals dvs ds)
  (hx:Passes CX X E) (I:Inv X pins σ H s) (r:Vals vs us)
  (h:∀ x dx,H x=none->H dx=none->dx≠x->sp (.ref x::(vs++dvs)) (upd (upd H dx (.own x)) x (.ins C dx [])) (fun v H2=>v=.non∧Q (.ref x) H2) E) :
  wpAny (model X.prog X.w) X.A (call (.ref C) us) (EP X pins σ Q) X.xe s:=by
 have hq:=h (s.heap.objs.size+1) s.heap.objs.size (I.hok.fresh (Nat.le_succ _)) (I.hok.fresh (Nat.le_refl _)) (Nat.ne_of_lt (Nat.lt_succ_self _))
 have I2:=Inv.made (C:=C) I
 have r2:Vals (V.ref (s.heap.objs.size+1)::(vs++dvs)) (Value.ref (s.heap.objs.size+1)::(us++ds)):=.cons rfl (r.append hd)
 have hl:(Value.ref (s.heap.objs.size+1)::us++ds).length=ps.length:=by
  have e:=r2.length
  rw[F.len _ _ _ _ hq] at e
  exact e.symm
 refine wpAny_call (make_map (f:=f) I.kIn M.makes M.init (beq_iff_eq.mp M.fn) (codeAny_mono (F.run _ X.stack _ _ ⟨Value.ref (s.heap.objs.size+1)::us,[]⟩ (Value.ref (s.heap.objs.size+1)::(us++ds)) _ _ E (hr.make C us [])
  (I2.env0.make C us []) (hb _ (Value.ref (s.heap.objs.size+1)::us) I2.kIn hl) r2 hq) fun r s' hq'=>?_))
 cases r with
 | error e=>exact hx pins σ _ _ e s' I2 hq'
 | ok fl =>
  cases fl with
  | ret u =>
   obtain⟨v,H',I3,rv,ev,q3⟩:=I2.after hq'
   subst ev
   exact⟨rv,⟨V.ref (s.heap.objs.size+1),H',I3,rfl,q3⟩⟩
  | next=>exact False.elim hq'
  | brk=>exact False.elim hq'
  | cont=>exact False.elim hq'
theorem pe_make (M:Mk X.K C f) (F:FnOk X.prog X.w X.K X.mg X.base CX k f fd ps sp) (hr:Room (k+1) X.A) (hg:Gl X x) (hm:X.mg x=some (.ref C)) (hb:Binds X.K fd ps ds) (hd:Vals dvs ds) (hx:Passes CX X E)
  (ha:PA X (e::es) t) (hdb:(x==("__debug__":Str))=false:=by decide) (he:starEach (e::es) X.env=(false,eval e X.env)::starEach es X.env:=by rfl) (hpl:(backTo pos (starEach es X.env)).any (·.1)=false:=by rfl) :
  PE X (.Call (.Name x p) (e::es) [] pos) (tMake C sp dvs E t):=by
 intro pins s σ H Q I h
 refine wpAny_Call_Name_kw (ld_glob I hg hm ?_ hdb)
 refine PySem.W.callWith_K (h₀:=X.base) I.ok.mod.kin M.kp (thn (ha pos pins s σ H _ I h) fun us s1 ⟨vs,H1,I1,r,q⟩=>⟨I1.kIn,?_⟩) he hpl
 exact run_make M F hr hb hd hx I1 r q
theorem pe_make0 (M:Mk X.K C f) (F:FnOk X.prog X.w X.K X.mg X.base CX k f fd ps sp) (hr:Room (k+1) X.A) (hg:Gl X x) (hm:X.mg x=some (.ref C)) (hb:Binds X.K fd ps ds) (hd:Vals dvs ds) (hx:Passes CX X E)
  (hdb:(x==("__debug__":Str))=false:=by decide):PE X (.Call (.Name x p) [] [] pos) (tMake C sp dvs E tNil):=by
 intro pins s σ H Q I h
 refine wpAny_Call_Name_kw (ld_glob I hg hm ?_ hdb)
 exact PySem.W.callWith_K0 I.kIn M.kp (run_make (us:=[]) M F hr hb hd hx I .nil h)
end
def PK (X:Cx) (kws:List Keyword) (t:TA):Prop :=
 ∀ (pos:Pos) (pins:List (Addr × Obj)) (s:Shared) (σ:St) (H:Hp) (Q:List V->Hp->Prop),Inv X pins σ H s->t σ H Q->wpAny (model X.prog X.w) X.A (evalAll ((backToKw pos (keywordEach kws X.env)).map (·.2))) (AP X pins σ Q) X.xe s
section
variable {X:Cx} {CX:CXT} {k:Nat} {f C:Addr} {fd:FuncData} {ps ks:List Str} {sp:Sp} {E:XK} {x m:Str} {p pos apos kpos:Pos} {e o:Expr} {es:List Expr} {kws:List Keyword} {te ta:TE} {t tk:TA} {nm:Option Str}
theorem pk_nil:PK X [] tNil:=fun _ _ _ _ H Q I h=>wpAny_evalAll_nil ⟨[],H,I,.nil,h⟩
theorem pk_cons (ha:PE X e te) (hr:PK X kws t):PK X (⟨nm,e,kpos⟩::kws) (tCons te t):=by
 intro pos pins s σ H Q I h
 show wpAny _ _ (evalAll ((do let v ← eval e X.env;standAt pos;pure v)::(backToKw pos (keywordEach kws X.env)).map (·.2))) _ _ s
 refine wpAny_evalAll_cons (wpAny_bind (thn (ha pins s σ H _ I h) fun u s1 ⟨x,H1,I1,r1,q1⟩=>wpAny_bind (wpAny_standAt (wpAny_pure ?_))))
 exact thn (hr pos pins s1 σ H1 _ I1 q1) fun us s2 ⟨xs,H2,I2,r2,q2⟩=>⟨x::xs,H2,I2,.cons r1 r2,q2⟩
variable {g:List Value->List Value->List Value} {gV:List V->List V->List V}
end
structure FnScope (N P:List Str) (sc:Scope):Prop where
 kind:sc.kind=.function
 co:sc.isCoroutine=false
 gen:sc.isGenerator=false
 nd:N.Nodup
 pre:N.take P.length=P
 par:∀ x∈P,sc.names.lookup x=some .local∨sc.names.lookup x=some .cell
 nofree:∀ y∈sc.names,y.2≠.free
theorem bindL_out {kindOf:Str->Option NameKind} {x:Str}:∀ {binds:List (Str × Value)} {m:Str->Option Value},(∀ v,(x,v)∉binds)->bindL kindOf binds m x=m x
 | [],_,_=>rfl
 | (n,v)::r,m,h=>by
  unfold bindL
  rw[bindL_out fun w hw=>h w (List.mem_cons_of_mem _ hw)]
  split
  ·have:x≠n:=by rintro rfl;exact h v List.mem_cons_self
   simp[this]
  ·rfl
theorem bindC_out {kindOf:Str->Option NameKind} {x:Str}:∀ {binds:List (Str × Value)} {m:Str->Option Value},(∀ v,(x,v)∉binds)->bindC kindOf binds m x=m x
 | [],_,_=>rfl
 | (n,v)::r,m,h=>by
  unfold bindC
  rw[bindC_out fun w hw=>h w (List.mem_cons_of_mem _ hw)]
  split
  ·rfl
  ·have:x≠n:=by rintro rfl;exact h v List.mem_cons_self
   simp[this]
theorem bindL_get {kindOf:Str->Option NameKind} {x:Str} {v:Value}:∀ {P:List Str} {vs:List Value} {i:Nat} {m:Str->Option Value},P.Nodup->P[i]?=some x->vs[i]?=some v->kindOf x=some .local ->
  bindL kindOf (P.zip vs) m x=some v
 | [],_,_,_,_,h,_,_=>by simp at h
 | _::_,[],_,_,_,_,h,_=>by simp at h
 | p::P,w::vs,0,m,nd,h1,h2,hk=>by
  simp at h1 h2;subst h1;subst h2
  show bindL kindOf ((p,w)::P.zip vs) m p=_
  unfold bindL
  rw[bindL_out fun v hv=>(List.nodup_cons.mp nd).1 (List.of_mem_zip hv).1,if_pos hk]
  simp
 | p::P,w::vs,i+1,m,nd,h1,h2,hk=>by
  show bindL kindOf ((p,w)::P.zip vs) m x=_
  unfold bindL
  exact bindL_get (i:=i) (List.nodup_cons.mp nd).2 (by simpa using h1) (by simpa using h2) hk
theorem bindC_get {kindOf:Str->Option NameKind} {x:Str} {v:Value}:∀ {P:List Str} {vs:List Value} {i:Nat} {m:Str->Option Value},P.Nodup->P[i]?=some x->vs[i]?=some v->kindOf x≠some .local ->
  bindC kindOf (P.zip vs) m x=some v
 | [],_,_,_,_,h,_,_=>by simp at h
 | _::_,[],_,_,_,_,h,_=>by simp at h
 | p::P,w::vs,0,m,nd,h1,h2,hk=>by
  simp at h1 h2;subst h1;subst h2
  show bindC kindOf ((p,w)::P.zip vs) m p=_
  unfold bindC
  rw[bindC_out fun v hv=>(List.nodup_cons.mp nd).1 (List.of_mem_zip hv).1,if_neg hk]
  simp
 | p::P,w::vs,i+1,m,nd,h1,h2,hk=>by
  show bindC kindOf ((p,w)::P.zip vs) m x=_
  unfold bindC
  exact bindC_get (i:=i) (List.nodup_cons.mp nd).2 (by simpa using h1) (by simpa using h2) hk
def start (N:List Str) (vs:List V):St:=vs.map some++List.replicate (N.length - vs.length) none
def cxOf (CX:CXT) (P:Program) (w:World) (K:PySem.W.Frag) (mg:Str->Option Value) (base:Heap) (N:List Str) (qual:Str) (scope:Scope) (f:Addr) (cd:Value) (A:Around) (outer:List Env) (s:Shared) (H:Hp) (E:XK):Cx where
 prog:=P
 w:=w
 K:=K
 mg:=mg
 base:=base
 A:=A.deeper (envOfC qual scope s.heap.objs.size f cd)
 N:=N
 s_0:=s
 H_0:=H
 env:=envOfC qual scope s.heap.objs.size f cd
 outer:=outer
 stack:=envOfC qual scope s.heap.objs.size f cd::outer
 ex:=[]
 calm:=true
 fn:=fun _=>true
 pn:=[]
 xe:=fun e s'=>wpAny (model P w) (A.deeper (envOfC qual scope s.heap.objs.size f cd)) (leaving (envOfC qual scope s.heap.objs.size f cd) e) (fun _ s''=>CX outer H s E e s'') (fun e' s''=>CX outer H s E e' s'') s'
theorem cell_has {sc:Scope} {n:Nat} {x:Str} (h:sc.names.lookup x=some .cell):∃ c,(cellsFrom n sc.names []).lookup x=some c:=by
 have q:=PySem.W.cellsFrom_some sc.names n [] (.inl h)
 exact Option.isSome_iff_exists.mp q
theorem inv_start {CX:CXT} {P:Program} {w:World} {K:PySem.W.Frag} {mg:Str->Option Value} {base:Heap} {N ps:List Str} {qual:Str} {scope:Scope} {f:Addr} {cd:Value} {A:Around} {outer:List Env} {s s1:Shared} {H:Hp} {E:XK} {us:List Value} {vs:List V}
  (S:FnScope N ps scope) (hd:A.handled=none) (e0:Env0 P w K mg base A outer s H) (hl:vs.length=ps.length) (r:Vals vs us)
  (x:InCallC s s.heap.objs.size (bindL (envOfC qual scope s.heap.objs.size f cd).kindOf (ps.zip us) fun _=>none) (cellsFrom (s.heap.objs.size+1) scope.names []) (bindC (envOfC qual scope s.heap.objs.size f cd).kindOf (ps.zip us) fun _=>none) s1) :
  Inv (cxOf CX P w K mg base N qual scope f cd A outer s H E) [] (start N vs) H s1:=by
 have hpl:ps.length≤N.length:=by have:=congrArg List.length S.pre;rw[List.length_take] at this;omega
 obtain⟨h1,tk,rfl,hk⟩:=x.done
 have noA:∀ b:Addr,b∉(cxOf CX P w K mg base N qual scope f cd A outer s H E).ex:=fun b z=>absurd (show b∈([]:List Addr) from z) (by simp)
 refine⟨⟨e0.mod,S.kind,rfl,rfl,Nat.le_refl _,fun y z c h1 h2=>?_,fun y hy=>?_,fun y c _ h=>?_,fun _=>hd,Around.frames_deeper e0.frames,.inr ⟨rfl,rfl⟩,fun b z=>absurd z (noA b),e0.bs,e0.bsz,fun b _ _=>noA b,fun b z=>absurd z (noA b),e0.funs,e0.frf⟩,
  rfl,e0.bare,Un.kept hk,⟨_,x.toInCall.ns,fun i y v h1 h2 h3=>?_⟩,fun y c h=>⟨_,x.cell y c h⟩,e0.hok.fresh (Nat.le_refl _),fun y c h=>?_,fun p hp=>absurd (show p∈([]:List (Addr × Obj)) from hp) (by simp),e0.hok.kept hk,?_⟩
 ·exact name_of_addr x.apart (PySem.mem_of_lookup h1) (PySem.mem_of_lookup h2)
 ·have hy:scope.names.lookup y=some .cell∨scope.names.lookup y=some .free:=hy
  rcases hy with hy|hy
  ·exact cell_has hy
  ·exact absurd rfl (S.nofree _ (PySem.mem_of_lookup hy))
 ·exact Nat.le_of_lt (x.above y c (PySem.mem_of_lookup h))
 ·have hi:i < vs.length:=by
   unfold start at h2
   by_cases hi:i < vs.length
   ·exact hi
   ·rw[List.getElem?_append_right (by simpa using hi)] at h2
    rw[List.getElem?_replicate] at h2
    split at h2<;>cases h2
  have ha:vs[i]?=some v:=by
   unfold start at h2
   rw[List.getElem?_append_left (by simpa using hi),List.getElem?_map] at h2
   cases e:vs[i]? with
   | none=>rw[e] at h2;cases h2
   | some a=>rw[e] at h2;cases h2;rfl
  obtain⟨u,hu,rv⟩:=r.get ha
  have hp:ps[i]?=some y:=by
   rw[← S.pre,List.getElem?_take_of_lt (by omega)];exact h1
  have ndP:ps.Nodup:=by rw[← S.pre];exact S.nd.sublist (List.take_sublist _ _)
  refine⟨u,rv,?_⟩
  rcases S.par y (List.mem_of_getElem? hp) with k|k
  ·exact .inl ⟨k,bindL_get ndP hp hu k⟩
  ·obtain⟨c,e⟩:=cell_has (n:=s.heap.objs.size+1) k
   refine .inr ⟨.inl k,c,e,?_⟩
   have q:=x.cell y c e
   rw[bindC_get ndP hp hu (by show scope.names.lookup y≠_;rw[k];decide)] at q
   exact q
 ·exact e0.hok.fresh (Nat.le_of_lt (x.above y c (PySem.mem_of_lookup h)))
 ·unfold start
  show _=N.length
  rw[List.length_append,List.length_map,List.length_replicate]
  omega
theorem fn_of {CX:CXT} {P:Program} {w:World} {K:PySem.W.Frag} {mg:Str->Option Value} {base:Heap} {k:Nat} {f:Addr} {name qual:Str} {params:Arguments} {body:List Stmt} {scope:Scope} {dV kV doc pm cdv ct oc:Value} {an od:Option Addr}
  {osl:Array (Option Value)} {N ps:List Str} {sp:Sp} (lk:K.lookup f=some ⟨oc,od,.func (PySem.W.fnOf name qual params body scope dV kV doc pm an cdv ct),osl⟩) (hcd:PySem.W.codeIn K cdv qual=true) (S:FnScope N ps scope)
  (len:∀ vs H Q E,sp vs H Q E->vs.length=ps.length)
  (hbody:∀ (A:Around) (outer:List Env) (s:Shared) (H:Hp) (vs:List V) (Q:VK) (E:XK),Room k (A.deeper (envOfC qual scope s.heap.objs.size f cdv))->sp vs H Q E ->
   ∃ t,PSs (cxOf CX P w K mg base N qual scope f cdv A outer s H E) body t∧t { nx:=fun _ H'=>Q .non H',rt:=Q } (start N vs) H) :
  FnOk P w K mg base CX (k+1) f (PySem.W.fnOf name qual params body scope dV kV doc pm an cdv ct) ps sp:=by
 refine⟨len,fun A outer s H args us vs Q E hr e0 hb r hsp=>?_⟩
 have hl:=len _ _ _ _ hsp
 have KX:K.In s.heap:=e0.mod.kin.keeps fun b o e=>(e0.bs b o e).1
 have lim:s.heap.NoLimit:=e0.mod.nolimit.keeps fun b o e=>(e0.bs b o e).1
 have hkind:∀ y∈ps.zip us,scope.names.lookup y.1=some .local∨(scope.names.lookup y.1=some .cell∧((cellsFrom (s.heap.objs.size+1) scope.names []).lookup y.1).isSome=true):=fun ⟨n,v⟩ hy=>by
  rcases S.par n (List.of_mem_zip hy).1 with q|q
  ·exact .inl q
  ·exact .inr ⟨q,PySem.W.cellsFrom_some _ _ _ (.inl q)⟩
 refine codeAny_call_function hr.depth (KX _ _ lk) rfl S.co S.gen rfl (PySem.W.codeRec_of KX hcd) (hb _ _ _ _ ?_)
 refine wpAny_newFunctionEnv_cells S.kind hkind fun env he s1 x=>?_
 subst he
 refine⟨lim.keeps x.toInCall.keep,codeAny_func ?_⟩
 obtain⟨t,ht,hq⟩:=hbody A outer s H vs Q E (hr.deeper _) hsp
 have I:Inv (cxOf CX P w K mg base N qual scope f cdv A outer s H E) [] (start N vs) H s1:=inv_start S hr.hd e0 hl r x
 refine wpAny_mono (ht [] s1 (start N vs) H _ I hq) (fun fl s' hs=>?_) fun e s' hs=>hs
 have fin:∀ {σ':St} {H':Hp} {v:V} {u:Value},Inv (cxOf CX P w K mg base N qual scope f cdv A outer s H E) [] σ' H' s'->RelV v u->Q v H'->CE outer P w H s Q u s' :=
  fun {σ' H' v u} J rv q=>⟨v,H',J.os,J.bare,J.base,J.hok,rv,q⟩
 cases fl with
 | ret u =>
  obtain⟨v,σ',H',J,rv,q⟩:=hs
  exact fin J rv q
 | next =>
  obtain⟨σ',H',J,q⟩:=hs
  exact fin (v:=V.non) (u:=Value.none) J rfl q
 | brk =>
  obtain⟨_,_,_,q⟩:=hs
  exact False.elim q
 | cont =>
  obtain⟨_,_,_,q⟩:=hs
  exact False.elim q
end L2
namespace L2
open PySem PySem.Spec PyProof.Rows
section
variable {X:Cx} {x:Str} {p pos:Pos} {e:Expr} {es:List Expr} {t:TA} {id T:String} {r:List V->Hp->VK->Prop}
def tCB (r:List V->Hp->VK->Prop) (t:TA):TE:=fun σ H Q=>t σ H fun vs H1=>r vs H1 Q
theorem k1a (hc:CallR X (.builtin id) r) (hg:Gl X x) (hm:X.mg x=none) (hv:bootBuiltins x=some (.builtin id)) (ha:PA X (e::es) t) (hn:x≠"__name__":=by decide) (hdb:(x==("__debug__":Str))=false:=by decide)
  (he:starEach (e::es) X.env=(false,eval e X.env)::starEach es X.env:=by rfl) (hpl:(backTo pos (starEach es X.env)).any (·.1)=false:=by rfl):PE X (.Call (.Name x p) (e::es) [] pos) (tCB r t):=by
 intro pins s σ H Q I h
 refine wpAny_Call_Name_kw (ld_blt I hg hm hv ?_ hn hdb)
 exact PyProof.Rows.callWith_builtin1 (thn (ha pos pins s σ H _ I h) fun us s1 ⟨vs,H1,I1,r1,q1⟩=>hc pins s1 σ H1 vs us Q I1 r1 q1) he hpl
theorem pe_callTy (hc:CallR X (.type T) r) (hg:Gl X x) (hm:X.mg x=none) (hv:bootBuiltins x=some (.type T)) (ha:PA X (e::es) t) (hn:x≠"__name__":=by decide) (hdb:(x==("__debug__":Str))=false:=by decide)
  (he:starEach (e::es) X.env=(false,eval e X.env)::starEach es X.env:=by rfl) (hpl:(backTo pos (starEach es X.env)).any (·.1)=false:=by rfl):PE X (.Call (.Name x p) (e::es) [] pos) (tCB r t):=by
 intro pins s σ H Q I h
 refine wpAny_Call_Name_kw (ld_blt I hg hm hv ?_ hn hdb)
 exact PyProof.Rows.callWith_type1 (thn (ha pos pins s σ H _ I h) fun us s1 ⟨vs,H1,I1,r1,q1⟩=>hc pins s1 σ H1 vs us Q I1 r1 q1) he hpl
end
end L2
namespace HT
open PySem PyProof.Rows
section
variable {prog:Program} {w:World} {A:Around} {E:Value->Shared->Prop} {s:Shared}
def sIx (n d:Nat):Option Int->Nat
 | none=>d
 | some v=>if v < 0 then (v+(n:Int)).toNat else min v.toNat n
theorem sIx_none (n d:Nat):sIx n d none=d:=rfl
end
end HT
namespace L2
open PySem PySem.Spec PyProof.Rows
abbrev TO:=St->Hp->(Option Int->Hp->Prop)->Prop
def PO (X:Cx) (e:Option Expr) (t:TO):Prop :=
 ∀ (pins:List (Addr × Obj)) (s:Shared) (σ:St) (H:Hp) (Q:Option Int->Hp->Prop),Inv X pins σ H s->t σ H Q ->
  wpAny (model X.prog X.w) X.A (evalPart e X.env) (fun u s'=>∃ o H',Inv X pins σ H' s'∧IsPart u o∧Q o H') X.xe s
def tNoPart:TO:=fun _ H Q=>Q none H
def tPart (t:TE):TO:=fun σ H Q=>t σ H fun x H1=>∃ i,x=.int i∧Q (some i) H1
section
variable {X:Cx} {e:Expr} {te:TE} {lo hi:Option Expr} {tl th:TO} {pos p2:Pos}
theorem po_none:PO X none tNoPart:=by
 intro pins s σ H Q I h
 rw[evalPart_none]
 exact wpAny_pure ⟨none,H,I,.none,h⟩
theorem po_some (h:PE X e te):PO X (some e) (tPart te):=by
 intro pins s σ H Q I hw
 rw[evalPart_some]
 refine thn (h pins s σ H _ I hw) fun u s1 ⟨x,H1,I1,r1,q1⟩=>?_
 obtain⟨i,rfl,q⟩:=q1
 obtain⟨t,rfl⟩:=r1
 exact⟨some i,H1,I1,.int i t,q⟩
def SlR (X:Cx) (r:V->Option Int->Option Int->Hp->VK->Prop):Prop :=
 ∀ (pins:List (Addr × Obj)) (s:Shared) (σ:St) (H:Hp) (x:V) (v vl vu:Value) (lo hi:Option Int) (sl:Addr) (Q:VK),Inv X pins σ H s->RelV x v->s.heap.IsSliceOf sl vl vu .none->IsPart vl lo->IsPart vu hi->r x lo hi H Q ->
  ∃ T id,typeLookup (.type T) "__getitem__"=pure (some (.builtin id))∧s.TypeIs v T∧wpAny (model X.prog X.w) X.A (getItem v (.ref sl)) (EP X pins σ Q) X.xe s
def tSl (r:V->Option Int->Option Int->Hp->VK->Prop) (te:TE) (tl th:TO):TE:=fun σ H Q=>te σ H fun x H1=>tl σ H1 fun l H2=>th σ H2 fun u H3=>r x l u H3 Q
theorem pe_slice {r:V->Option Int->Option Int->Hp->VK->Prop} (hr:SlR X r) (he:PE X e te) (hl:PO X lo tl) (hu:PO X hi th):PE X (.Subscript e (.Slice lo hi none p2) pos) (tSl r te tl th):=by
 intro pins s σ H Q I h
 refine Subscript_ (thn (he pins s σ H _ I h) fun v s1 ⟨x,H1,I1,r1,q1⟩=>?_)
 refine wpAny_Slice (thn (hl pins s1 σ H1 _ I1 q1) fun vl s2 ⟨l,H2,I2,pl,q2⟩=>thn (hu pins s2 σ H2 _ I2 q2) fun vu s3 ⟨u,H3,I3,pu,q3⟩=>?_)
 rw[evalPart_none]
 refine wpAny_pure ?_
 have I4:Inv X pins σ H3 { s3 with heap:=s3.heap.push { cls:=.type "slice",data:=.fields #[vl,vu,.none] } }:=I3.kept (t':=s3.toks) fun b ob q=>Heap.get?_push_of_some _ q
 obtain⟨T,id,hT,ht,hg⟩:=hr pins { s3 with heap:=s3.heap.push { cls:=.type "slice",data:=.fields #[vl,vu,.none] } } σ H3 x v vl vu l u s3.heap.objs.size Q I4 r1 (Heap.IsSliceOf.new ..) pl pu q3
 show wpAny (model X.prog X.w) X.A (subscriptTail e (.Slice lo hi none p2) v (.ref s3.heap.objs.size)) (EP X pins σ Q) X.xe { s3 with heap:=s3.heap.push { cls:=.type "slice",data:=.fields #[vl,vu,.none] } }
 exact tail_any (ops:=[.ref s3.heap.objs.size,v]) ht hT hg (by with_unfolding_all rfl)
def cutV (xs:List V) (lo hi:Option Int):List V:=(xs.drop (HT.sIx xs.length 0 lo)).take (HT.sIx xs.length xs.length hi - HT.sIx xs.length 0 lo)
theorem cutV_length (xs:List V) (lo hi:Option Int):(cutV xs lo hi).length≤xs.length:=by
 unfold cutV
 rw[List.length_take,List.length_drop]
 omega
end
end L2
namespace L2
open PySem PySem.Spec PyProof.Rows
def ixN (n:Nat) (i:Int):Option Nat:=if 0≤i then (if i < n then some i.toNat else none) else if -(n:Int)≤i then some (i+n).toNat else none
def atI {α:Type} (xs:List α) (i:Int):Option α:=(ixN xs.length i).bind fun j=>xs[j]?
theorem ixN_seq {n:Nat} {i:Int} {j:Nat} (h:ixN n i=some j):seqIndex? i n=some j∧j < n∧-(n:Int)≤i∧i < n:=by
 unfold ixN at h
 by_cases h0:0≤i
 ·rw[if_pos h0] at h
  by_cases h1:i < n
  ·rw[if_pos h1] at h
   have e:i.toNat=j:=Option.some.inj h
   exact⟨by rw[seqIndex_of h0 h1,e],by omega,by omega,h1⟩
  ·rw[if_neg h1] at h;cases h
 ·rw[if_neg h0] at h
  by_cases h1:-(n:Int)≤i
  ·rw[if_pos h1] at h
   have e:(i+n).toNat=j:=Option.some.inj h
   exact⟨by rw[seqIndex_neg (by omega) h1,e],by omega,h1,by omega⟩
  ·rw[if_neg h1] at h;cases h
theorem atI_get {α:Type} {xs:List α} {i:Int} {v:α} (h:atI xs i=some v):∃ j,seqIndex? i xs.length=some j∧xs[j]?=some v∧j < xs.length∧-(xs.length:Int)≤i∧i < xs.length:=by
 unfold atI at h
 cases e:ixN xs.length i with
 | none=>rw[e] at h;cases h
 | some j =>
  rw[e] at h
  obtain⟨h1,h2,h3,h4⟩:=ixN_seq e
  exact⟨j,h1,h,h2,h3,h4⟩
theorem k1n {α:Type} {xs:List α} {j:Nat} {v:α} (h:xs[j]?=some v):atI xs (j:Int)=some v:=by
 have hj:j < xs.length:=(List.getElem?_eq_some_iff.mp h).1
 have e:ixN xs.length (j:Int)=some j:=by
  unfold ixN
  rw[if_pos (by omega),if_pos (by omega)];simp
 unfold atI;rw[e];exact h
def PlainIx (b:Expr):Prop:=∀ o i,subscripted b false o i=operate [o,i] (getItem o i)
def IxR (X:Cx) (r:R2):Prop :=
 ∀ (value slice:Expr) (pins:List (Addr × Obj)) (s:Shared) (σ:St) (H:Hp) (x y:V) (v u:Value) (Q:VK),Inv X pins σ H s->RelV x v->RelV y u->r x y H Q ->
  subscripted slice false v u=operate [v,u] (getItem v u)->wpAny (model X.prog X.w) X.A (subscriptTail value slice v u) (EP X pins σ Q) X.xe s
def MtR (X:Cx) (id:String) (r:V->List V->Hp->VK->Prop):Prop :=
 ∀ (pins:List (Addr × Obj)) (s:Shared) (σ:St) (H:Hp) (x:V) (xs:List V) (v:Value) (us:List Value) (Q:VK),Inv X pins σ H s->RelV x v->Vals xs us->r x xs H Q ->
  wpAny (model X.prog X.w) X.A (call (.builtin id) (v::us)) (EP X pins σ Q) X.xe s
section
variable {X:Cx} {a b:Expr} {ta tb:TE} {pos:Pos}
theorem pe_ix {r:R2} (hr:IxR X r) (ha:PE X a ta) (hb:PE X b tb) (hs:PlainIx b):PE X (.Subscript a b pos) (tOp r ta tb):=by
 intro pins s σ H Q I h
 exact Subscript_ (binT ha hb I h fun v u s2 x y H2 I2 rx ry q=>hr a b pins s2 σ H2 x y v u Q I2 rx ry q (hs _ _))
def rIxL (K:PySem.W.Frag):R2:=fun x y H Q=>∃ p xs i v,x=.ref p∧y=.int i∧SqL K H p xs∧atI xs i=some v∧Q v H
def rIxT (K:PySem.W.Frag):R2:=fun x y H Q=>∃ p xs i v,x=.ref p∧y=.int i∧SqT K H p xs∧atI xs i=some v∧Q v H
theorem ix_list:IxR X (rIxL X.K):=by
 intro value slice pins s σ H x y v u Q I rx ry h hs
 obtain⟨p,xs,i,z,rfl,rfl,hq,he,q⟩:=h
 cases rx
 obtain⟨t,rfl⟩:=ry
 obtain⟨its,r,pl,hz⟩:=I.list hq
 obtain⟨j,h1,h2,h3,h4,h5⟩:=atI_get he
 obtain⟨w,ew,rw'⟩:=r.get h2
 have hl:=r.length
 have hn:=line63
 have fin:EP X pins σ Q w s:=⟨z,H,I,rw',q⟩
 by_cases h0:0≤i
 ·have hj:i.toNat=j:=by
   rw[seqIndex_of h0 h5] at h1
   exact Option.some.inj h1
  exact item_listR pl.isList h0 (by omega) (by rw[hj];simpa using ew) fin hs
 ·have hj:(i+(its.toArray.size:Int)).toNat=j:=by
   rw[seqIndex_neg (by omega) h4] at h1
   rw[List.size_toArray,← hl]
   exact Option.some.inj h1
  exact subscriptTail_builtinR (x:=w) pl.isList.typeIs slot_list_getitem.lookup
   (wpAny_getItem_list_neg (Q:=fun r s'=>r=w∧EP X pins σ Q r s') pl.isList (by omega) (by rw[List.size_toArray]<;>omega) (by omega) (by rw[hj];simpa using ew) ⟨rfl,fin⟩) hs
theorem ix_tup:IxR X (rIxT X.K):=by
 intro value slice pins s σ H x y v u Q I rx ry h hs
 obtain⟨p,xs,i,z,rfl,rfl,hq,he,q⟩:=h
 cases rx
 obtain⟨t,rfl⟩:=ry
 obtain⟨its,r,pl,hz⟩:=I.tuple hq
 obtain⟨j,h1,h2,h3,h4,h5⟩:=atI_get he
 obtain⟨w,ew,rw'⟩:=r.get h2
 have hl:=r.length
 have hn:=line63
 have fin:EP X pins σ Q w s:=⟨z,H,I,rw',q⟩
 exact subscriptTail_builtinR (x:=w) pl.typeIs slot_tuple_getitem.lookup
  (getItem_tuple (j:=j) (Q:=fun r s'=>r=w∧EP X pins σ Q r s') pl (by omega) (by omega) (by rw[List.size_toArray,← hl];exact h1) (by simpa using ew) ⟨rfl,fin⟩) hs
theorem mapSeq_set (its:List Value) (n j:Nat) (u:Value):Obj.mapSeq (·.setIfInBounds j u) { cls:=.type "list",data:=.seq its.toArray n }={ cls:=.type "list",data:=.seq (its.set j u).toArray n }:=by
 simp[Obj.mapSeq]
theorem Inv.lst {pins:List (Addr × Obj)} {σ:St} {H:Hp} {s:Shared} {p:Addr} {xs:List V} (I:Inv X pins σ H s) (h:H p=some (.lst xs)) :
  ∃ (its:List Value) (n:Nat),Vals xs its∧s.heap.get? p=some { cls:=.type "list",data:=.seq its.toArray n }∧xs.length≤sizeLine:=by
 obtain⟨z,its,n,r,e⟩:=I.hok p _ h
 exact⟨its,n,r,e,z⟩
theorem Inv.lstUpd {pins:List (Addr × Obj)} {σ:St} {H:Hp} {s:Shared} {p:Addr} {xs ys:List V} {its its':List Value} {n n':Nat} {f:Obj->Obj} (I:Inv X pins σ H s) (h:H p=some (.lst xs))
  (ho:s.heap.get? p=some { cls:=.type "list",data:=.seq its.toArray n }) (hf:f { cls:=.type "list",data:=.seq its.toArray n }={ cls:=.type "list",data:=.seq its'.toArray n' }) (r:Vals ys its') (hz:ys.length≤sizeLine) (t:Nat) :
  Inv X pins σ (upd H p (.lst ys)) { s with heap:=s.heap.update p f,toks:=t }:=by
 have e:(s.heap.update p f).get? p=some { cls:=.type "list",data:=.seq its'.toArray n' }:=by
  rw[Heap.get?_update_self f ho (by rw[hf]<;>rfl),hf]
 refine I.write (x:=p) (e:=p) (by rw[h];trivial) (.inl rfl) (fun b u hb q=>(Heap.get?_update_other _ _ (Ne.symm hb)).trans q) ⟨_,e⟩ ?_
 exact⟨hz,its',n',r,e⟩
def rSetL:V->V->V->Hp->(Hp->Prop)->Prop:=fun o i v H Q=>∃ p xs k j,o=.ref p∧i=.int k∧H p=some (.lst xs)∧ixN xs.length k=some j∧Q (upd H p (.lst (xs.set j v)))
theorem set_list:PSet X rSetL:=by
 intro pins s σ H o i v ov iv u Q I ro ri rv h
 obtain⟨p,xs,k,j,rfl,rfl,hp,hj,q⟩:=h
 cases ro
 obtain⟨t,rfl⟩:=ri
 obtain⟨its,n,r,ho,hz⟩:=I.lst hp
 obtain⟨h1,h2,h3,h4⟩:=ixN_seq hj
 have hl:=r.length
 have hn:=line63
 have I':Inv X pins σ (upd H p (.lst (xs.set j v))) { s with heap:=s.heap.update p (Obj.mapSeq (·.setIfInBounds j u)) } :=
  I.lstUpd hp ho (mapSeq_set its n j u) (r.set rv j) (by rw[List.length_set];exact hz) s.toks
 by_cases h0:0≤k
 ·have hk:k.toNat=j:=by
   rw[seqIndex_of h0 h4] at h1
   exact Option.some.inj h1
  exact PySem.W.ki_setAt ho h0 (by omega) (by rw[List.size_toArray,← hl];exact h4) (by rw[hk];exact⟨_,I',q⟩)
 ·have hk:(k+(its.toArray.size:Int)).toNat=j:=by
   rw[seqIndex_neg (by omega) h3] at h1
   rw[List.size_toArray,← hl]
   exact Option.some.inj h1
  exact PySem.W.ki_setBack ho (by omega) (by rw[List.size_toArray,← hl];exact h3) (by omega) (by rw[hk];exact⟨_,I',q⟩)
theorem slice_bounds (lo hi:Option Int) (n:Nat):(sliceBounds lo hi none n).1=((HT.sIx n 0 lo:Nat):Int)∧(sliceBounds lo hi none n).2.1=((HT.sIx n n hi:Nat):Int)∧(sliceBounds lo hi none n).2.2=1:=by
 refine⟨?_,?_,rfl⟩
 ·cases lo with
  | none=>simp[sliceBounds,HT.sIx]
  | some i =>
   simp only[sliceBounds,HT.sIx,Option.getD_none,show (1:Int) > 0 by decide,if_true]
   by_cases h:i < 0
   ·simp only[h,if_true]<;>omega
   ·simp only[h,if_false]<;>omega
 ·cases hi with
  | none=>simp[sliceBounds,HT.sIx]
  | some i =>
   simp only[sliceBounds,HT.sIx,Option.getD_none,show (1:Int) > 0 by decide,if_true]
   by_cases h:i < 0
   ·simp only[h,if_true]<;>omega
   ·simp only[h,if_false]<;>omega
theorem slicePick_cut (its:List Value) (lo hi:Option Int):slicePick its.toArray lo hi none=((its.drop (HT.sIx its.length 0 lo)).take (HT.sIx its.length its.length hi - HT.sIx its.length 0 lo)).toArray:=by
 obtain⟨h1,h2,h3⟩:=slice_bounds lo hi its.toArray.size
 unfold slicePick
 rw[h1,h2,h3]
 simp only[sliceRange_one,pick_run,List.size_toArray]<;>rfl
def rSlL (K:PySem.W.Frag):V->Option Int->Option Int->Hp->VK->Prop:=fun x lo hi H Q=>∃ a xs,x=.ref a∧SqL K H a xs∧∀ p,H p=none->Q (.ref p) (upd H p (.lst (cutV xs lo hi)))
theorem sl_list:SlR X (rSlL X.K):=by
 intro pins s σ H x v vl vu lo hi sl Q I rx hs pl pu h
 obtain⟨a,xs,rfl,hx,q⟩:=h
 cases rx
 obtain⟨its,r,ht,hz⟩:=I.list hx
 have hlen:=r.length
 refine⟨"list",_,slot_list_getitem.lookup,ht.isList.typeIs,?_⟩
 refine wpAny_getItem_list_slice ht.isList hs pl pu .none (by simp) ?_ (by rw[List.size_toArray]<;>omega)
 rw[slicePick_cut,← hlen]
 refine⟨.ref s.heap.objs.size,_,I.laid (t':=s.toks) (o:=.lst (cutV xs lo hi)) (fun b ob q=>Heap.get?_push_of_some _ q) (Nat.le_refl _) ?_,rfl,q _ (I.hok.fresh (Nat.le_refl _))⟩
 exact⟨Nat.le_trans (cutV_length xs lo hi) hz,_,0,(r.drop (HT.sIx xs.length 0 lo)).take (HT.sIx xs.length xs.length hi - HT.sIx xs.length 0 lo),Heap.get?_push_size _ rfl⟩
def flatV:V->Bool
 | .non=>true
 | .bl _=>true
 | .int _=>true
 | .str _=>true
 | _=>false
def eqV:V->V->Bool
 | .non,.non=>true
 | .bl a,.bl b=>a==b
 | .bl a,.int b=>(if a then 1 else 0)==b
 | .int a,.bl b=>a==(if b then 1 else 0)
 | .int a,.int b=>a==b
 | .str a,.str b=>a==b
 | _,_=>false
theorem eqAt_V {A:Around} {s:Shared} {y x:V} {u v:Value} (ry:RelV y u) (rx:RelV x v) (fy:flatV y=true) (fx:flatV x=true):SeqAt.EqAt A s u v (eqV y x):=by
 cases y with
 | non =>
  cases ry
  cases x with
  | non=>cases rx;exact SeqAt.EqAt.same _
  | bl b=>cases rx;exact SeqAt.EqAt.none_bool b
  | int b=>obtain⟨t,rfl⟩:=rx;exact SeqAt.EqAt.none_int b t
  | str b=>obtain⟨t,rfl⟩:=rx;exact SeqAt.EqAt.none_str b t
  | _=>exact absurd (show false=true from fx) Bool.false_ne_true
 | bl a =>
  cases ry
  cases x with
  | non=>cases rx;exact SeqAt.EqAt.bool_none a
  | bl b=>cases rx;exact SeqAt.EqAt.bool_bool a b
  | int b=>obtain⟨t,rfl⟩:=rx;exact SeqAt.EqAt.bool_int a b t
  | str b=>obtain⟨t,rfl⟩:=rx;exact SeqAt.EqAt.bool_str a b t
  | _=>exact absurd (show false=true from fx) Bool.false_ne_true
 | int a =>
  obtain⟨t',rfl⟩:=ry
  cases x with
  | non=>cases rx;exact SeqAt.EqAt.int_none a t'
  | bl b=>cases rx;exact SeqAt.EqAt.int_bool a t' b
  | int b=>obtain⟨t,rfl⟩:=rx;exact SeqAt.EqAt.int_int a t' b t
  | str b=>obtain⟨t,rfl⟩:=rx;exact SeqAt.EqAt.int_str a t' b t
  | _=>exact absurd (show false=true from fx) Bool.false_ne_true
 | str a =>
  obtain⟨t',rfl⟩:=ry
  cases x with
  | non=>cases rx;exact SeqAt.EqAt.str_none a t'
  | bl b=>cases rx;exact SeqAt.EqAt.str_bool a t' b
  | int b=>obtain⟨t,rfl⟩:=rx;exact SeqAt.EqAt.str_int a t' b t
  | str b=>obtain⟨t,rfl⟩:=rx;exact SeqAt.EqAt.str_str a t' b t
  | _=>exact absurd (show false=true from fx) Bool.false_ne_true
 | _=>exact absurd (show false=true from fy) Bool.false_ne_true
def eqU (x:V) (u:Value):Bool:=match u with
 | .none=>eqV .non x
 | .bool b=>eqV (.bl b) x
 | .int i _=>eqV (.int i) x
 | .str z _=>eqV (.str z) x
 | _=>false
theorem eqU_of {x y:V} {u:Value} (r:RelV y u) (f:flatV y=true):eqU x u=eqV y x:=by
 cases y with
 | non=>cases r;rfl
 | bl b=>cases r;rfl
 | int i=>obtain⟨t,rfl⟩:=r;rfl
 | str z=>obtain⟨t,rfl⟩:=r;rfl
 | _=>exact absurd (show false=true from f) Bool.false_ne_true
theorem any_eqU {x:V}:∀ {xs:List V} {us:List Value},Vals xs us->xs.all flatV=true->us.any (eqU x)=xs.any fun y=>eqV y x
 | _,_,.nil,_=>rfl
 | y::xs,u::us,.cons r t,f=>by
  rw[List.all_cons,Bool.and_eq_true] at f
  rw[List.any_cons,List.any_cons,eqU_of r f.1,any_eqU t f.2]
theorem mem_eqAt {A:Around} {s:Shared} {x:V} {v:Value} (rx:RelV x v) (fx:flatV x=true):∀ {xs:List V} {us:List Value},Vals xs us->xs.all flatV=true->∀ u∈us,SeqAt.EqAt A s u v (eqU x u)
 | _,_,.nil,_=>fun u hu=>by cases hu
 | y::xs,u::us,.cons r t,f=>fun u' hu=>by
  rw[List.all_cons,Bool.and_eq_true] at f
  rcases List.mem_cons.mp hu with rfl|hu
  ·rw[eqU_of r f.1];exact eqAt_V r rx f.1 fx
  ·exact mem_eqAt rx fx t f.2 u' hu
def inV (x:V) (xs:List V):Bool:=xs.any fun y=>eqV y x
def rIn (K:PySem.W.Frag) (neg:Bool):R2:=fun x y H Q=>∃ p xs,y=.ref p∧(SqL K H p xs∨SqT K H p xs)∧flatV x=true∧xs.all flatV=true∧Q (.bl (if neg then !inV x xs else inV x xs)) H
theorem op_in_seq:OpR X (compareOp .In) (rIn X.K false):=by
 intro pins s σ H x y v u Q I rx ry h
 obtain⟨p,xs,rfl,hq,fx,fs,q⟩:=h
 cases ry
 rcases hq with hq|hq
 ·obtain⟨its,r,pl,hz⟩:=I.list hq
  refine SeqAt.in_listAt (eqU x) pl.isList (fun w hw=>mem_eqAt rx fx r fs w (by simpa using hw)) ⟨.bl _,H,I,rfl,?_⟩
  rw[show its.toArray.any (eqU x)=its.any (eqU x) by simp,any_eqU r fs]
  exact q
 ·obtain⟨its,r,pl,hz⟩:=I.tuple hq
  refine SeqAt.in_tupleAt (eqU x) pl (fun w hw=>mem_eqAt rx fx r fs w (by simpa using hw)) ⟨.bl _,H,I,rfl,?_⟩
  rw[show its.toArray.any (eqU x)=its.any (eqU x) by simp,any_eqU r fs]
  exact q
theorem call_len_seq:CallR X (.builtin "len") (fun xs H Q=>∃ p ys,xs=[.ref p]∧(SqL X.K H p ys∨SqT X.K H p ys)∧Q (.int ys.length) H):=by
 intro pins s σ H xs us Q I r h
 obtain⟨p,ys,rfl,hq,q⟩:=h
 obtain⟨u,rfl,rx⟩:=vals1 r
 cases rx
 have hn:=line63
 rcases hq with hq|hq
 ·obtain⟨its,r',pl,hz⟩:=I.list hq
  have hlen:=r'.length
  exact Calls.call_len_list pl.isList (by simp only[List.size_toArray]<;>omega) ⟨.int ys.length,H,I.tok _,⟨s.toks+1,by rw[List.size_toArray,hlen]⟩,q⟩
 ·obtain⟨its,r',pl,hz⟩:=I.tuple hq
  have hlen:=r'.length
  exact len_tuple pl (by simp only[List.size_toArray]<;>omega) ⟨.int ys.length,H,I.tok _,⟨s.toks+1,by rw[List.size_toArray,hlen]⟩,q⟩
theorem call_list_of:CallR X (.type "list") (fun xs H Q=>∃ p ys,xs=[.ref p]∧(SqL X.K H p ys∨SqT X.K H p ys)∧∀ l,H l=none->Q (.ref l) (upd H l (.lst ys))):=by
 intro pins s σ H xs us Q I r h
 obtain⟨p,ys,rfl,hq,q⟩:=h
 obtain⟨u,rfl,rx⟩:=vals1 r
 cases rx
 have fin:∀ (its:List Value),Vals ys its->ys.length≤sizeLine->∀ (h':Heap) (c':Nat),(∀ b o',s.heap.get? b=some o'->h'.get? b=some o') ->
   h'.get? s.heap.objs.size=some { cls:=.type "list",dict:=none,data:=.seq its.toArray c',slots:=#[] }->EP X pins σ Q (.ref s.heap.objs.size) { s with heap:=h' }:=fun its r' hz h' c' kp e =>
  ⟨.ref s.heap.objs.size,_,I.laid (t':=s.toks) kp (Nat.le_refl _) (show ObjOk X.prog X.w _ h' _ (.lst ys) from ⟨hz,its,c',r',e⟩),rfl,q _ (I.hok.fresh (Nat.le_refl _))⟩
 rcases hq with hq|hq
 ·obtain⟨its,r',pl,hz⟩:=I.list hq
  have hlen:=r'.length
  obtain⟨o,ho,hc,n,hd⟩:=pl.isList
  exact call_list_seq p (.inl rfl) ho hc hd (fun h' c' kp e=>fin its r' hz h' c' kp e) (by simp only[List.size_toArray]<;>omega)
 ·obtain⟨its,r',pl,hz⟩:=I.tuple hq
  have hlen:=r'.length
  obtain⟨o,ho,hc,n,hd⟩:=pl
  exact call_list_seq p (.inr rfl) ho hc hd (fun h' c' kp e=>fin its r' hz h' c' kp e) (by simp only[List.size_toArray]<;>omega)
def tyV (K:PySem.W.Frag) (T:String) (x:V) (H:Hp):Prop:=match x with
 | .str _=>T="str"
 | .int _=>T="int"
 | .ref p=>(T="list"∧∃ xs,SqL K H p xs)∨(T="tuple"∧∃ o,K.lookup p=some o∧o.cls=.type "tuple"∧o.dict=none) ∨
   (T="dict"∧((∃ kvs,H p=some (.dK kvs))∨∃ kvs,H p=some (.dT kvs)))∨(T="set"∧∃ S n,H p=some (.set S n))
 | _=>False
theorem tyV_is {pins:List (Addr × Obj)} {σ:St} {H:Hp} {s:Shared} {T:String} {x:V} {v:Value} (I:Inv X pins σ H s) (r:RelV x v) (ty:tyV X.K T x H) :
  s.TypeIs v T∧∀ a,v=.ref a->∃ ob,s.heap.get? a=some ob∧ob.dict=none:=by
 cases x with
 | str z =>
  obtain⟨t,rfl⟩:=r
  cases (show T="str" from ty)
  exact⟨typeIs_str s z t,fun _ e=>nomatch e⟩
 | int i =>
  obtain⟨t,rfl⟩:=r
  cases (show T="int" from ty)
  exact⟨typeIs_int s i t,fun _ e=>nomatch e⟩
 | ref p =>
  cases r
  rcases ty with ⟨rfl,xs,hq⟩|⟨rfl,o,hk,hc,hd⟩|⟨rfl,hk⟩|⟨rfl,S,n,hk⟩
  ·obtain⟨its,_,pl,_⟩:=I.list hq
   refine⟨pl.isList.typeIs,fun a e=>?_⟩
   cases e
   obtain⟨o,n,e,c,hd,_⟩:=pl
   exact⟨o,e,hd⟩
  ·refine⟨⟨o,I.kIn p o hk,hc⟩,fun a e=>?_⟩
   cases e
   exact⟨o,I.kIn _ o hk,hd⟩
  ·have z:∃ o,s.heap.get? p=some o∧o.ExactDict:=by
    rcases hk with ⟨kvs,hk⟩|⟨kvs,hk⟩
    ·obtain⟨_,_,_,_,o,_,_,e,ex,_⟩:=I.hok p _ hk
     exact⟨o,e,ex⟩
    ·obtain⟨_,_,_,_,o,_,_,e,ex,_⟩:=I.hok p _ hk
     exact⟨o,e,ex⟩
   obtain⟨o,e,ex⟩:=z
   refine⟨⟨o,e,ex.1⟩,fun a e2=>?_⟩
   cases e2
   exact⟨o,e,ex.2.1⟩
  ·obtain⟨o,_,_,_,e,ex,_⟩:=I.hok p _ hk
   refine⟨⟨o,e,ex.1⟩,fun a e2=>?_⟩
   cases e2
   exact⟨o,e,ex.2.1⟩
 | _=>exact False.elim ty
def tBM0 (K:PySem.W.Frag) (T:String) (r:V->List V->Hp->VK->Prop) (to:TE):TE:=fun σ H Q=>to σ H fun x H1=>tyV K T x H1∧r x [] H1 Q
def tBM (K:PySem.W.Frag) (T:String) (r:V->List V->Hp->VK->Prop) (to:TE) (t:TA):TE:=fun σ H Q=>to σ H fun x H1=>tyV K T x H1∧t σ H1 fun xs H2=>r x xs H2 Q
variable {o e:Expr} {es:List Expr} {to:TE} {t:TA} {name:Str} {apos cpos:Pos} {T id:String} {r:V->List V->Hp->VK->Prop}
theorem pe_bm0 (pa:PlainAttrs T) (slot:Slot T name id) (hty:typeOf (.builtin id)=pure (.type "method_descriptor")) (hm:MtR X id r) (ho:PE X o to)
  (hbase:attributeBase o name X.env (eval o X.env)=eval o X.env:=by rfl) (hline:(apos.endLine==cpos.line)=true:=by rfl):PE X (.Call (.Attribute o name apos) [] [] cpos) (tBM0 X.K T r to):=by
 intro pins s σ H Q I h
 refine wpAny_Call_method0_late hbase hline (thn (ho pins s σ H _ I h) fun v s1 ⟨x,H1,I1,r1,ty,q1⟩=>?_)
 obtain⟨h1,h2⟩:=tyV_is I1 r1 ty
 exact⟨T,id,pa,slot,hty,h1,h2,Calls.callWith_builtin rfl (PySem.evalArgs_none (hm pins s1 σ H1 x [] v [] Q I1 r1 .nil q1))⟩
theorem pe_bm (pa:PlainAttrs T) (slot:Slot T name id) (hty:typeOf (.builtin id)=pure (.type "method_descriptor")) (hm:MtR X id r) (ho:PE X o to) (ha:PA X (e::es) t)
  (hbase:attributeBase o name X.env (eval o X.env)=eval o X.env:=by rfl)
  (hfew:((backTo cpos (starEach (e::es) X.env)).all (fun x=>!x.1)&&(backToKw cpos (keywordEach [] X.env)).all (fun x=>x.1.isSome)
   && decide ((e::es).length+([]:List Keyword).length+(if ([]:List Keyword).isEmpty then 0 else 1) < 30))=true:=by rfl)
  (hline:(apos.endLine==cpos.line)=true:=by rfl) (hs:starEach (e::es) X.env=(false,eval e X.env)::starEach es X.env:=by rfl) (hplain:(backTo cpos (starEach es X.env)).any (·.1)=false:=by rfl) :
  PE X (.Call (.Attribute o name apos) (e::es) [] cpos) (tBM X.K T r to t):=by
 intro pins s σ H Q I h
 refine wpAny_Call_method_late hbase hfew hline rfl (thn (ho pins s σ H _ I h) fun v s1 ⟨x,H1,I1,r1,ty,q1⟩=>?_)
 obtain⟨h1,h2⟩:=tyV_is I1 r1 ty
 refine⟨T,id,pa,slot,hty,h1,h2,?_⟩
 have hA:=ha cpos pins s1 σ H1 _ I1 q1
 rw[hs] at hA ⊢
 refine Calls.callWith_builtin (by show (false || (backTo cpos (starEach es X.env)).any (·.1))=false;rw[hplain]<;>rfl) (Calls.evalArgs_plain ?_)
 exact thn hA fun us s2 ⟨vs,H2,I2,r2,q2⟩=>hm pins s2 σ H2 x vs v us Q I2 r1 r2 q2
end
end L2
namespace L2
open PySem PySem.Spec PyProof.Rows
def MtM (X:Cx) (id:String) (r:V->List V->Hp->VK->Prop):Prop :=
 ∀ (pins:List (Addr × Obj)) (s:Shared) (σ:St) (H:Hp) (x:V) (xs:List V) (v:Value) (us:List Value) (Q:VK),Inv X pins σ H s->RelV x v->Vals xs us->r x xs H Q ->
  wpAny (model X.prog X.w) X.A (call (.builtin id) (v::us)) (EP X pins σ Q) X.xe s
theorem Vals.one:∀ {x:V} {us:List Value},Vals [x] us->∃ u,us=[u]∧RelV x u
 | _,_,.cons r .nil=>⟨_,rfl,r⟩
theorem Vals.zero:∀ {us:List Value},Vals [] us->us=[]
 | _,.nil=>rfl
theorem Vals.dropLast {xs:List V} {us:List Value} (h:Vals xs us):Vals xs.dropLast us.dropLast:=by
 induction h with
 | nil=>exact .nil
 | cons r t ih =>
  cases t with
  | nil=>exact .nil
  | cons q t'=>exact .cons r ih
theorem Vals.eraseIdx:∀ {xs:List V} {us:List Value} (i:Nat),Vals xs us->Vals (xs.eraseIdx i) (us.eraseIdx i)
 | _,_,_,.nil=>.nil
 | _,_,0,.cons _ t=>t
 | _,_,i+1,.cons r t=>.cons r (Vals.eraseIdx i t)
theorem Vals.rep {xs:List V} {us:List Value} (h:Vals xs us):∀ k:Nat,Vals (List.replicate k xs).flatten (List.replicate k us).flatten
 | 0=>.nil
 | k+1=>by
  rw[List.replicate_succ,List.replicate_succ,List.flatten_cons,List.flatten_cons]
  exact Vals.append h (Vals.rep h k)
theorem erase_last {α:Type} (l:List α):l.eraseIdx (l.length - 1)=l.dropLast:=by
 induction l with
 | nil=>rfl
 | cons a r ih =>
  cases r with
  | nil=>rfl
  | cons b r =>
   have e:(a::b::r).length - 1=((b::r).length - 1)+1:=by
    have h1:(a::b::r).length=r.length+2:=rfl
    have h2:(b::r).length=r.length+1:=rfl
    omega
   rw[e,List.eraseIdx_cons_succ,ih]
   all_goals rfl
theorem len_erase {α:Type}:∀ (l:List α) (i:Nat),(l.eraseIdx i).length≤l.length
 | [],_=>Nat.le_refl _
 | _::_,0=>Nat.le_succ _
 | _::r,i+1=>Nat.succ_le_succ (len_erase r i)
theorem foldl_rep (its:List Value):∀ (k:Nat) (acc:List Value),
  List.foldl (fun x1 x2=>x1++x2) acc.toArray (List.replicate k its.toArray)=(acc++(List.replicate k its).flatten).toArray
 | 0,acc=>by simp
 | k+1,acc=>by
  have e:acc.toArray++its.toArray=(acc++its).toArray:=by simp
  have e2:(acc++its)++(List.replicate k its).flatten=acc++(List.replicate (k+1) its).flatten:=by
   rw[List.replicate_succ,List.flatten_cons,List.append_assoc]
  rw[← e2,← foldl_rep its k (acc++its),← e,List.replicate_succ,List.foldl_cons]
section
variable {X:Cx} {pins:List (Addr × Obj)} {σ:St} {H:Hp} {s:Shared} {l b:Addr} {xs ys zs:List V}
theorem Inv.lset {its its':List Value} {n:Nat} {f:Array Value->Array Value} {t':Nat} (I:Inv X pins σ H s) (hH:H l=some (.lst xs))
  (e:s.heap.get? l=some { cls:=.type "list",data:=.seq its.toArray n }) (hf:f its.toArray=its'.toArray) (hv:Vals ys its') (hz:ys.length≤sizeLine) :
  Inv X pins σ (upd H l (.lst ys)) { s with heap:=s.heap.update l (Obj.mapSeq f),toks:=t' }:=by
 have q:=PySem.IsL.update e f
 rw[hf] at q
 refine I.write (x:=l) (e:=l) (by rw[hH];exact trivial) (.inl rfl) (fun b' u hb hu=>(Heap.get?_update_other s.heap (Obj.mapSeq f) (Ne.symm hb)).trans hu) ⟨_,q⟩ ?_
 exact⟨hz,its',_,hv,q⟩
theorem Inv.lnew {its:List Value} {t':Nat} (I:Inv X pins σ H s) (hv:Vals ys its) (hz:ys.length≤sizeLine) :
  Inv X pins σ (upd H s.heap.objs.size (.lst ys)) { s with heap:=s.heap.push { cls:=.type "list",data:=.seq its.toArray },toks:=t' } :=
 I.laid (fun _ _ q=>Heap.get?_push_of_some _ q) (Nat.le_refl _) ⟨hz,its,0,hv,Heap.get?_push_size _ rfl⟩
theorem Inv.fresh (I:Inv X pins σ H s):H s.heap.objs.size=none:=I.hok.fresh (Nat.le_refl _)
theorem Inv.lstM (I:Inv X pins σ H s) (hH:H l=some (.lst xs)):xs.length≤sizeLine∧∃ (its:List Value) (n:Nat),Vals xs its∧xs.length=its.length∧s.heap.get? l=some { cls:=.type "list",data:=.seq its.toArray n }:=by
 obtain⟨z,its,n,r,e⟩:=I.hok l _ hH
 exact⟨z,its,n,r,r.length,e⟩
theorem notLongL {n:Nat} (h:n≤sizeLine):Builtin.List.listTooLong n=false:=by
 unfold Builtin.List.listTooLong
 exact decide_eq_false (by omega)
end
section
variable {X:Cx}
def rAppend:V->List V->Hp->VK->Prop:=fun x vs H Q=>∃ l xs y,x=.ref l∧vs=[y]∧H l=some (.lst xs)∧xs.length < sizeLine∧Q .non (upd H l (.lst (xs++[y])))
theorem mt_append:MtM X "list.append" rAppend:=by
 intro pins s σ H x vs v us Q I rx rv h
 obtain⟨l,xs,y,rfl,rfl,hH,hz,q⟩:=h
 cases rx
 obtain⟨u,rfl,ru⟩:=rv.one
 obtain⟨z,its,n,r,hl,e⟩:=I.lstM hH
 refine call_meets F.slot_list_append ⟨_,e,rfl⟩ F.entry_list_append (F.args_list_append_2 _ _) (PySem.list_append l its.toArray n u (by rw[List.size_toArray];omega)) ⟨e,?_⟩
 refine⟨.non,_,I.lset (its':=its++[u]) hH e (by simp) (r.append (.cons ru .nil)) ?_,rfl,q⟩
 rw[List.length_append,List.length_singleton]
 omega
def rExtend:V->List V->Hp->VK->Prop:=fun x vs H Q=>∃ l b xs zs,x=.ref l∧vs=[.ref b]∧H l=some (.lst xs)∧H b=some (.lst zs)∧xs.length+zs.length≤sizeLine∧Q .non (upd H l (.lst (xs++zs)))
theorem mt_extend:MtM X "list.extend" rExtend:=by
 intro pins s σ H x vs v us Q I rx rv h
 obtain⟨l,b,xs,zs,rfl,rfl,hH,hB,hz,q⟩:=h
 cases rx
 obtain⟨u,rfl,ru⟩:=rv.one
 cases ru
 obtain⟨z,its,n,r,hl,e⟩:=I.lstM hH
 obtain⟨z2,its2,n2,r2,hl2,e2⟩:=I.lstM hB
 have hsz:its.toArray.size+its2.toArray.size≤sizeLine:=by rw[List.size_toArray,List.size_toArray];omega
 have hlong:¬ (!its.toArray.isEmpty&&Builtin.List.listTooLong (its.toArray.size+its2.toArray.size))=true:=by
  rw[notLongL hsz,Bool.and_false]
  exact Bool.false_ne_true
 refine call_meets F.slot_list_extend ⟨_,e,rfl⟩ F.entry_list_extend (F.args_list_extend_2 _ _)
  (AutoSeq1.list_extend_list_list_0 l its.toArray n b its2.toArray n2 hlong (by rw[List.size_toArray];omega) (by omega)) ⟨e,e2,?_⟩
 refine⟨.non,_,I.lset (its':=its++its2) hH e (by simp) (r.append r2) ?_,rfl,q⟩
 rw[List.length_append]
 omega
def rPop:V->List V->Hp->VK->Prop:=fun x vs H Q=>∃ l xs y,x=.ref l∧vs=[]∧H l=some (.lst xs)∧xs[xs.length - 1]?=some y∧Q y (upd H l (.lst xs.dropLast))
theorem mt_pop:MtM X "list.pop" rPop:=by
 intro pins s σ H x vs v us Q I rx rv h
 obtain⟨l,xs,y,rfl,rfl,hH,hy,q⟩:=h
 cases rx
 have hus:=rv.zero
 subst hus
 obtain⟨z,its,n,r,hl,e⟩:=I.lstM hH
 obtain⟨u,hu,ru⟩:=r.get hy
 have hy':its.toArray[its.toArray.size - 1]?=some u:=by
  show its.toArray[its.length - 1]?=some u
  rw[← Array.getElem?_toList,← hl]
  exact hu
 refine call_meets F.slot_list_pop ⟨_,e,rfl⟩ F.entry_list_pop (F.args_list_pop_1 _) (MeetsSeq.list_pop_last l its.toArray n u hy' (by rw[List.size_toArray];omega)) ⟨e,?_⟩
 refine⟨y,_,I.lset (its':=its.dropLast) hH e ?_ r.dropLast ?_,ru,q⟩
 ·show its.toArray.eraseIdxIfInBounds (its.toArray.size - 1)=its.dropLast.toArray
  rw[List.size_toArray,List.eraseIdxIfInBounds_toArray,erase_last]
 ·rw[List.length_dropLast]
  omega
def rPopAt:V->List V->Hp->VK->Prop:=fun x vs H Q=>∃ l xs i k y,x=.ref l∧vs=[.int i]∧H l=some (.lst xs)∧-(2 ^ 63)≤i∧i < 2 ^ 63∧seqIndex? i xs.length=some k∧xs[k]?=some y∧Q y (upd H l (.lst (xs.eraseIdx k)))
theorem mt_popAt:MtM X "list.pop" rPopAt:=by
 intro pins s σ H x vs v us Q I rx rv h
 obtain⟨l,xs,i,k,y,rfl,rfl,hH,h1,h2,hk,hy,q⟩:=h
 cases rx
 obtain⟨u,rfl,ru⟩:=rv.one
 obtain⟨t,rfl⟩:=ru
 obtain⟨z,its,n,r,hl,e⟩:=I.lstM hH
 obtain⟨w,hw,rw'⟩:=r.get hy
 refine call_meets F.slot_list_pop ⟨_,e,rfl⟩ F.entry_list_pop (F.args_list_pop_2 _ _)
  (MeetsSeq.list_pop_at l its.toArray n i t k w (fitsIndex_both h1 h2) (by rw[List.size_toArray,← hl];exact hk) (by rw[← Array.getElem?_toList];exact hw) (by rw[List.size_toArray];omega)) ⟨e,?_⟩
 refine⟨y,_,I.lset (its':=its.eraseIdx k) hH e ?_ (r.eraseIdx k) ?_,rw',q⟩
 ·show its.toArray.eraseIdxIfInBounds k=(its.eraseIdx k).toArray
  rw[List.eraseIdxIfInBounds_toArray]
 ·have:=len_erase xs k
  omega
def rCat:R2:=fun x y H Q=>∃ l b xs zs,x=.ref l∧y=.ref b∧H l=some (.lst xs)∧H b=some (.lst zs)∧xs.length+zs.length≤sizeLine∧∀ p,H p=none->Q (.ref p) (upd H p (.lst (xs++zs)))
theorem op_cat:OpR X (binaryOp .Add) rCat:=by
 intro pins s σ H x y v u Q I rx ry h
 obtain⟨l,b,xs,zs,rfl,rfl,hH,hB,hz,q⟩:=h
 cases rx
 cases ry
 obtain⟨z,its,n,r,hl,e⟩:=I.lstM hH
 obtain⟨z2,its2,n2,r2,hl2,e2⟩:=I.lstM hB
 refine PySem.P.add_list e e2 ?_ (by rw[List.size_toArray,List.size_toArray];omega)
 have ea:its.toArray++its2.toArray=(its++its2).toArray:=by simp
 rw[ea]
 exact⟨.ref _,_,I.lnew (t':=s.toks) (r.append r2) (by rw[List.length_append];omega),rfl,q _ I.fresh⟩
def rRep:R2:=fun x y H Q=>∃ l k xs,x=.ref l∧y=.int k∧H l=some (.lst xs)∧-(2 ^ 63)≤k∧k < 2 ^ 63∧xs.length*k.toNat≤sizeLine ∧
 ∀ p,H p=none->Q (.ref p) (upd H p (.lst (List.replicate k.toNat xs).flatten))
theorem len_rep {α:Type} (xs:List α) (k:Nat):(List.replicate k xs).flatten.length=k*xs.length:=by
 induction k with
 | zero=>simp
 | succ k ih=>rw[List.replicate_succ,List.flatten_cons,List.length_append,ih,Nat.succ_mul,Nat.add_comm]
theorem op_rep:OpR X (binaryOp .Mult) rRep:=by
 intro pins s σ H x y v u Q I rx ry h
 obtain⟨l,k,xs,rfl,rfl,hH,h1,h2,hz,q⟩:=h
 cases rx
 obtain⟨t,rfl⟩:=ry
 obtain⟨z,its,n,r,hl,e⟩:=I.lstM hH
 have hlen:its.toArray.size*k.toNat≤sizeLine:=by rw[List.size_toArray,← hl];exact hz
 have hcap:¬ its.toArray.size*k.toNat > (2 ^ 63 - 1) / 8:=by
  have:(sizeLine:Nat)≤(2 ^ 63 - 1) / 8:=by decide
  omega
 have hfit:¬ (!Builtin.List.listFitsIndex k)=true:=by
  rw[fitsIndex_both h1 h2]
  exact Bool.false_ne_true
 have hlong:¬ Builtin.List.listTooLong (its.toArray.size*k.toNat)=true:=by
  rw[notLongL hlen]
  exact Bool.false_ne_true
 have hnew:List.foldl (fun x1 x2=>x1++x2) #[] (List.replicate (if its.toArray.isEmpty=true then 0 else k.toNat) its.toArray)=(List.replicate k.toNat its).flatten.toArray:=by
  have f0:∀ m:Nat,List.foldl (fun x1 x2=>x1++x2) #[] (List.replicate m its.toArray)=(List.replicate m its).flatten.toArray:=fun m=>by
   have:=foldl_rep its m []
   rw[List.nil_append] at this
   exact this
  rw[f0]
  cases its with
  | nil=>simp
  | cons a r'=>rw[if_neg (by simp)]
 refine wpAny_binaryOp_repeat_ref (T:="list") (U:="int") (by decide) ⟨_,e,rfl⟩ (fun s'=>typeIs_int s' k t) noFill_list_mul F.fills_int_mul F.slot_int_rmul repeat_list F.slot_int_index.lookup
  (call_meets F.slot_int_rmul (typeIs_int s k t) F.entry_int_rmul (F.args_int_rmul_2 _ _) (int___rmul___int_list k t l its.toArray n)
   ⟨e,rfl,⟨_,e,rfl⟩,call_meets F.slot_list_mul ⟨_,e,rfl⟩ F.entry_list_mul (F.args_list_mul_2 _ _) (AutoListH.list___mul___list_int_3 l its.toArray n k t hfit hcap hlong) ⟨e,?_⟩⟩)
 rw[hnew]
 exact⟨.ref _,_,I.lnew (t':=s.toks) (r.rep k.toNat) (by rw[len_rep,Nat.mul_comm];exact hz),rfl,q _ I.fresh⟩
end
end L2
namespace L2
open PySem PySem.Spec PyProof.Rows
theorem Vals.ints:∀ {ns:List Int} {us:List Value},Vals (ns.map V.int) us->IntsAre us ns
 | [],us,h=>by
  rw[List.map_nil] at h
  cases h
  exact IntsAre.nil
 | n::ns,us,h=>by
  rw[List.map_cons] at h
  cases h with
  | cons r t =>
   obtain⟨k,rfl⟩:=r
   exact IntsAre.cons n k (Vals.ints t)
theorem Vals.bls:∀ {bs:List Bool} {us:List Value},Vals (bs.map V.bl) us->us=bs.map Value.bool
 | [],us,h=>by
  rw[List.map_nil] at h
  cases h
  rfl
 | b::bs,us,h=>by
  rw[List.map_cons] at h
  cases h with
  | cons r t =>
   cases r
   rw[Vals.bls t,List.map_cons]
theorem Vals.ref1 {a:Addr} {us:List Value} (r:Vals [V.ref a] us):us=[Value.ref a]:=by
 cases r with
 | cons r t =>
  cases t
  cases r
  rfl
section
variable {prog:Program} {w:World} {A:Around} {E:Value->Shared->Prop} {s:Shared} {l:Addr} {its:List Value} {ns:List Int} {Q:Value->Shared->Prop}
theorem sum_raw (hh:A.handled=none) (hl:s.heap.IsList l its.toArray) (hi:IntsAre its ns)
  (h:∀ h' tk t',(∀ b o,s.heap.get? b=some o->h'.get? b=some o)->Q (.int ns.sum t') { s with heap:=h',toks:=tk }):wpAny (model prog w) A (call (.builtin "sum") [.ref l]) Q E s:=by
 obtain⟨xs,e⟩:=hi.allInts.items
 have hn:numsOf (intItems xs).toList=ns:=by rw[← e];exact hi.numsOf
 rw[nums_intItems] at hn
 rw[e] at hl
 refine PySem.sum_intListG hh hl fun h' tk t' hk=>?_
 have:=h h' tk t' hk
 rw[preSum_eq,List.take_of_length_le (by simp),hn];exact this
theorem max_raw (hh:A.handled=none) (hl:s.heap.IsList l its.toArray) (hi:IntsAre its ns) (hne:0 < ns.length)
  (h:∀ h' tk M t',(∀ b o,s.heap.get? b=some o->h'.get? b=some o)->M∈ns->(∀ a,a∈ns->a≤M)->Q (.int M t') { s with heap:=h',toks:=tk }):wpAny (model prog w) A (call (.builtin "max") [.ref l]) Q E s:=by
 obtain⟨xs,e⟩:=hi.allInts.items
 have hn:numsOf (intItems xs).toList=ns:=by rw[← e];exact hi.numsOf
 rw[nums_intItems] at hn
 subst hn
 rw[e] at hl
 have hsz:0 < xs.size:=by simpa using hne
 refine PySem.max_intList hh hl hsz fun v h' tk hv hk=>?_
 obtain⟨t,rfl⟩:=intItems_at hv
 obtain⟨h1,h2⟩:=argBest_gt (numAt xs) (xs.size - 1)
 refine h h' tk _ t hk ?_ fun a ha=>?_
 ·rw[numAt_eq];exact PySem.getD_mem (by rw[List.length_map,Array.length_toList];omega)
 ·obtain⟨j,hj,rfl⟩:=mem_getD ha
  rw[List.length_map,Array.length_toList] at hj
  rw[← numAt_eq];exact h2 j (by omega)
end
section
variable {X:Cx}
def rSum (K:PySem.W.Frag):List V->Hp->VK->Prop:=fun vs H Q=>∃ (a:Addr) (ns:List Int),vs=[V.ref a]∧SqL K H a (ns.map V.int)∧Q (.int ns.sum) H
def rMax (K:PySem.W.Frag):List V->Hp->VK->Prop:=fun vs H Q=>∃ (a:Addr) (ns:List Int),vs=[V.ref a]∧SqL K H a (ns.map V.int)∧0 < ns.length∧∀ m,m∈ns->(∀ y,y∈ns->y≤m)->Q (.int m) H
theorem cr_sum (hc:X.calm=true):CallR X (.builtin "sum") (rSum X.K):=by
 intro pins s σ H vs us Q I r h
 obtain⟨a,ns,rfl,hs,q⟩:=h
 obtain⟨its,rv,hl,_⟩:=I.list hs
 rw[Vals.ref1 r]
 exact sum_raw (I.ok.hd hc) hl.isList rv.ints fun h' tk t' hk=>⟨.int _,H,I.kept hk,⟨_,rfl⟩,q⟩
theorem cr_max (hc:X.calm=true):CallR X (.builtin "max") (rMax X.K):=by
 intro pins s σ H vs us Q I r h
 obtain⟨a,ns,rfl,hs,hne,q⟩:=h
 obtain⟨its,rv,hl,_⟩:=I.list hs
 rw[Vals.ref1 r]
 exact max_raw (I.ok.hd hc) hl.isList rv.ints hne fun h' tk m t' hk h1 h2=>⟨.int _,H,I.kept hk,⟨_,rfl⟩,q m h1 h2⟩
end
section
variable {X:Cx}
def rIndex (K:PySem.W.Frag):V->List V->Hp->VK->Prop:=fun x xs H Q=>∃ (a:Addr) (ys:List V) (y:V) (j:Nat) (z:V),x=V.ref a∧xs=[y]∧SqL K H a ys∧flatV y=true∧ys.all flatV=true∧ys[j]?=some z∧eqV z y=true ∧
 (∀ (m:Nat) (z':V),m < j->ys[m]?=some z'->eqV z' y=false)∧Q (.int (j:Nat)) H
theorem flat_at {ys:List V} (f:ys.all flatV=true) {j:Nat} {z:V} (h:ys[j]?=some z):flatV z=true:=List.all_eq_true.mp f z (List.mem_of_getElem? h)
theorem mt_index:MtR X "list.index" (rIndex X.K):=by
 intro pins s σ H x xs v us Q I rx rxs h
 obtain⟨a,ys,y,j,z,rfl,rfl,hs,fy,fys,hz,hzj,hno,q⟩:=h
 cases rx
 cases rxs with
 | cons ry rt =>
  rename_i uy ut
  cases rt
  obtain⟨its,rv,⟨⟨cls,dd,data,sl⟩,n,ho,hc,hdn,hd⟩,hlen⟩:=I.list hs
  simp only at hc hd
  subst hc hd
  obtain⟨u,hu,ru⟩:=rv.get hz
  obtain⟨hjl,hje⟩:=List.getElem?_eq_some_iff.mp hu
  have hvl:=rv.length
  have hj:j < its.toArray.size:=by simpa using hjl
  have hsl:=sizeLine_eq
  refine call_meets PySem.F.slot_list_index ⟨_,ho,rfl⟩ PySem.F.entry_list_index (PySem.F.args_list_index_2 _ _)
   (SeqAt.list_indexAt a its.toArray n dd sl uy (eqU y) j hj (by omega) ?_ ?_) ⟨ho,fun u' hu'=>mem_eqAt ry fy rv fys u' (by simpa using hu'),?_⟩
  ·have e1:its.toArray[j]=u:=by simpa using hje
   rw[e1,eqU_of ru (flat_at fys hz)]
   exact hzj
  ·intro m hm hmj
   have hml:m < its.length:=by simpa using hm
   have hmy:m < ys.length:=by omega
   have hy':ys[m]?=some ys[m]:=List.getElem?_eq_getElem hmy
   obtain⟨u2,hu2,ru2⟩:=rv.get hy'
   obtain⟨_,hme⟩:=List.getElem?_eq_some_iff.mp hu2
   have e1:its.toArray[m]=u2:=by simpa using hme
   rw[e1,eqU_of ru2 (flat_at fys hy')]
   exact hno m _ hmj hy'
  ·exact⟨.int (j:Nat),H,I.tok _,⟨_,rfl⟩,q⟩
end
theorem iter_any {prog:Program} {w:World} {A:Around} {E:Value->Shared->Prop} {s:Shared} {l:Addr} {items:Array Value} {Q:Value->Shared->Prop} (hl:s.heap.IsList l items)
  (h:∀ s₂:Shared,s₂={ s with heap:=s.heap.push { cls:=.type "list_iterator",data:=.fields #[.ref l,.int 0 0] } } ->
   (s₂.heap.IsListIter s.heap.objs.size l 0∧s₂.heap.IsList l items)->l≠s.heap.objs.size->Q (.ref s.heap.objs.size) s₂):wpAny (model prog w) A (pyIter (.ref l)) Q E s:=by
 have hlt:l < s.heap.objs.size:=by obtain⟨_,e,_⟩:=hl;exact Heap.lt_size e
 exact wpAny_pyIter_list hl (h _ rfl ⟨⟨_,Heap.get?_push_size _ rfl,rfl,rfl⟩,hl.push _⟩ (Nat.ne_of_lt hlt))
theorem truth_bools {prog:Program} {w:World} {A:Around} {bs:List Bool} {its:List Value} (e:its=bs.map Value.bool) :
  TruthOf prog w A (fun i v=>its.toArray[i]?=some v) (fun i=>bs.getD i false):=fun i v s Q E hv hq=>by
 have hv':its[i]?=some v:=by simpa using hv
 rw[e,List.getElem?_map] at hv'
 obtain⟨b,hb,rfl⟩:=Option.map_eq_some_iff.mp hv'
 have hg:bs.getD i false=b:=by rw[List.getD_eq_getElem?_getD,hb]<;>rfl
 have hq':Q (bs.getD i false) s:=hq
 rw[hg] at hq'
 exact wpAny_truthy_bool hq'
theorem any_range:∀ bs:List Bool,(List.range bs.length).any (fun i=>bs.getD i false)=bs.any id
 | []=>rfl
 | b::bs=>by
  rw[List.length_cons,List.range_succ_eq_map,List.any_cons,List.any_map,List.any_cons,← any_range bs]
  all_goals rfl
theorem all_range:∀ bs:List Bool,(List.range bs.length).all (fun i=>bs.getD i false)=bs.all id
 | []=>rfl
 | b::bs=>by
  rw[List.length_cons,List.range_succ_eq_map,List.all_cons,List.all_map,List.all_cons,← all_range bs]
  all_goals rfl
section
variable {X:Cx}
def rAny (K:PySem.W.Frag):List V->Hp->VK->Prop:=fun vs H Q=>∃ (a:Addr) (bs:List Bool),vs=[V.ref a]∧SqL K H a (bs.map V.bl)∧Q (.bl (bs.any id)) H
def rAll (K:PySem.W.Frag):List V->Hp->VK->Prop:=fun vs H Q=>∃ (a:Addr) (bs:List Bool),vs=[V.ref a]∧SqL K H a (bs.map V.bl)∧Q (.bl (bs.all id)) H
theorem cr_any (hc:X.calm=true):CallR X (.builtin "any") (rAny X.K):=by
 intro pins s σ H vs us Q I r h
 obtain⟨a,bs,rfl,hs,q⟩:=h
 obtain⟨its,rv,hl,_⟩:=I.list hs
 rw[Vals.ref1 r]
 have hb:=rv.bls
 refine call_any_walk (iter_any hl.isList fun s₂ e2 st hne=>?_)
 subst e2
 refine⟨_,_,_,_,_,_,_,rfl,Walks.list (A:=X.A.in1) (I.ok.hd hc) _ a hne its.toArray,st,truth_bools hb,fun h' tk hk=>?_⟩
 refine⟨.bl _,H,I.kept fun b o eo=>hk b o (fun hmem=>?_) (Heap.get?_push_of_some _ eo),?_,q⟩
 ·rcases List.mem_cons.mp hmem with e1|hmem
  ·exact absurd (e1▸Heap.lt_size eo) (Nat.lt_irrefl _)
  ·cases hmem
 ·show Value.bool _=Value.bool _
  rw[← any_range,hb,List.size_toArray,List.length_map]
theorem cr_all (hc:X.calm=true):CallR X (.builtin "all") (rAll X.K):=by
 intro pins s σ H vs us Q I r h
 obtain⟨a,bs,rfl,hs,q⟩:=h
 obtain⟨its,rv,hl,_⟩:=I.list hs
 rw[Vals.ref1 r]
 have hb:=rv.bls
 refine call_all_walk (iter_any hl.isList fun s₂ e2 st hne=>?_)
 subst e2
 refine⟨_,_,_,_,_,_,_,rfl,Walks.list (A:=X.A.in1) (I.ok.hd hc) _ a hne its.toArray,st,truth_bools hb,fun h' tk hk=>?_⟩
 refine⟨.bl _,H,I.kept fun b o eo=>hk b o (fun hmem=>?_) (Heap.get?_push_of_some _ eo),?_,q⟩
 ·rcases List.mem_cons.mp hmem with e1|hmem
  ·exact absurd (e1▸Heap.lt_size eo) (Nat.lt_irrefl _)
  ·cases hmem
 ·show Value.bool _=Value.bool _
  rw[← all_range,hb,List.size_toArray,List.length_map]
end
mutual
inductive Dp (K:PySem.W.Frag) (H:Hp):V->PyData->Prop
 | non:Dp K H .non .none
 | bl (b:Bool):Dp K H (.bl b) (.bool b)
 | int (i:Int):Dp K H (.int i) (.int i)
 | str (x:Str):Dp K H (.str x) (.str x)
 | lst {a:Addr} {xs:List V} {ds:List PyData}:SqL K H a xs->DpAll K H xs ds->Dp K H (.ref a) (.list ds)
 | tup {a:Addr} {xs:List V} {ds:List PyData}:SqT K H a xs->DpAll K H xs ds->Dp K H (.ref a) (.tuple ds)
inductive DpAll (K:PySem.W.Frag) (H:Hp):List V->List PyData->Prop
 | nil:DpAll K H [] []
 | cons {v:V} {vs:List V} {d:PyData} {ds:List PyData}:Dp K H v d->DpAll K H vs ds->DpAll K H (v::vs) (d::ds)
end
section
variable {X:Cx} {pins:List (Addr × Obj)} {σ:St} {H:Hp} {s:Shared}
mutual
theorem Dp.reads (I:Inv X pins σ H s):∀ (d:PyData) (v:V) (u:Value),Dp X.K H v d->RelV v u->∃ as,Reads s.heap u d as
 | .none,_,_,h,r=>by
  cases h
  cases r
  exact⟨_,Reads.none⟩
 | .bool b,_,_,h,r=>by
  cases h
  cases r
  exact⟨_,Reads.bool b⟩
 | .int i,_,_,h,r=>by
  cases h
  obtain⟨t,rfl⟩:=r
  exact⟨_,Reads.int i t⟩
 | .str x,_,_,h,r=>by
  cases h
  obtain⟨t,rfl⟩:=r
  exact⟨_,Reads.str x t⟩
 | .list ds,_,_,h,r=>by
  cases h with
  | lst hs ha =>
   cases r
   obtain⟨its,rv,⟨o,n,ho,hc,_,hd⟩,_⟩:=I.list hs
   obtain⟨as,hr⟩:=Dp.readsAll I ds _ its ha rv
   exact⟨_,Reads.list ho hc hd hr⟩
 | .tuple ds,_,_,h,r=>by
  cases h with
  | tup hs ha =>
   cases r
   obtain⟨its,rv,⟨o,ho,hc,n,hd⟩,_⟩:=I.tuple hs
   obtain⟨as,hr⟩:=Dp.readsAll I ds _ its ha rv
   exact⟨_,Reads.tuple ho hc hd hr⟩
 | .dict _,_,_,h,_=>by cases h
theorem Dp.readsAll (I:Inv X pins σ H s):∀ (ds:List PyData) (vs:List V) (us:List Value),DpAll X.K H vs ds->Vals vs us->∃ as,ReadsAll s.heap us ds as
 | [],_,_,h,r=>by
  cases h
  cases r
  exact⟨_,ReadsAll.nil⟩
 | d::ds,_,_,h,r=>by
  cases h with
  | cons h1 h2 =>
   cases r with
   | cons r1 r2 =>
    obtain⟨as,q1⟩:=Dp.reads I d _ _ h1 r1
    obtain⟨bs,q2⟩:=Dp.readsAll I ds _ _ h2 r2
    exact⟨_,ReadsAll.cons q1 q2⟩
end
end
section
variable {X:Cx}
def rEqD (K:PySem.W.Frag):R2:=fun x y H Q=>∃ d e,Dp K H x d∧Dp K H y e∧SeqAt.shaped d=true∧SeqAt.shaped e=true∧Q (.bl (PyData.eqv d e)) H
theorem op_eqD (hu:X.A.units+64 < cLine):OpR X (compareOp .Eq) (rEqD X.K):=by
 intro pins s σ H x y v u Q I rx ry h
 obtain⟨d,e,hd,he,sd,se,q⟩:=h
 obtain⟨as,r1⟩:=Dp.reads I d x v hd rx
 obtain⟨bs,r2⟩:=Dp.reads I e y u he ry
 exact SeqAt.compareEq_shaped r1 r2 sd se hu ⟨.bl _,H,I,rfl,q⟩
end
end L2
namespace L2
open PySem PySem.Spec PyProof.Rows
abbrev CellAt (h:Heap) (c:Addr) (v:Option Value):Prop:=h.IsCell c v
def relS (scope sc:Scope):Scope :=
 { scope with names:=scope.names.map fun (n,k)=>if (k==.free&&sc.kind==.function&&sc.names.lookup n==some .cell) then (n,.cell) else (n,k) }
def cloFrom (cells:List (Str × Addr)):List (Str × NameKind)->List (Str × Addr)->List (Str × Addr)
 | [],acc=>acc
 | (n,k)::r,acc=>if k==.free then cloFrom cells r ((n,(cells.lookup n).getD 0)::acc) else cloFrom cells r acc
theorem closure_loop (env:Env) (f:Str × NameKind->List (Str × Addr)->Sem (ForInStep (List (Str × Addr))))
  (hf:∀ n k c,f (n,k) c=if k==.free then (do let a ← cellOf env n;pure (.yield ((n,a)::c))) else pure (.yield c)) :
  ∀ (names:List (Str × NameKind)) (acc:List (Str × Addr)),(∀ y∈names,y.2=.free->∃ c,env.cells.lookup y.1=some c)->forIn names acc f=pure (cloFrom env.cells names acc)
 | [],acc,_=>by rw[List.forIn_nil];rfl
 | (n,k)::r,acc,h=>by
  rw[List.forIn_cons,hf]
  have ih:=fun acc=>closure_loop env f hf r acc fun y hy=>h y (List.mem_cons_of_mem _ hy)
  unfold cloFrom
  by_cases hk:(k==NameKind.free)=true
  ·rw[if_pos hk,if_pos hk]
   obtain⟨c,hc⟩:=h (n,k) List.mem_cons_self (by simpa using hk)
   have e:cellOf env n=pure c:=by unfold cellOf;rw[hc]
   rw[e]
   have e2:(env.cells.lookup n).getD 0=c:=by rw[hc];rfl
   rw[e2]
   exact ih _
  ·rw[if_neg hk,if_neg hk]
   exact ih _
theorem closure_ok {scope:Scope} {env:Env} (h:∀ y∈scope.names,y.2=.free->∃ c,env.cells.lookup y.1=some c):closureFor scope env=pure (cloFrom env.cells scope.names []):=by
 simp only[closureFor]
 rw[closure_loop env _ (fun n k c=>rfl) scope.names [] h]
 rfl
theorem mem_lookup {α:Type}:∀ {l:List (Str × α)} {n:Str} {c:α},(n,c)∈l->∃ c',l.lookup n=some c'
 | (k,v)::r,n,c,h=>by
  rw[List.lookup_cons]
  cases hb:n==k with
  | true=>exact⟨_,rfl⟩
  | false =>
   rcases List.mem_cons.mp h with e|h
   ·cases e;simp at hb
   ·exact mem_lookup h
theorem cloFrom_mem {cells:List (Str × Addr)}:∀ {names:List (Str × NameKind)} {acc:List (Str × Addr)} {n:Str} {c:Addr},(n,c)∈cloFrom cells names acc->(n,c)∈acc∨((n,.free)∈names∧c=(cells.lookup n).getD 0)
 | [],_,_,_,h=>.inl h
 | (m,k)::r,acc,n,c,h=>by
  unfold cloFrom at h
  split at h
  ·rename_i hk
   have hk:k=.free:=by simpa using hk
   rcases cloFrom_mem h with h|⟨h1,h2⟩
   ·rcases List.mem_cons.mp h with e|h
    ·cases e;exact .inr ⟨hk▸List.mem_cons_self,rfl⟩
    ·exact .inl h
   ·exact .inr ⟨List.mem_cons_of_mem _ h1,h2⟩
  ·rcases cloFrom_mem h with h|⟨h1,h2⟩
   ·exact .inl h
   ·exact .inr ⟨List.mem_cons_of_mem _ h1,h2⟩
theorem cloFrom_acc {cells:List (Str × Addr)}:∀ {names:List (Str × NameKind)} {acc:List (Str × Addr)} {p:Str × Addr},p∈acc->p∈cloFrom cells names acc
 | [],_,_,h=>h
 | (m,k)::r,acc,p,h=>by
  unfold cloFrom
  split
  ·exact cloFrom_acc (List.mem_cons_of_mem _ h)
  ·exact cloFrom_acc h
theorem cloFrom_has {cells:List (Str × Addr)}:∀ {names:List (Str × NameKind)} {acc:List (Str × Addr)} {n:Str},(n,.free)∈names->(n,(cells.lookup n).getD 0)∈cloFrom cells names acc
 | (m,k)::r,acc,n,h=>by
  unfold cloFrom
  rcases List.mem_cons.mp h with e|h
  ·cases e
   exact cloFrom_acc List.mem_cons_self
  ·split
   ·exact cloFrom_has h
   ·exact cloFrom_has h
theorem cells_mem:∀ {names:List (Str × NameKind)} {h:Heap} {acc:List (Str × Addr)} {x:Str} {c:Addr},(x,c)∈cellsFrom h.objs.size names acc ->
  (x,c)∈acc∨((x,.cell)∈names∧h.objs.size≤c∧CellAt (pushCells h names) c none)
 | [],_,_,_,_,h=>.inl h
 | (n,k)::r,h,acc,x,c,hm=>by
  unfold cellsFrom at hm
  unfold pushCells
  split at hm
  ·rename_i hk
   rw[if_pos hk]
   have hk:k=.cell:=by simpa using hk
   rw[← Heap.size_push h { cls:=.type "cell",data:=.cell none }] at hm
   rcases cells_mem hm with hm|⟨h1,h2,h3⟩
   ·rcases List.mem_cons.mp hm with e|hm
    ·cases e
     exact .inr ⟨hk▸List.mem_cons_self,Nat.le_refl _,_,pushCells_keeps r _ _ _ (Heap.get?_push_size _ rfl),rfl⟩
    ·exact .inl hm
   ·rw[Heap.size_push] at h2
    exact .inr ⟨List.mem_cons_of_mem _ h1,Nat.le_of_succ_le h2,h3⟩
  ·rename_i hk
   rw[if_neg hk]
   rcases cells_mem hm with hm|⟨h1,h2,h3⟩
   ·exact .inl hm
   ·exact .inr ⟨List.mem_cons_of_mem _ h1,h2,h3⟩
theorem cells_acc:∀ {names:List (Str × NameKind)} {n:Nat} {acc:List (Str × Addr)} {p:Str × Addr},p∈acc->p∈cellsFrom n names acc
 | [],_,_,_,h=>h
 | (m,k)::r,n,acc,p,h=>by
  unfold cellsFrom
  split
  ·exact cells_acc (List.mem_cons_of_mem _ h)
  ·exact cells_acc h
theorem cells_has:∀ {names:List (Str × NameKind)} {n:Nat} {acc:List (Str × Addr)} {x:Str},(x,.cell)∈names->∃ c,(x,c)∈cellsFrom n names acc
 | (m,k)::r,n,acc,x,h=>by
  unfold cellsFrom
  rcases List.mem_cons.mp h with e|h
  ·cases e
   exact⟨n,cells_acc List.mem_cons_self⟩
  ·split
   ·exact cells_has h
   ·exact cells_has h
theorem cells_inj:∀ {names:List (Str × NameKind)} {h:Heap} {acc:List (Str × Addr)} {x y:Str} {c:Addr},(∀ p∈acc,p.2 < h.objs.size)->(∀ x y c,(x,c)∈acc->(y,c)∈acc->x=y) ->
  (x,c)∈cellsFrom h.objs.size names acc->(y,c)∈cellsFrom h.objs.size names acc->x=y
 | [],_,_,_,_,_,_,hi,h1,h2=>hi _ _ _ h1 h2
 | (n,k)::r,h,acc,x,y,c,hl,hi,h1,h2=>by
  unfold cellsFrom at h1 h2
  split at h1
  ·rename_i hk
   rw[if_pos hk] at h2
   rw[← Heap.size_push h { cls:=.type "cell",data:=.cell none }] at h1 h2
   refine cells_inj (h:=h.push _) (fun p hp=>?_) (fun x y c a b=>?_) h1 h2
   ·rw[Heap.size_push]
    rcases List.mem_cons.mp hp with rfl|hp
    ·exact Nat.lt_succ_self _
    ·exact Nat.lt_succ_of_lt (hl p hp)
   ·rcases List.mem_cons.mp a with e|a<;>rcases List.mem_cons.mp b with e'|b
    ·cases e;cases e';rfl
    ·cases e;exact absurd (hl _ b) (Nat.lt_irrefl _)
    ·cases e';exact absurd (hl _ a) (Nat.lt_irrefl _)
    ·exact hi _ _ _ a b
  ·rename_i hk
   rw[if_neg hk] at h2
   exact cells_inj hl hi h1 h2
theorem newEnv_comp {M:Model} {A:Around} {E:Value->Shared->Prop} {s:Shared} {scope:Scope} {globals:Addr} {closure:List (Str × Addr)} {qual:Str} {func:Option Addr} {code:Value} {around:Env} {builtins:Addr} {Q:Env->Shared->Prop}
  (h:Q (newEnv scope s.heap.objs.size globals (cellsFrom (s.heap.objs.size+1) scope.names closure) qual func code (some around) builtins)
   { s with heap:=pushCells (s.heap.push { cls:=.type "dict",data:=.dict #[] }) scope.names }) :
  wpAny M A (newFunctionEnv scope globals closure [] qual func code (some around) builtins) Q E s:=by
 simp only[newFunctionEnv,Option.isSome_some,if_true]
 refine wpAny_bind (wpAny_alloc ?_)
 refine wpAny_bind (wpAny_layCells _ (fun n k c=>rfl) scope.names closure _ _ ?_)
 rw[show ({ s with heap:=s.heap.push { cls:=.type "dict",data:=.dict #[] } }:Shared).heap.objs.size=s.heap.objs.size+1 from Heap.size_push ..]
 rw[List.forIn_nil]
 exact wpAny_bind (wpAny_pure (wpAny_pure h))
theorem lookup_relS {sc:Scope}:∀ {names:List (Str × NameKind)} {x:Str} {k:NameKind},
  (names.map fun (n,k)=>if (k==NameKind.free&&sc.kind==.function&&sc.names.lookup n==some .cell) then (n,NameKind.cell) else (n,k)).lookup x=some k ->
  ∃ k',names.lookup x=some k'∧(k=k'∨(k'=.free∧k=.cell))
 | [],_,_,h=>by simp at h
 | (n,k₀)::r,x,k,h=>by
  have ih:=@lookup_relS sc r x k
  have h':List.lookup x ((if (k₀==NameKind.free&&sc.kind==.function&&sc.names.lookup n==some .cell)=true then (n,NameKind.cell) else (n,k₀))::(r.map _))=some k:=h
  cases hx:x==n with
  | true =>
   simp only[List.lookup_cons,hx]
   by_cases hc:(k₀==NameKind.free&&sc.kind==.function&&sc.names.lookup n==some .cell)=true
   ·rw[if_pos hc] at h'
    simp only[List.lookup_cons,hx] at h'
    cases h'
    simp only[Bool.and_eq_true,beq_iff_eq] at hc
    exact⟨k₀,rfl,.inr ⟨hc.1.1,rfl⟩⟩
   ·rw[if_neg hc] at h'
    simp only[List.lookup_cons,hx] at h'
    cases h'
    exact⟨_,rfl,.inl rfl⟩
  | false =>
   simp only[List.lookup_cons,hx]
   by_cases hc:(k₀==NameKind.free&&sc.kind==.function&&sc.names.lookup n==some .cell)=true
   ·rw[if_pos hc] at h'
    simp only[List.lookup_cons,hx] at h'
    exact ih h'
   ·rw[if_neg hc] at h'
    simp only[List.lookup_cons,hx] at h'
    exact ih h'
structure BlkOk (N:List Str) (sc scope:Scope) (own:List (Str × Nat)):Prop where
 kind:scope.kind=.function
 uniq:∀ y∈scope.names,scope.names.lookup y.1=some y.2
 ix:∀ p∈own,N[p.2]?=some p.1
 free:∀ y∈scope.names,y.2=.free->sc.names.lookup y.1=some .cell∨sc.names.lookup y.1=some .free
 own:∀ y∈scope.names,y.2=.local∨y.2=.cell->y.1∈own.map (·.1)∨y.1∉N
def wipe (σ:St):List Nat->St
 | []=>σ
 | v::vs=>(wipe σ vs).set v none
theorem wipe_length (σ:St):∀ vs:List Nat,(wipe σ vs).length=σ.length
 | []=>rfl
 | v::vs=>by unfold wipe;rw[List.length_set,wipe_length σ vs]
theorem wipe_some {σ:St} {i:Nat} {x:V}:∀ {vs:List Nat},(wipe σ vs)[i]?=some (some x)->σ[i]?=some (some x)∧i∉vs
 | [],h=>⟨h,by simp⟩
 | v::vs,h=>by
  unfold wipe at h
  by_cases hi:v=i
  ·subst hi
   by_cases hv:v < (wipe σ vs).length
   ·rw[List.getElem?_set_self hv] at h;cases h
   ·rw[List.getElem?_eq_none (by simpa using hv)] at h;cases h
  ·rw[List.getElem?_set_ne hi] at h
   obtain⟨h1,h2⟩:=wipe_some h
   exact⟨h1,by simp only[List.mem_cons,not_or];exact⟨fun e=>hi e.symm,h2⟩⟩
abbrev Cx.blk (X:Cx) (s:Shared) (H:Hp) (scope:Scope) (cenv:Env) (fp:List Addr):Cx:={ X with s_0:=s,H_0:=H,env:=cenv,outer:=X.stack,ex:=fp,fn:=fun x=>scope.names.lookup x==some .cell,pn:=[],xe:=fun _ _=>False }
section
variable {X:Cx} {pins:List (Addr × Obj)} {σ:St} {H:Hp} {s:Shared}
theorem block_start {scope:Scope} {own:List (Str × Nat)} {fp:List Addr} (I:Inv X pins σ H s) (ok:BlkOk X.N X.env.scope scope own) (hN:X.N.Nodup) (hfp:∀ b∈fp,FpOk X pins H b∧b < s.heap.objs.size) :
  Inv (X.blk s H scope (compEnvC scope (cellsFrom (s.heap.objs.size+1) scope.names (cloFrom X.env.cells scope.names [])) s.heap.objs.size X.env) fp) [] (wipe σ (own.map (·.2))) H { s with heap:=pushCells (s.heap.push { cls:=.type "dict",data:=.dict #[] }) scope.names }:=by
 have hfree:∀ y∈scope.names,y.2=.free->∃ c,X.env.cells.lookup y.1=some c:=fun y hy e=>by
  rcases ok.free y hy e with k|k
  ·exact I.ok.has _ (.inl k)
  ·exact I.ok.has _ (.inr k)
 generalize hcenv:compEnvC scope (cellsFrom (s.heap.objs.size+1) scope.names (cloFrom X.env.cells scope.names [])) s.heap.objs.size X.env=cenv
 have kp:∀ b o,s.heap.get? b=some o->(pushCells (s.heap.push { cls:=.type "dict",data:=.dict #[] }) scope.names).get? b=some o:=fun b o e=>pushCells_keeps _ _ _ _ (Heap.get?_push_of_some _ e)
 have hL:cenv.locals=s.heap.objs.size:=by rw[← hcenv];rfl
 have hcl:cenv.cells=cellsFrom (s.heap.objs.size+1) scope.names (cloFrom X.env.cells scope.names []):=by rw[← hcenv];rfl
 have hsc:cenv.scope=relS scope X.env.scope:=by rw[← hcenv];rfl
 rw[← Heap.size_push s.heap { cls:=.type "dict",data:=.dict #[] }] at hcl
 have cm:∀ {y c},(y,c)∈cloFrom X.env.cells scope.names []->X.env.cells.lookup y=some c∧c < s.heap.objs.size:=fun {y c} hm=>by
  rcases cloFrom_mem hm with hm|⟨h1,rfl⟩
  ·cases hm
  ·obtain⟨c,hc⟩:=hfree _ h1 rfl
   rw[hc]
   obtain⟨w,z⟩:=I.cell _ _ hc
   exact⟨rfl,z.lt⟩
 have mem:∀ {y c},cenv.cells.lookup y=some c->(X.env.cells.lookup y=some c∧c < s.heap.objs.size)∨(s.heap.objs.size+1≤c∧CellAt (pushCells (s.heap.push { cls:=.type "dict",data:=.dict #[] }) scope.names) c none):=fun {y c} e=>by
  rw[hcl] at e
  rcases cells_mem (PySem.mem_of_lookup e) with hm|⟨_,h2,h3⟩
  ·exact .inl (cm hm)
  ·rw[Heap.size_push] at h2;exact .inr ⟨h2,h3⟩
 have look:∀ {y},scope.names.lookup y=some .free->∃ c,cenv.cells.lookup y=some c∧X.env.cells.lookup y=some c:=fun {y} hl=>by
  have hy:(y,NameKind.free)∈scope.names:=PySem.mem_of_lookup hl
  obtain⟨c',e'⟩:=mem_lookup (cells_acc (names:=scope.names) (n:=(s.heap.push { cls:=.type "dict",data:=.dict #[] }).objs.size) (cloFrom_has (cells:=X.env.cells) (acc:=[]) hy))
  rw[← hcl] at e'
  refine⟨c',e',?_⟩
  rw[hcl] at e'
  rcases cells_mem (PySem.mem_of_lookup e') with hm|⟨h1,_,_⟩
  ·exact (cm hm).1
  ·have:=ok.uniq _ h1
   rw[hl] at this;cases this
 have okB:(X.blk s H scope cenv fp).Ok:=by
  refine⟨I.ok.mod,by show cenv.scope.kind=_;rw[hsc];exact ok.kind,by show cenv.globals=_;rw[← hcenv];exact I.ok.glob,by show cenv.builtins=_;rw[← hcenv];exact I.ok.blt,by show s.heap.objs.size≤cenv.locals;rw[hL];exact Nat.le_refl _,
   fun y z c e1 e2=>?_,fun y hy=>?_,fun y c z e=>?_,I.ok.hd,I.ok.frames,.inl rfl,fun b hb=>⟨?_,fun y c e z=>?_⟩,I.bs,Nat.le_trans I.ok.bsz I.sz,fun b o e hb=>?_,fun b hb z=>?_,I.stack,I.stkFree⟩
  ·have e1:cenv.cells.lookup y=some c:=e1
   have e2:cenv.cells.lookup z=some c:=e2
   rw[hcl] at e1 e2
   refine cells_inj (fun p hp=>?_) (fun y z c a b=>I.ok.inj y z c (cm a).1 (cm b).1) (PySem.mem_of_lookup e1) (PySem.mem_of_lookup e2)
   rw[Heap.size_push]
   exact Nat.lt_succ_of_lt (cm (y:=p.1) (c:=p.2) hp).2
  ·show ∃ c,cenv.cells.lookup y=some c
   have key:∀ k,cenv.kindOf y=some k->(k=.cell∨k=.free)->∃ c,cenv.cells.lookup y=some c:=fun k hk hk'=>by
    unfold Env.kindOf at hk
    rw[hsc] at hk
    obtain⟨k',e,r⟩:=lookup_relS hk
    have:k'=.cell∨k'=.free:=by
     rcases r with rfl|⟨rfl,_⟩
     ·exact hk'
     ·exact .inr rfl
    rcases this with rfl|rfl
    ·obtain⟨c,hm⟩:=cells_has (n:=(s.heap.push { cls:=.type "dict",data:=.dict #[] }).objs.size) (acc:=cloFrom X.env.cells scope.names []) (PySem.mem_of_lookup e)
     obtain⟨c',e'⟩:=mem_lookup hm
     exact⟨c',by rw[hcl];exact e'⟩
    ·obtain⟨c,h1,_⟩:=look e
     exact⟨c,h1⟩
   rcases hy with hy|hy
   ·exact key _ hy (.inl rfl)
   ·exact key _ hy (.inr rfl)
  ·have z:(scope.names.lookup y==some NameKind.cell)=true:=z
   have z:scope.names.lookup y=some .cell:=by simpa using z
   have e:cenv.cells.lookup y=some c:=e
   rw[hcl] at e
   rcases cells_mem (PySem.mem_of_lookup e) with hm|⟨_,h2,_⟩
   ·rcases cloFrom_mem hm with hm|⟨h1,_⟩
    ·cases hm
    ·have q:=ok.uniq _ h1
     rw[z] at q;cases q
   ·rw[Heap.size_push] at h2
    exact Nat.le_of_succ_le h2
  ·show b≠cenv.locals
   rw[hL];exact Nat.ne_of_lt (hfp b hb).2
  ·have e:cenv.cells.lookup y=some c:=e
   rcases mem e with ⟨h1,_⟩|⟨h1,_⟩
   ·exact (hfp b hb).1.2.2.2.2.1 y c h1 z
   ·have h2:s.heap.objs.size+1≤b:=by rw[← z];exact h1
    exact absurd (Nat.lt_of_lt_of_le (hfp b hb).2 (Nat.le_of_succ_le h2)) (Nat.lt_irrefl _)
  ·rcases (hfp b hb).1.2.2.2.1 with z|z
   ·exact I.ok.noex b o e z
   ·exact absurd (Nat.lt_of_lt_of_le (Heap.lt_size e) (Nat.le_trans I.ok.bsz z)) (Nat.lt_irrefl _)
  ·rcases List.mem_cons.mp (I.stkSub b z) with z|z
   ·exact (hfp b hb).1.2.1 z
   ·exact (hfp b hb).1.2.2.1 z
 refine⟨okB,rfl,I.bare,Un.kept kp,⟨fun _=>none,?_,fun i y av e1 e2 e3=>?_⟩,fun y c e=>?_,?_,fun y c e=>?_,fun p hp=>?_,I.hok.kept kp,by rw[wipe_length];exact I.len⟩
 ·show Heap.Ns _ cenv.locals _
  rw[hL]
  exact Heap.Ns.keeps (Heap.Ns.new ..) fun b o e=>pushCells_keeps _ _ _ _ e
 ·obtain⟨e2,hne⟩:=wipe_some e2
  have hfr:scope.names.lookup y=some .free∧(cenv.kindOf y=some .cell∨cenv.kindOf y=some .free):=by
   have key:∀ k,cenv.scope.names.lookup y=some k->k=.local∨k=.cell∨k=.free->scope.names.lookup y=some .free∧(cenv.kindOf y=some .cell∨cenv.kindOf y=some .free):=fun k hk hk'=>by
    have hk0:=hk
    rw[hsc] at hk
    obtain⟨k',e,r⟩:=lookup_relS hk
    have no:¬ (k'=.local∨k'=.cell):=fun hh=>by
     rcases ok.own _ (PySem.mem_of_lookup e) hh with e'|e'
     ·obtain⟨p,hp,hpy⟩:=List.mem_map.mp e'
      have e3:=ok.ix p hp
      have:p.1=y:=hpy
      rw[this] at e3
      exact hne (List.mem_map.mpr ⟨p,hp,nodup_ix hN e3 e1⟩)
     ·exact e' (List.mem_of_getElem? e1)
    rcases r with rfl|⟨rfl,rfl⟩
    ·rcases hk' with rfl|rfl|rfl
     ·exact absurd (.inl rfl) no
     ·exact absurd (.inr rfl) no
     ·exact⟨e,.inr hk0⟩
    ·exact⟨e,.inl hk0⟩
   have e3:Vis cenv.scope y:=e3
   rcases e3 with e3|e3|e3
   ·exact key _ e3 (.inl rfl)
   ·exact key _ e3 (.inr (.inl rfl))
   ·exact key _ e3 (.inr (.inr rfl))
  obtain⟨m,hn,hl⟩:=I.loc
  have hvis:Vis X.env.scope y:=(ok.free _ (PySem.mem_of_lookup hfr.1) rfl).elim (fun k=>.inr (.inl k)) (fun k=>.inr (.inr k))
  obtain⟨w,r,q⟩:=hl i y av e1 e2 hvis
  refine⟨w,r,.inr ⟨hfr.2,?_⟩⟩
  obtain⟨c,h1,h2⟩:=look hfr.1
  rcases q with ⟨k,_⟩|⟨_,c',e',z⟩
  ·have k:X.env.scope.names.lookup y=some .local:=k
   rcases ok.free _ (PySem.mem_of_lookup hfr.1) rfl with k'|k'<;>rw[show X.env.scope.names.lookup y=_ from k'] at k<;>cases k
  ·rw[h2] at e';cases e'
   exact⟨c,h1,z.keeps kp⟩
 ·have e:cenv.cells.lookup y=some c:=e
  rcases mem e with ⟨h1,_⟩|⟨_,z⟩
  ·obtain⟨w,z⟩:=I.cell y c h1
   exact⟨w,z.keeps kp⟩
  ·exact⟨_,z⟩
 ·show H cenv.locals=none
  rw[hL];exact I.hok.fresh (Nat.le_refl _)
 ·have e:cenv.cells.lookup y=some c:=e
  rcases mem e with ⟨h1,_⟩|⟨h1,_⟩
  ·exact I.freeC y c h1
  ·exact I.hok.fresh (Nat.le_of_succ_le h1)
 ·exact absurd (show p∈([]:List (Addr × Obj))++[] from hp) (by simp)
theorem app_ok {E:Value->Shared->Prop} {D:Addr} {xs:List V} {y:V} {v:Value} {Q:Value->Shared->Prop} (I:Inv X pins σ H s) (hD:H D=some (.lst xs)) (hz:xs.length < sizeLine) (r:RelV y v)
  (h:∀ s',Inv X pins σ (upd H D (.lst (xs++[y]))) s'->Q .none s'):wpAny (model X.prog X.w) X.A (call (.builtin "list.append") [.ref D,v]) Q E s:=by
 obtain⟨hz',its,n,ri,e⟩:=I.hok D _ hD
 have hl:=ri.length
 refine append_at (hsz:=by rw[List.size_toArray];omega) e fun h' sb ho'=>?_
 refine h { s with heap:=h' } (I.write (t':=s.toks) (by rw[hD];trivial) (.inl rfl) (fun b u hb q=>(sb.2 b hb).trans q) ⟨_,ho'⟩ ⟨by rw[List.length_append];exact hz,its++[v],n+1,ri.append (.cons r .nil),?_⟩)
 rw[ho']
 simp
def PTs (X:Cx) (ifs:List Expr) (t:TT):Prop :=
 ∀ (pins:List (Addr × Obj)) (s:Shared) (σ:St) (H:Hp) (Q:Bool->Hp->Prop),Inv X pins σ H s->t σ H Q ->
  wpAny (model X.prog X.w) X.A (forIn ifs true fun c r=>if r=true then do let ok ← isTrue c X.env (eval c X.env);pure (ForInStep.yield ok) else pure (ForInStep.yield r)) (TP X pins σ Q) X.xe s
def tYes:TT:=fun _ H Q=>Q true H
theorem pts_nil:PTs X [] tYes:=fun _ _ _ H _ I h=>wpAny_tests_nil ⟨H,I,h⟩
theorem pts_one {c:Expr} {t:TT} (h:PT X c t):PTs X [c] t:=fun pins s σ H Q I hw=>wpAny_tests_one (h pins s σ H Q I hw)
end
theorem thnF {α:Type} {t:Sem α} {Q Q':α->Shared->Prop} {M:Model} {A:Around} {E:Value->Shared->Prop} {s:Shared} (h:wpAny M A t Q (fun _ _=>False) s) (hQ:∀ a s,Q a s->Q' a s):wpAny M A t Q' E s:=wpAny_mono h hQ fun _ _ z=>False.elim z
theorem compLoop_any {prog:Program} {w:World} {A:Around} {R:Result->Shared->Prop} {s:Shared} {elt target iter:Expr} {ifs:List Expr} {scope:Scope} {pos:Pos} {it acc:Value} {env:Env} (I:Nat->Shared->Prop)
  (turn:∀ n s,I n s->wpAny (model prog w) A (pyNext it) (fun r s₁=>match r with
   | none=>R (.ok .next) s₁
   | some v=>wpAny (model prog w) A (letOwnedTupleGo target it v) (fun _ s₁'=>wpAny (model prog w) A (assign target env v) (fun _ s₂ =>
     wpAny (model prog w) A (forIn ifs true fun c r=>if r=true then do let ok ← isTrue c env (eval c env);pure (ForInStep.yield ok) else pure (ForInStep.yield r)) (fun ok s₃ =>
      if ok=true then wpAny (model prog w) A (eval elt env) (fun x s₄ =>
       wpAny (model prog w) A (call (.builtin "list.append") [acc,x]) (fun _ s₅=>∃ m,m < n∧I m s₅) (notedBy (model prog w) A env fun e s'=>R (.error e) s') s₄) (notedBy (model prog w) A env fun e s'=>R (.error e) s') s₃
      else ∃ m,m < n∧I m s₃) (notedBy (model prog w) A env fun e s'=>R (.error e) s') s₂) (notedBy (model prog w) A env fun e s'=>R (.error e) s') s₁') (notedBy (model prog w) A env fun e s'=>R (.error e) s') s₁) (notedBy (model prog w) A env fun e s'=>R (.error e) s') s)
  (n:Nat) (h:I n s) :
  codeAny (model prog w) A (.compLoop (.ListComp elt [⟨target,iter,ifs,0⟩] scope pos) 0 it acc env) R s:=by
 refine codeAny_loop rfl I (fun n s hI=>?_) n h
 show wpAny _ A ((compTurn (.ListComp elt [⟨target,iter,ifs,0⟩] scope pos) 0 it acc env).onRaise (fun x=>do noteFrame x env;theTreesLotGoes x)) _ _ s
 refine wpAny_noted ?_
 rw[compTurn_list]
 refine wpAny_bind (wpAny_standAt (wpAny_bind (wpAny_mono (turn n s hI) (fun r s₁ h₁=>?_) fun _ _ h'=>h')))
 cases r with
 | none=>exact wpAny_pure h₁
 | some v =>
  refine wpAny_bind (wpAny_mono h₁ (fun _ s₁' h₁'=>?_) fun _ _ h'=>h')
  refine wpAny_bind (wpAny_mono h₁' (fun _ s₂ h₂=>wpAny_bind (wpAny_mono h₂ (fun ok s₃ h₃=>?_) fun _ _ h'=>h')) fun _ _ h'=>h')
  cases ok with
  | false=>exact wpAny_pure ⟨rfl,h₃⟩
  | true =>
   exact wpAny_bind (wpAny_bind (wpAny_mono h₃ (fun x s₄ h₄=>wpAny_bind (wpAny_mono h₄ (fun _ s₅ h₅=>wpAny_pure (wpAny_pure ⟨rfl,h₅⟩)) fun _ _ h'=>h')) fun _ _ h'=>h'))
section
variable {X:Cx}
def tLc (wi:TI) (g:TG) (tt:TT) (te:TE) (vs:List Nat):TE:=fun σ H Q=>wi σ H fun J H1=>∀ D,H1 D=none->∃ W:Nat->Nat->Hp->Prop,(∃ m,W 0 m (upd H1 D (.lst [])))∧∀ i m H,W i m H ->
 (J.stop i H∧Q (.ref D) H)∨(J.go i H∧∃ Nx:Hp->Prop,(∀ H',Nx H'->∃ m',m' < m∧W (i+1) m' H')∧∀ x H',J.yld i H x H'->g x (wipe σ vs) H' fun σ2 H2=>wipe σ2 vs=wipe σ vs∧tt σ2 H2 fun b H3 =>
  if b=true then te σ2 H3 fun y H4=>∃ acc,H4 D=some (.lst acc)∧acc.length < sizeLine∧Nx (upd H4 D (.lst (acc++[y]))) else Nx H3)
theorem lc_core {pins:List (Addr × Obj)} {s:Shared} {σ:St} {H:Hp} {Q:VK} {elt tg iter:Expr} {ifs:List Expr} {scope:Scope} {own:List (Str × Nat)} {pos pos':Pos} {wi:TI} {g:TG} {tt:TT} {te:TE} {use:Option (Value->Sem Unit)} {Qf:Value->Shared->Prop}
  (hc:X.calm=true) (hN:X.N.Nodup) (I:Inv X pins σ H s) (hi:PI X tg iter wi) (ok:BlkOk X.N X.env.scope scope own)
  (hg:∀ (s:Shared) (H:Hp) (C:Addr) (cl:List (Str × Addr)) (fp:List Addr),PG (X.blk s H scope (compEnvC scope cl C X.env) fp) tg g) (ht:∀ (s:Shared) (H:Hp) (C:Addr) (cl:List (Str × Addr)) (fp:List Addr),PTs (X.blk s H scope (compEnvC scope cl C X.env) fp) ifs tt)
  (he:∀ (s:Shared) (H:Hp) (C:Addr) (cl:List (Str × Addr)) (fp:List Addr),PE (X.blk s H scope (compEnvC scope cl C X.env) fp) elt te) (hs:∀ x,foldedSetIterable iter X.env x=pure x)
  (h:tLc wi g tt te (own.map (·.2)) σ H Q)
  (hRR:∀ D C s' m H',Inv X pins σ H' s'->Q (.ref D) H'->s'.heap.Ns C m->FpOk X pins H' C->compPost (model X.prog X.w) X.A X.xe use Qf (.ref D) C (.ok .next) s') :
  wpAny (model X.prog X.w) X.A (comprehension (.ListComp elt [⟨tg,iter,ifs,0⟩] scope pos) scope X.env pos' (newList []) false (eval iter X.env) use) Qf X.xe s:=by
 have hfree:∀ y∈scope.names,y.2=.free->∃ c,X.env.cells.lookup y.1=some c:=fun y hy e=>by
  rcases ok.free y hy e with k|k
  ·exact I.ok.has _ (.inl k)
  ·exact I.ok.has _ (.inr k)
 refine wpAny_comprehension_free (use:=use) rfl hs (closure_ok hfree) ok.kind (fun y hy e=>by rw[ok.uniq y hy,e])
  (thn (hi pins s σ H _ I h) fun xv s1 hx=>thn hx fun itv s2 h2=>?_)
 obtain⟨it,fp,tn,J,H2,e,I2,T,st2,f2,q⟩:=h2
 subst e
 refine wpAny_newObj_type (newEnv_comp ?_) (by show 0≤sizeLine;decide)
 generalize hD:s2.heap.objs.size=D
 have hDn:H2 D=none:=I2.hok.fresh (Nat.le_of_eq hD)
 obtain⟨W,⟨m0,w0⟩,turn⟩:=q D hDn
 generalize hs3:({ s2 with heap:=s2.heap.push { cls:=.type "list",data:=.seq ([]:List Value).toArray } }:Shared)=s3
 have I3:Inv X pins σ (upd H2 D (.lst [])) s3:=by
  rw[← hs3]
  refine I2.laid (t':=s2.toks) (fun b o e=>Heap.get?_push_of_some _ e) (Nat.le_of_eq hD) ⟨Nat.zero_le _,[],0,.nil,?_⟩
  rw[← hD]
  exact Heap.get?_push_size _ rfl
 have h3:s3.heap=s2.heap.push { cls:=.type "list",data:=.seq ([]:List Value).toArray }:=by rw[← hs3]
 have sz:∀ b∈fp,b < s2.heap.objs.size:=fun b hb=>by
  obtain⟨o,e,_⟩:=T.obj _ _ st2 b hb
  exact Heap.lt_size e
 have f3:∀ b∈fp,FpOk X pins (upd H2 D (.lst [])) b∧b < s3.heap.objs.size:=fun b hb=>by
  have hlt:=sz b hb
  refine⟨⟨?_,(f2 b hb).2⟩,by rw[h3,Heap.size_push];exact Nat.lt_succ_of_lt hlt⟩
  rw[k0p (by rw[← hD];exact Nat.ne_of_lt hlt)]
  exact (f2 b hb).1
 have st3:tn 0 s3.heap:=T.keep _ _ _ st2 fun b _ o e=>by rw[h3];exact Heap.get?_push_of_some _ e
 have I4:=block_start I3 ok hN f3
 have pg:=hg s3 (upd H2 D (.lst [])) s3.heap.objs.size (cellsFrom (s3.heap.objs.size+1) scope.names (cloFrom X.env.cells scope.names [])) fp
 have pt:=ht s3 (upd H2 D (.lst [])) s3.heap.objs.size (cellsFrom (s3.heap.objs.size+1) scope.names (cloFrom X.env.cells scope.names [])) fp
 have pe:=he s3 (upd H2 D (.lst [])) s3.heap.objs.size (cellsFrom (s3.heap.objs.size+1) scope.names (cloFrom X.env.cells scope.names [])) fp
 show codeAny _ _ (.compStart (.ListComp elt [⟨tg,iter,ifs,0⟩] scope pos) 0 (.ref it) (.ref D) (compEnvC scope (cellsFrom (s3.heap.objs.size+1) scope.names (cloFrom X.env.cells scope.names [])) s3.heap.objs.size X.env)) (compPost (model X.prog X.w) X.A X.xe use Qf (.ref D) s3.heap.objs.size) { s3 with heap:=pushCells (s3.heap.push { cls:=.type "dict",data:=.dict #[] }) scope.names }
 have nfp:∀ b∈fp,(upd H2 D (.lst [])) b=none:=fun b hb=>(f3 b hb).1.1
 generalize hce:compEnvC scope (cellsFrom (s3.heap.objs.size+1) scope.names (cloFrom X.env.cells scope.names [])) s3.heap.objs.size X.env=ce at I4 pg pt pe ⊢
 have cL:ce.locals=s3.heap.objs.size:=by subst hce;rfl
 generalize hH3:upd H2 D (.lst [])=H3 at I3 I4 pg pt pe w0 nfp f3
 generalize hs4:({ s3 with heap:=pushCells (s3.heap.push { cls:=.type "dict",data:=.dict #[] }) scope.names }:Shared)=s4 at I4 ⊢
 have st4:tn 0 s4.heap:=T.keep _ _ _ st3 fun b _ o e=>by rw[← hs4];exact pushCells_keeps _ _ _ _ (Heap.get?_push_of_some _ e)
 have stat:∀ {σ':St} {H':Hp} {s':Shared},Inv (X.blk s3 H3 scope ce fp) [] σ' H' s'->(∀ b∈fp,H' b=none)->∀ b∈fp,FpOk (X.blk s3 H3 scope ce fp) [] H' b:=fun {σ' H' s'} I' hn b hb =>
  ⟨hn b hb,(I'.ok.exf b hb).1,I'.ok.exfs b hb,.inl hb,fun x c e=>(I'.ok.exf b hb).2 x c e,fun p hp=>absurd (show p∈([]:List (Addr × Obj))++[] from hp) (by simp)⟩
 have loop:codeAny (model X.prog X.w) X.A (.compLoop (.ListComp elt [⟨tg,iter,ifs,0⟩] scope pos) 0 (.ref it) (.ref D) ce) (compPost (model X.prog X.w) X.A X.xe use Qf (.ref D) s3.heap.objs.size) s4:=by
  refine compLoop_any (fun n s'=>∃ i H',Inv (X.blk s3 H3 scope ce fp) [] (wipe σ (own.map (·.2))) H' s'∧tn i s'.heap∧(∀ b∈fp,H' b=none)∧W i n H') ?_ m0 ⟨0,H3,I4,st4,nfp,w0⟩
  rintro n s5 ⟨i,H5,I5,st5,n5,w5⟩
  rcases turn i n H5 w5 with ⟨stop,qq⟩|⟨go,Nx,hNx,step⟩
  ·have td:=T.done (X.blk s3 H3 scope ce fp) rfl rfl rfl hc i [] s5 _ H5 (fun _ _=>False) I5 (stat I5 n5) st5 stop
   refine thnF td fun r s6 ⟨hr,I6⟩=>?_
   subst hr
   have I7:Inv X pins σ H5 s6:=I3.call' (ch:=fp) I6.os I6.base I6.hok I6.bare fun b hb=>⟨(f3 b hb).1.2.2.2.1,(f3 b hb).1.2.1,(f3 b hb).1.2.2.2.2.1,(f3 b hb).1.2.2.2.2.2⟩
   have nC:H5 s3.heap.objs.size=none:=by
    have z:H5 ce.locals=none:=I6.free
    rw[cL] at z
    exact z
   obtain⟨m,hn,_⟩:=I6.loc
   have hn:s6.heap.Ns ce.locals m:=hn
   rw[cL] at hn
   exact hRR D s3.heap.objs.size s6 m H5 I7 qq hn (I3.fpOk (Nat.le_refl _) nC)
  ·have ti:=T.item (X.blk s3 H3 scope ce fp) rfl rfl rfl hc i [] s5 _ H5 (fun _ _=>False) I5 (stat I5 n5) st5 go
   refine thnF ti fun r s6 ⟨u,hr,h6⟩=>?_
   subst hr
   refine thnF h6 fun _ s7 ⟨x,H7,I7,r7,y7,st7,n7⟩=>?_
   have I7':=I7.pinned (stat I7 n7) (T.obj _ _ st7)
   refine thnF (pg _ s7 _ H7 x u _ I7' r7 (step x H7 y7)) fun _ s8 ⟨σ8,H8,I8,hw8,q8⟩=>?_
   refine thnF (pt _ s8 σ8 H8 _ I8 q8) fun b s9 ⟨H9,I9,q9⟩=>?_
   have fin:∀ {s':Shared} {H':Hp},Inv (X.blk s3 H3 scope ce fp) ([]++pinsAt fp s7.heap) σ8 H' s'->Nx H'->∃ m,m < n∧∃ i H',Inv (X.blk s3 H3 scope ce fp) [] (wipe σ (own.map (·.2))) H' s'∧tn i s'.heap∧(∀ b∈fp,H' b=none)∧W i m H':=fun {s' H'} I' nx=>by
    obtain⟨m',hm,w'⟩:=hNx H' nx
    have pin':∀ b∈fp,∀ o,s7.heap.get? b=some o->s'.heap.get? b=some o∧H' b=none:=fun b hb o e =>
     let z:=I'.pin (b,o) (List.mem_append_right _ (List.mem_append_right _ (mem_pinsAt hb e)))
     ⟨z.1,z.2.1⟩
    have hl:(wipe σ (own.map (·.2))).length=σ8.length:=by rw[← hw8,wipe_length]
    refine⟨m',hm,i+1,H',(I'.unpinned (pins:=[])).weak hl (fun j v e=>?_),T.keep _ _ _ st7 fun b hb o e=>(pin' b hb o e).1,fun b hb=>?_,w'⟩
    ·rw[← hw8] at e
     exact (wipe_some e).1
    ·obtain⟨o,e,_⟩:=T.obj _ _ st7 b hb
     exact (pin' b hb o e).2
   cases b with
   | false =>
    simp only[Bool.false_eq_true,if_false] at q9 ⊢
    exact fin I9 q9
   | true =>
    simp only[if_true] at q9 ⊢
    refine thnF (pe _ s9 σ8 H9 _ I9 q9) fun z s10 ⟨yv,H10,I10,r10,acc,hD10,hz10,nx⟩=>?_
    exact app_ok (X:=X.blk s3 H3 scope ce fp) I10 hD10 hz10 r10 fun s11 I11=>fin I11 nx
 exact codeAny_compStart_list loop (T.self X.A 0 _ _ _ st4 loop)
theorem pe_lc {elt tg iter:Expr} {ifs:List Expr} {scope:Scope} {own:List (Str × Nat)} {pos:Pos} {wi:TI} {g:TG} {tt:TT} {te:TE} (hc:X.calm=true) (hN:X.N.Nodup) (hi:PI X tg iter wi) (ok:BlkOk X.N X.env.scope scope own)
  (hg:∀ (s:Shared) (H:Hp) (C:Addr) (cl:List (Str × Addr)) (fp:List Addr),PG (X.blk s H scope (compEnvC scope cl C X.env) fp) tg g) (ht:∀ (s:Shared) (H:Hp) (C:Addr) (cl:List (Str × Addr)) (fp:List Addr),PTs (X.blk s H scope (compEnvC scope cl C X.env) fp) ifs tt)
  (he:∀ (s:Shared) (H:Hp) (C:Addr) (cl:List (Str × Addr)) (fp:List Addr),PE (X.blk s H scope (compEnvC scope cl C X.env) fp) elt te) (hs:∀ x,foldedSetIterable iter X.env x=pure x:=by intro _;rfl) :
  PE X (.ListComp elt [⟨tg,iter,ifs,0⟩] scope pos) (tLc wi g tt te (own.map (·.2))):=by
 intro pins s σ H Q I h
 rw[eval_ListComp]
 refine lc_core hc hN I hi ok hg ht he hs h fun D C s' m H' I' q hn f=>⟨m,hn,fun h'' sb=>?_⟩
 obtain⟨f0,f1,f2,f3,f4,f5⟩:=f
 exact⟨.ref D,H',I'.turned (t':=s'.toks) (fun b o hb e=>(sb.2 b hb).trans e) f0 f1 f3 f4 f5,rfl,q⟩
theorem ps_setLc {i:Nat} {y:Str} {py:Pos} {elt tg iter:Expr} {ifs:List Expr} {scope:Scope} {own:List (Str × Nat)} {pos spos:Pos} {wi:TI} {g:TG} {tt:TT} {te:TE} (hc:X.calm=true) (hN:X.N.Nodup) (hy:X.N[i]?=some y) (hyl:X.env.scope.names.lookup y=some .local)
  (hsw:swapsWith (.ListComp elt [⟨tg,iter,ifs,0⟩] scope pos) (some (.Name y py)) spos.line X.env=pure true) (hi:PI X tg iter wi) (ok:BlkOk X.N X.env.scope scope own)
  (hg:∀ (s:Shared) (H:Hp) (C:Addr) (cl:List (Str × Addr)) (fp:List Addr),PG (X.blk s H scope (compEnvC scope cl C X.env) fp) tg g) (ht:∀ (s:Shared) (H:Hp) (C:Addr) (cl:List (Str × Addr)) (fp:List Addr),PTs (X.blk s H scope (compEnvC scope cl C X.env) fp) ifs tt)
  (he:∀ (s:Shared) (H:Hp) (C:Addr) (cl:List (Str × Addr)) (fp:List Addr),PE (X.blk s H scope (compEnvC scope cl C X.env) fp) elt te) (hs:∀ x,foldedSetIterable iter X.env x=pure x:=by intro _;rfl) :
  PS X (.Assign [.Name y py] (.ListComp elt [⟨tg,iter,ifs,0⟩] scope pos) spos) (tAsg (tLc wi g tt te (own.map (·.2))) (gName i)):=by
 intro pins s σ H D I h
 rw[exec_Assign_Name_used _ _ _ _ hsw]
 refine wpAny_bind (wpAny_standAt (wpAny_bind ?_))
 show wpAny _ X.A (do let _ ← comprehension (.ListComp elt [⟨tg,iter,ifs,0⟩] scope pos) scope X.env (firstIterPos [⟨tg,iter,ifs,0⟩] pos) (newList []) false (eval iter X.env) (some (assign (.Name y py) X.env))) _ _ s
 have h:tLc wi g tt te (own.map (·.2)) σ H (fun x H1=>gName i x σ H1 D.nx):=h
 refine wpAny_bind (thn (lc_core (Qf:=fun _ s'=>SP X pins D .next s') hc hN I hi ok hg ht he hs h fun L C s' m H' I' q hn f=>?_) fun _ s' hq=>wpAny_pure (wpAny_pure hq))
 show wpAny _ _ (assign (.Name y py) X.env (.ref L)) _ _ _
 refine wpAny_assign_Name (store_ok2 (v:=V.ref L) I' hN hy (.inl hyl) rfl (fun s2 I2 ⟨a,sb,ha⟩=>?_) (.inr hyl))
 obtain⟨f0,f1,f2,f3,f4,f5⟩:=f
 have haC:C≠a:=by
  rcases ha with z|z
  ·rw[z];exact f1
  ·exact fun e=>f4 y a z e.symm
 refine⟨m,hn.sameBut sb haC,fun h3 sb3=>?_⟩
 exact⟨_,H',I2.turned (t':=s2.toks) (fun b o hb e=>(sb3.2 b hb).trans e) f0 f1 f3 f4 f5,q⟩
theorem sw_true {elt:Expr} {gs:List Comprehension} {scope:Scope} {pos py:Pos} {y:Str} {l:Nat} {env:Env} (hk:env.scope.kind=.function) (hy:env.scope.names.lookup y=some .local) (hl:(py.line==pos.line)=true)
  (ha:(scope.names.any fun (n,k)=>n==y&&(k==.local || k==.cell))=false):swapsWith (.ListComp elt gs scope pos) (some (.Name y py)) l env=pure true:=by
 have ky:env.kindOf y=some .local:=hy
 have hb:env.blockKind=.function:=by unfold Env.blockKind;rw[hk];rfl
 unfold swapsWith
 have p1:(Expr.Name y py).pos=py:=rfl
 have p2:(Expr.ListComp elt gs scope pos).pos=pos:=rfl
 simp only[hb,ky,ha,p1,p2,hl]
 rfl
end
def blkC (N:List Str) (sc scope:Scope) (own:List (Str × Nat)):Bool :=
 (match scope.kind with|.function=>true|_=>false)&&(scope.names.all fun y=>decide (scope.names.lookup y.1=some y.2))&&(own.all fun p=>decide (N[p.2]?=some p.1)) &&
  (scope.names.all fun y=>match y.2 with
   | .free=>(match sc.names.lookup y.1 with|some .cell=>true|some .free=>true|_=>false)
   | .local=>decide (y.1∈own.map (·.1)) || decide (y.1∉N)
   | .cell=>decide (y.1∈own.map (·.1)) || decide (y.1∉N)
   | _=>true)
theorem blkOk_by {N:List Str} {sc scope:Scope} {own:List (Str × Nat)} (h:blkC N sc scope own=true):BlkOk N sc scope own:=by
 unfold blkC at h
 simp only[Bool.and_eq_true,List.all_eq_true,decide_eq_true_eq] at h
 obtain⟨⟨⟨h1,h2⟩,h3⟩,h4⟩:=h
 refine⟨?_,h2,h3,fun y hy e=>?_,fun y hy e=>?_⟩
 ·split at h1
  ·assumption
  ·cases h1
 ·have q:=h4 y hy
  simp only[e] at q
  split at q<;>first|exact .inl (by assumption)|exact .inr (by assumption)|cases q
 ·have q:=h4 y hy
  rcases e with e|e<;>(simp only[e,Bool.or_eq_true,decide_eq_true_eq] at q;exact q)
end L2
namespace L2
open PySem PySem.Spec PyProof.Rows
structure M1 (X:Cx) (o:Expr) (m:Str) (apos:Pos) (e:Expr) (cpos:Pos):Prop where
 base:attributeBase o m X.env (eval o X.env)=eval o X.env
 few:((backTo cpos (starEach [e] X.env)).all (fun x=>!x.1)&&(backToKw cpos (keywordEach [] X.env)).all (fun x=>x.1.isSome)
  && decide (([e]:List Expr).length+([]:List Keyword).length+(if ([]:List Keyword).isEmpty then 0 else 1) < 30))=true
 line:(apos.endLine==cpos.line)=true
 trees:backTo cpos (starEach [e] X.env)=[(false,eval e X.env)]
end L2
namespace L2
open PySem PySem.Spec PyProof.Rows
section
variable {X:Cx} {pins:List (Addr × Obj)} {σ:St} {H:Hp} {s:Shared} {h':Heap}
theorem Inv.turnedL {t':Nat} {ch:List Addr} (I:Inv X pins σ H s) (k:∀ b o,b∉ch->s.heap.get? b=some o->h'.get? b=some o) (hf:∀ b∈ch,FpOk X pins H b):Inv X pins σ H { s with heap:=h',toks:=t' }:=by
 have nit:∀ b u,H b=some u->b∉ch:=fun b u e z=>by
  have q:=(hf b z).1
  rw[q] at e;cases e
 refine I.step (g':=s.gens) (d':=s.drawn) (ch:=ch) (fun b hb=>⟨(hf b hb).2.2.2.1,(hf b hb).2.1,(hf b hb).2.2.2.2.1,(hf b hb).2.2.2.2.2⟩) (fun b o _ _ hc e _=>k b o hc e) (fun b o _ _ hc e _=>⟨o.slots,k b o hc e⟩)
  (fun _ _ _ _ n=>n) (fun b o hc e=>⟨o,k b o hc e⟩) (fun _ _ e=>e) (fun _ _ _ e=>e) (fun b ps e=>⟨#[],by rw[e];simp⟩) (fun m hm=>?_) (fun b u e=>?_) I.bare
 ·obtain⟨o,es,ep,ho,r⟩:=hm
  exact⟨o,es,ep,k _ o (fun z=>(hf _ z).2.1 rfl) ho,r⟩
 ·refine (I.hok b u e).stay (fun c v hc q=>k c v ?_ q) (fun _ q=>q) fun _ _ q=>q
  rcases hc with z|z
  ·rw[z];exact nit b u e
  ·exact nit c _ z
theorem Inv.turnedNew {t':Nat} {ch:List Addr} {T:Addr} {ob:HO} (I:Inv X pins σ H s) (k:∀ b o,b∉ch->s.heap.get? b=some o->h'.get? b=some o) (hf:∀ b∈ch,FpOk X pins H b) (hT:s.heap.objs.size≤T)
  (new:ObjOk X.prog X.w (upd H T ob) h' T ob):Inv X pins σ (upd H T ob) { s with heap:=h',toks:=t' }:=by
 have hn:H T=none:=I.hok.fresh hT
 have nit:∀ b u,H b=some u->b∉ch:=fun b u e z=>by
  have q:=(hf b z).1
  rw[q] at e;cases e
 refine I.step (g':=s.gens) (d':=s.drawn) (ch:=ch) (fun b hb=>⟨(hf b hb).2.2.2.1,(hf b hb).2.1,(hf b hb).2.2.2.2.1,(hf b hb).2.2.2.2.2⟩) (fun b o _ _ hc e _=>k b o hc e) (fun b o _ _ hc e _=>⟨o.slots,k b o hc e⟩)
  (fun b o _ e n=>?_) (fun b o hc e=>⟨o,k b o hc e⟩) (fun b xs e=>?_) (fun b o u e=>?_) (fun b ps e=>⟨#[],?_⟩) (fun m hm=>?_) (fun b u e=>?_) I.bare
 ·rw[k0p (Nat.ne_of_lt (Nat.lt_of_lt_of_le (Heap.lt_size e) hT))];exact n
 ·rw[k0p (k0h e hn)];exact e
 ·rw[k0p (k0h e hn)];exact e
 ·rw[k0p (k0h e hn),e];simp
 ·obtain⟨o,es,ep,ho,r⟩:=hm
  exact⟨o,es,ep,k _ o (fun z=>(hf _ z).2.1 rfl) ho,r⟩
 ·by_cases hb:b=T
  ·subst hb
   rw[k0f] at e
   cases e
   exact new
  ·rw[k0p hb] at e
   refine (I.hok b u e).stay (fun c v hc q=>k c v ?_ q) (fun c q=>by rw[k0p (k0h q hn)];exact q) fun c xs q=>by rw[k0p (k0h q hn)];exact q
   rcases hc with z|z
   ·rw[z];exact nit b u e
   ·exact nit c _ z
end
section
variable {X:Cx}
theorem pi_one {tg:Expr} {pins:List (Addr × Obj)} {σ:St} {H:Hp} {s:Shared} {R:It->Hp->Prop} {J:It} {tn:Nat->Heap->Prop} {tk:Nat} (I:Inv X pins σ H s) (o:Obj)
  (T:Turn X.prog X.w X.K tg J [s.heap.objs.size] s.heap.objs.size tn) (st:tn 0 (s.heap.push o)) (q:R J H):PIE X pins σ tg R (.ref s.heap.objs.size) { s with heap:=s.heap.push o,toks:=tk }:=by
 refine⟨s.heap.objs.size,[s.heap.objs.size],tn,J,H,rfl,I.kept fun b ob e=>Heap.get?_push_of_some _ e,T,st,fun b hb=>?_,q⟩
 have e:b=s.heap.objs.size:=by simpa using hb
 subst e
 exact I.fpOk (Nat.le_refl _) (I.hok.fresh (Nat.le_refl _))
end
def Itc (lo c:Int) (n:Nat):It:=⟨fun i _=>i < n,fun i H x H'=>H'=H∧x=.int (lo+(i:Nat)*c),fun i _=>n≤i⟩
theorem turn_rangeC {P:Program} {w:World} {K:PySem.W.Frag} {tg:Expr} (it:Addr) (lo c:Int) (n:Nat):Turn P w K tg (Itc lo c n) [it] it (fun i h=>IsRangeIter h it (lo+(i:Nat)*c) ((n:Int) - (i:Nat)) c) where
 mem:=by simp
 obj:=fun i h st b hb=>by
  have e:b=it:=by simpa using hb
  subst e
  exact⟨_,st,fun v z=>nomatch z⟩
 keep:=fun i h h' st k=>k it (by simp) _ st
 item:=by
  intro X hP hw hK hc i pins s σ H E I hf st hg
  subst hP hw hK
  obtain⟨f0,f1,f2,f3,f4,f5⟩:=hf it (by simp)
  have W:=Walks.range (prog:=X.prog) (w:=X.w) (I.ok.hd hc) it lo c n
  refine W.item i s _ _ hg st fun v h' tk hv st' kk=>?_
  obtain⟨t,rfl⟩:=hv
  have I1:Inv X pins σ H { s with heap:=h',toks:=tk }:=I.turned (fun b o hb e=>kk b o (by simpa using hb) e) f0 f1 f3 f4 f5
  exact⟨_,rfl,go_of (s:={ s with heap:=h',toks:=tk }) (n:="range_iterator") st' rfl rfl (by decide) ⟨.int (lo+(i:Nat)*c),H,I1,⟨t,rfl⟩,⟨rfl,rfl⟩,st',fun b hb=>(hf b hb).1⟩⟩
 done:=by
  intro X hP hw hK hc i pins s σ H E I hf st hg
  subst hP hw hK
  obtain⟨f0,f1,f2,f3,f4,f5⟩:=hf it (by simp)
  exact wpAny_pyNext_range_end (I.ok.hd hc) st (by have:n≤i:=hg;omega) fun h' eb=>⟨rfl,I.turned (t':=s.toks) (fun b o hb e=>eb b o hb e) f0 f1 f3 f4 f5⟩
 self:=fun A i s Q E st h=>wpAny_pyIter_rangeiter st h
def RgC (i j c:Int) (n:Nat):Prop:=c≠0∧c.natAbs < 1073741824∧Builtin.Range.small i j c=true∧Builtin.Range.rangeSize i j c=n
theorem RgC.neg {i j:Int} (ha:-(2 ^ 62)≤i) (ha':i < 2 ^ 62) (hb:-(2 ^ 62)≤j) (hb':j < 2 ^ 62):RgC i j (-1) (i - j).toNat :=
 ⟨by decide,by decide,PySem.W.small_down ha ha' hb hb',PySem.W.rangeSize_downNat i j⟩
def iRng3 (ta:TA):TI:=fun σ H R=>ta σ H fun vs H1=>∃ (i j c:Int) (n:Nat),vs=[.int i,.int j,.int c]∧RgC i j c n∧R (Itc i c n) H1
section
variable {X:Cx} {tg:Expr}
theorem pi_range3 {a b c:Expr} {ta:TA} {p pos:Pos} (hg:Gl X "range") (hm:X.mg "range"=none) (ha:PA X [a,b,c] ta)
  (hs:starEach [a,b,c] X.env=(false,eval a X.env)::starEach [b,c] X.env:=by rfl) (hpl:(backTo pos (starEach [b,c] X.env)).any (·.1)=false:=by rfl) :
  PI X tg (.Call (.Name "range" p) [a,b,c] [] pos) (iRng3 ta):=by
 intro pins s σ H R I h
 refine Call_ (ld_blt I hg hm boot_range (PyProof.Rows.callWith_type1 (thn (ha pos pins s σ H _ I h) fun us s1 ⟨vs,H1,I1,r1,q1⟩=>?_) hs hpl))
 obtain⟨i,j,k,n,e,⟨c0,c1,c2,c3⟩,q⟩:=q1
 subst e
 cases r1 with
 | cons r rr =>
  cases rr with
  | cons r' rr =>
   cases rr with
   | cons r'' rr =>
    cases rr
    obtain⟨t,rfl⟩:=r
    obtain⟨t',rfl⟩:=r'
    obtain⟨t'',rfl⟩:=r''
    refine call_range_3 c0 ?_ (.inl (PyProof.noPylong_small c1))
    refine wpAny_pyIter_range (IsRange.new ..) c2 ?_
    have I2:Inv X pins σ H1 { s1 with heap:=s1.heap.push { cls:=.type "range",data:=.fields #[.int i t,.int j t',.int k t''] } }:=I1.kept (t':=s1.toks) fun b o e=>Heap.get?_push_of_some _ e
    refine pi_one (tk:=s1.toks) I2 _ (turn_rangeC _ i k n) ?_ q
    have e1:i+((0:Nat):Int)*k=i:=by simp
    have e2:(n:Int) - ((0:Nat):Int)=Builtin.Range.rangeSize i j k:=by rw[c3];simp
    show IsRangeIter _ _ (i+((0:Nat):Int)*k) ((n:Int) - ((0:Nat):Int)) k
    rw[e1,e2]
    exact Heap.get?_push_size _ rfl
end
theorem for_rangeC {lo c:Int} {n:Nat} {g:TG} {tb:TS} {D:Ends} {σ:St} {H:Hp} (Pv:Nat->St->Hp->Prop) (h0:Pv 0 σ H)
  (hs:∀ i σ H,i < n->Pv i σ H->g (.int (lo+(i:Nat)*c)) σ H fun σ2 H2=>tb { D with nx:=Pv (i+1),ct:=Pv (i+1),bk:=D.nx } σ2 H2) (hd:∀ σ H,Pv n σ H->D.nx σ H) :
  ∃ W:Nat->Nat->St->Hp->Prop,(∃ m,W 0 m σ H)∧∀ i m σ H,W i m σ H ->
   ((Itc lo c n).stop i H∧D.nx σ H)∨((Itc lo c n).go i H∧∃ N:St->Hp->Prop,(∀ σ' H',N σ' H'->∃ m',m' < m∧W (i+1) m' σ' H')∧∀ x H',(Itc lo c n).yld i H x H'->g x σ H' fun σ2 H2=>tb { D with nx:=N,ct:=N,bk:=D.nx } σ2 H2):=by
 refine⟨fun i m σ H=>m=n - i∧i≤n∧Pv i σ H,⟨n,by simp,Nat.zero_le _,h0⟩,?_⟩
 rintro i m σ H ⟨rfl,hi,p⟩
 by_cases hlt:i < n
 ·refine .inr ⟨hlt,Pv (i+1),fun σ' H' p'=>⟨n - (i+1),by omega,rfl,hlt,p'⟩,fun x H' y=>?_⟩
  obtain⟨e,y⟩:=y
  subst e y
  exact hs i σ _ hlt p
 ·have e:i=n:=by omega
  subst e
  exact .inl ⟨Nat.le_refl _,hd σ H p⟩
def Ite (K:PySem.W.Frag) (a:Addr):It :=
 ⟨fun i H=>∃ (xs:List V) (x:V),SqL K H a xs∧xs[i]?=some x,fun i H v H'=>∃ T x,v=.ref T∧H T=none∧H'=upd H T (.tup [.int (i:Nat),x])∧∀ xs,SqL K H a xs->xs[i]?=some x,fun i H=>∃ xs:List V,SqL K H a xs∧xs.length≤i⟩
theorem turn_enum {P:Program} {w:World} {K:PySem.W.Frag} {elts:List Expr} {kk:Nat} {tpos:Pos} (a e it:Addr) :
  Turn P w K (.Tuple elts kk tpos) (Ite K a) [e,it] e (fun i h=>(∃ old,IsEnum h e it ((i:Nat):Int) old)∧h.IsListIter it a i∧e≠it) where
 mem:=by simp
 obj:=fun i h st b hb=>by
  obtain⟨⟨old,he⟩,⟨o,ho,hc,hd⟩,_⟩:=st
  have e':b=e∨b=it:=by simpa using hb
  rcases e' with z|z
  ·rw[z];exact⟨_,he,fun v q=>nomatch q⟩
  ·rw[z];exact⟨o,ho,fun v q=>by rw[hd] at q;cases q⟩
 keep:=fun i h h' st k=>let ⟨⟨old,he⟩,hi,hne⟩:=st;⟨⟨old,k e (by simp) _ he⟩,hi.at fun o q=>k it (by simp) o q,hne⟩
 item:=by
  intro X hP hw hK hc i pins s σ H E I hf st hg
  subst hP hw hK
  obtain⟨⟨old,he⟩,hit,hne⟩:=st
  obtain⟨xs,x,hq,hx⟩:=hg
  obtain⟨its,rv,p,hz⟩:=I.list hq
  obtain⟨u,hu,ru⟩:=rv.get hx
  have hel:e < s.heap.objs.size:=Heap.lt_size he
  have hil:it < s.heap.objs.size:=by obtain⟨_,q,_⟩:=hit;exact Heap.lt_size q
  refine wpAny_pyNext_enum_item he hit p.isList (x:=u) (by simpa using hu) hne fun h' ho hit' hT hsz hk=>?_
  refine⟨_,rfl,wpAny_letOwnedTupleGo_enum (s:={ s with heap:=h',toks:=s.toks+1 }) ho fun h'' he' sb=>?_⟩
  have hT2:h''.get? s.heap.objs.size=some { cls:=.type "tuple",data:=.seq #[.int i s.toks,u] }:=(sb.2 _ (Nat.ne_of_gt hel)).trans hT
  have new:ObjOk X.prog X.w (upd H s.heap.objs.size (.tup [.int (i:Nat),x])) h'' s.heap.objs.size (.tup [.int (i:Nat),x]) :=
   ⟨by show 2≤sizeLine;decide,[.int i s.toks,u],.cons ⟨_,rfl⟩ (.cons ru .nil),⟨_,hT2,rfl,_,rfl⟩⟩
  have I1:Inv X pins σ (upd H s.heap.objs.size (.tup [.int (i:Nat),x])) { s with heap:=h'',toks:=s.toks+1 } :=
   I.turnedNew (ch:=[e,it]) (fun b ob hb q=>(sb.2 b (fun z=>hb (by simp[z]))).trans (hk b ob (fun z=>hb (by simp[z])) (fun z=>hb (by simp[z])) q)) hf (Nat.le_refl _) new
  refine⟨.ref s.heap.objs.size,_,I1,rfl,⟨_,x,rfl,I.hok.fresh (Nat.le_refl _),rfl,fun ys hy=>by rw[I.list_inj hy hq];exact hx⟩,⟨⟨u,?_⟩,hit'.at fun o q=>(sb.2 it (Ne.symm hne)).trans q,hne⟩,fun b hb=>?_⟩
  ·have e1:((i+1:Nat):Int)=(i:Int)+1:=by omega
   rw[e1];exact he'
  ·have hb':b < s.heap.objs.size:=by
    have e':b=e∨b=it:=by simpa using hb
    rcases e' with z|z
    ·rw[z];exact hel
    ·rw[z];exact hil
   rw[k0p (Nat.ne_of_lt hb')]
   exact (hf b hb).1
 done:=by
  intro X hP hw hK hc i pins s σ H E I hf st hg
  subst hP hw hK
  obtain⟨⟨old,he⟩,hit,hne⟩:=st
  obtain⟨xs,hq,hx⟩:=hg
  obtain⟨its,rv,p,hz⟩:=I.list hq
  obtain⟨f0,f1,f2,f3,f4,f5⟩:=hf it (by simp)
  have hl:=rv.length
  exact wpAny_pyNext_enum_end (I.ok.hd hc) he hit p.isList (by simp;omega) fun h' eb=>⟨rfl,I.turned (t':=s.toks) (fun b o hb q=>eb b o hb q) f0 f1 f3 f4 f5⟩
 self:=fun A i s Q E st h=>let ⟨⟨_,he⟩,_⟩:=st;wpAny_pyIter_enum he h
def iEnum (K:PySem.W.Frag) (ta:TA):TI:=fun σ H R=>ta σ H fun vs H1=>∃ a xs,vs=[.ref a]∧SqL K H1 a xs∧R (Ite K a) H1
theorem pi_enum {X:Cx} {e:Expr} {ta:TA} {p pos tpos:Pos} {elts:List Expr} {kk:Nat} (hg:Gl X "enumerate") (hm:X.mg "enumerate"=none) (ha:PA X [e] ta) (hs:starEach [e] X.env=[(false,eval e X.env)]:=by rfl) :
  PI X (.Tuple elts kk tpos) (.Call (.Name "enumerate" p) [e] [] pos) (iEnum X.K ta):=by
 intro pins s σ H R I h
 refine Call_ (ld_blt I hg hm boot_enumerate (PyProof.Rows.callWith_type1 (thn (ha pos pins s σ H _ I h) fun us s1 ⟨vs,H1,I1,r1,q1⟩=>?_) hs rfl))
 obtain⟨a,xs,ex,hq,q⟩:=q1
 subst ex
 cases r1 with
 | cons r rr =>
  cases rr
  cases r
  obtain⟨its,rv,p',hz⟩:=I1.list hq
  refine call_enumerate_list p'.isList fun h' he hit hsz hk=>wpAny_pyIter_enum he ?_
  have I2:Inv X pins σ H1 { s1 with heap:=h' }:=I1.kept (t':=s1.toks) hk
  refine⟨s1.heap.objs.size+1,[s1.heap.objs.size+1,s1.heap.objs.size],_,_,H1,rfl,I2,turn_enum a (s1.heap.objs.size+1) s1.heap.objs.size,⟨⟨.none,he⟩,hit,Nat.succ_ne_self _⟩,fun b hb=>?_,q⟩
  have e':b=s1.heap.objs.size+1∨b=s1.heap.objs.size:=by simpa using hb
  have hle:s1.heap.objs.size≤b:=by
   rcases e' with z|z
   ·rw[z];exact Nat.le_add_right _ _
   ·rw[z];exact Nat.le_refl _
  exact I1.fpOk hle (I1.hok.fresh hle)
theorem boot_zip5:bootBuiltins "zip"=some (.type "zip"):=by decide +kernel
def Itz (K:PySem.W.Frag) (a b:Addr):It :=
 ⟨fun i H=>∃ (xs ys:List V) (x y:V),SqL K H a xs∧SqL K H b ys∧xs[i]?=some x∧ys[i]?=some y,
  fun i H v H'=>∃ T x y,v=.ref T∧H T=none∧H'=upd H T (.tup [x,y])∧(∀ xs,SqL K H a xs->xs[i]?=some x)∧∀ ys,SqL K H b ys->ys[i]?=some y,
  fun i H=>∃ xs ys:List V,SqL K H a xs∧SqL K H b ys∧(xs.length≤i∨ys.length≤i)⟩
theorem turn_zip {P:Program} {w:World} {K:PySem.W.Frag} {elts:List Expr} {kk:Nat} {tpos:Pos} {a b z TI TO i1 i2:Addr} (D:ZipApart z TI TO i1 i2 a b) :
  Turn P w K (.Tuple elts kk tpos) (Itz K a b) [z,TI,TO,i1,i2] z (fun i h=>IsZip h z TI TO .none∧IsPair h TI (.ref i1) (.ref i2)∧(∃ x y,IsPair h TO x y)∧h.IsListIter i1 a i∧h.IsListIter i2 b i) where
 mem:=by simp
 obj:=fun i h st c hc=>by
  obtain⟨hz,hTI,⟨x,y,hTO⟩,⟨o1,e1,_,d1⟩,⟨o2,e2,_,d2⟩⟩:=st
  have e':c=z∨c=TI∨c=TO∨c=i1∨c=i2:=by simpa using hc
  rcases e' with q|q|q|q|q
  ·rw[q];exact⟨_,hz,fun v q=>nomatch q⟩
  ·rw[q];exact⟨_,hTI,fun v q=>nomatch q⟩
  ·rw[q];exact⟨_,hTO,fun v q=>nomatch q⟩
  ·rw[q];exact⟨o1,e1,fun v q=>by rw[d1] at q;cases q⟩
  ·rw[q];exact⟨o2,e2,fun v q=>by rw[d2] at q;cases q⟩
 keep:=fun i h h' st k=>by
  obtain⟨hz,hTI,⟨x,y,hTO⟩,h1,h2⟩:=st
  exact⟨k z (by simp) _ hz,k TI (by simp) _ hTI,⟨x,y,k TO (by simp) _ hTO⟩,h1.at fun o q=>k i1 (by simp) o q,h2.at fun o q=>k i2 (by simp) o q⟩
 item:=by
  intro X hP hw hK hc i pins s σ H E I hf st hg
  subst hP hw hK
  obtain⟨hz,hTI,⟨x0,y0,hTO⟩,h1,h2⟩:=st
  obtain⟨xs,ys,x,y,hqx,hqy,hx,hy⟩:=hg
  obtain⟨its,rv,p,_⟩:=I.list hqx
  obtain⟨its2,rv2,p2,_⟩:=I.list hqy
  obtain⟨u,hu,ru⟩:=rv.get hx
  obtain⟨u2,hu2,ru2⟩:=rv2.get hy
  have hzl:z < s.heap.objs.size:=Heap.lt_size hz
  refine wpAny_pyNext_zip_item D hz hTI hTO h1 h2 p.isList p2.isList (x:=u) (y:=u2) (by simpa using hu) (by simpa using hu2) fun h' z' TO' h1' h2' hT hsz hk=>?_
  refine⟨_,rfl,wpAny_letOwnedTupleGo_zip (s:={ s with heap:=h' }) z' fun h'' z'' sb=>?_⟩
  have hT2:h''.get? s.heap.objs.size=some { cls:=.type "tuple",data:=.seq #[u,u2] }:=(sb.2 _ (Nat.ne_of_gt hzl)).trans hT
  have new:ObjOk X.prog X.w (upd H s.heap.objs.size (.tup [x,y])) h'' s.heap.objs.size (.tup [x,y]) :=
   ⟨by show 2≤sizeLine;decide,[u,u2],.cons ru (.cons ru2 .nil),⟨_,hT2,rfl,_,rfl⟩⟩
  have I1:Inv X pins σ (upd H s.heap.objs.size (.tup [x,y])) { s with heap:=h'' } :=
   I.turnedNew (t':=s.toks) (ch:=[z,TI,TO,i1,i2]) (fun c o hb q=>(sb.2 c (fun q'=>hb (by simp[q']))).trans (hk c o (fun q'=>hb (by simp[q'])) (fun q'=>hb (by simp[q'])) (fun q'=>hb (by simp[q'])) (fun q'=>hb (by simp[q'])) q)) hf (Nat.le_refl _) new
  refine⟨.ref s.heap.objs.size,_,I1,rfl,⟨_,x,y,rfl,I.hok.fresh (Nat.le_refl _),rfl,fun l hl=>by rw[I.list_inj hl hqx];exact hx,fun l hl=>by rw[I.list_inj hl hqy];exact hy⟩,⟨z'',?_,⟨u,u2,?_⟩,?_,?_⟩,fun c hcm=>?_⟩
  ·exact (sb.2 _ D.TIz).trans (hk _ _ D.TIz D.TITO D.TIi1 D.TIi2 hTI)
  ·exact (sb.2 _ D.TOz).trans TO'
  ·exact h1'.at fun o q=>(sb.2 _ D.i1z).trans q
  ·exact h2'.at fun o q=>(sb.2 _ D.i2z).trans q
  ·have hlt:c < s.heap.objs.size:=by
    have e':c=z∨c=TI∨c=TO∨c=i1∨c=i2:=by simpa using hcm
    rcases e' with q|q|q|q|q
    ·rw[q];exact hzl
    ·rw[q];exact Heap.lt_size hTI
    ·rw[q];exact Heap.lt_size hTO
    ·rw[q];obtain⟨_,e1,_⟩:=h1;exact Heap.lt_size e1
    ·rw[q];obtain⟨_,e2,_⟩:=h2;exact Heap.lt_size e2
   rw[k0p (Nat.ne_of_lt hlt)]
   exact (hf c hcm).1
 done:=by
  intro X hP hw hK hc i pins s σ H E I hf st hg
  subst hP hw hK
  obtain⟨hz,hTI,⟨x0,y0,hTO⟩,h1,h2⟩:=st
  obtain⟨xs,ys,hqx,hqy,hend⟩:=hg
  obtain⟨its,rv,p,_⟩:=I.list hqx
  obtain⟨its2,rv2,p2,_⟩:=I.list hqy
  have l1:=rv.length
  have l2:=rv2.length
  have he:its.toArray[i]?=none∨its2.toArray[i]?=none:=by
   rcases hend with q|q
   ·exact .inl (by simp;omega)
   ·exact .inr (by simp;omega)
  exact wpAny_pyNext_zip_end (I.ok.hd hc) D hz hTI hTO h1 h2 p.isList p2.isList he fun h' hk=>⟨rfl,I.turnedL (t':=s.toks) (ch:=[z,TI,TO,i1,i2]) (fun c o hb q =>
   hk c o (fun q'=>hb (by simp[q'])) (fun q'=>hb (by simp[q'])) (fun q'=>hb (by simp[q'])) (fun q'=>hb (by simp[q'])) q) hf⟩
 self:=fun A i s Q E st h=>wpAny_pyIter_zip st.1 h
def iZip (K:PySem.W.Frag) (ta:TA):TI:=fun σ H R=>ta σ H fun vs H1=>∃ a b xs ys,vs=[.ref a,.ref b]∧SqL K H1 a xs∧SqL K H1 b ys∧R (Itz K a b) H1
theorem pi_zip {X:Cx} {e e2:Expr} {ta:TA} {p pos tpos:Pos} {elts:List Expr} {kk:Nat} (hg:Gl X "zip") (hm:X.mg "zip"=none) (ha:PA X [e,e2] ta)
  (hs:starEach [e,e2] X.env=(false,eval e X.env)::starEach [e2] X.env:=by rfl) (hpl:(backTo pos (starEach [e2] X.env)).any (·.1)=false:=by rfl) :
  PI X (.Tuple elts kk tpos) (.Call (.Name "zip" p) [e,e2] [] pos) (iZip X.K ta):=by
 intro pins s σ H R I h
 refine Call_ (ld_blt I hg hm boot_zip5 (PyProof.Rows.callWith_type1 (thn (ha pos pins s σ H _ I h) fun us s1 ⟨vs,H1,I1,r1,q1⟩=>?_) hs hpl))
 obtain⟨a,b,xs,ys,ex,hqx,hqy,q⟩:=q1
 subst ex
 cases r1 with
 | cons r rr =>
  cases rr with
  | cons r' rr =>
   cases rr
   cases r
   cases r'
   obtain⟨its,rv,p1,_⟩:=I1.list hqx
   obtain⟨its2,rv2,p2,_⟩:=I1.list hqy
   have la:a < s1.heap.objs.size:=p1.lt
   have lb:b < s1.heap.objs.size:=p2.lt
   refine call_zip_2 p1.isList p2.isList fun h' hz hTI hTO h1 h2 hsz hk=>wpAny_pyIter_zip hz ?_
   have I2:Inv X pins σ H1 { s1 with heap:=h' }:=I1.kept (t':=s1.toks) hk
   refine⟨s1.heap.objs.size+4,[s1.heap.objs.size+4,s1.heap.objs.size+2,s1.heap.objs.size+3,s1.heap.objs.size,s1.heap.objs.size+1],_,_,H1,rfl,I2,turn_zip (PySem.W.ktu_apart s1.heap.objs.size a b la lb),⟨hz,hTI,⟨_,_,hTO⟩,h1,h2⟩,fun c hcm=>?_,q⟩
   have e':c=s1.heap.objs.size+4∨c=s1.heap.objs.size+2∨c=s1.heap.objs.size+3∨c=s1.heap.objs.size∨c=s1.heap.objs.size+1:=by simpa using hcm
   have hle:s1.heap.objs.size≤c:=by
    rcases e' with z|z|z|z|z
    ·rw[z];exact Nat.le_add_right _ _
    ·rw[z];exact Nat.le_add_right _ _
    ·rw[z];exact Nat.le_add_right _ _
    ·rw[z];exact Nat.le_refl _
    ·rw[z];exact Nat.le_add_right _ _
   exact I1.fpOk hle (I1.hok.fresh hle)
end L2
section
namespace TL
open PySem PySem.Builtin PySem.Builtin.Str PySem.StrLaws
abbrev tl (x:Str):List Nat:=x.cps.toList
def pre (S l:List Nat):Bool:=l.take S.length==S
def par (S:List Nat):List Nat->List Nat->Option (List Nat × List Nat)
 | _,[]=>none
 | acc,c::r=>if pre S (c::r)=true then some (acc,(c::r).drop S.length) else par S (acc++[c]) r
end TL
end
namespace L2
open PySem PySem.Spec PyProof.Rows
abbrev KOf {K:PySem.W.Frag} {h:Heap} (_:K.In h):PySem.W.Frag:=K
end L2
namespace L2
open PySem PySem.Spec PyProof.Rows
def inClass (s:Stmt) (j:Nat):Stmt:=match s with
 | .ClassDef _ _ _ body _ _ _ _ _ _ _=>body.getD j (.Pass ⟨0,0,0,0⟩)
 | _=>.Pass ⟨0,0,0,0⟩
def defArgs (s:Stmt):Arguments:=match s with
 | .FunctionDef _ a _ _ _ _ _ _ _ _=>a
 | _=>{ posonlyargs:=[],args:=[],vararg:=none,kwonlyargs:=[],kw_defaults:=[],kwarg:=none,defaults:=[] }
def defBody (s:Stmt):List Stmt:=match s with
 | .FunctionDef _ _ b _ _ _ _ _ _ _=>b
 | _=>[]
def k0m (s:Stmt):Scope:=match s with
 | .FunctionDef _ _ _ _ _ _ sc _ _ _=>sc
 | _=>{ kind:=.function,names:=[],isGenerator:=false,isCoroutine:=false }
abbrev CX0:CXT:=fun _ _ _ _ _ _=>False
abbrev E0:XK:=fun _ _ _=>False
theorem pass0 {X:Cx}:Passes CX0 X E0:=fun _ _ _ _ _ _ _ h=>h.elim
structure Fun (K:PySem.W.Frag) (x qual:Str) (st:Stmt) (f:Addr) (fd:FuncData):Prop where
 ex:∃ (oc:Value) (od:Option Addr) (kV doc pm:Value) (an:Option Addr) (cdv ct:Value) (osl:Array (Option Value)),
  fd=PySem.W.fnOf x qual (defArgs st) (defBody st) (k0m st) .none kV doc pm an cdv ct∧K.lookup f=some ⟨oc,od,.func fd,osl⟩∧PySem.W.codeIn K cdv qual=true
 kp:PySem.W.keepIn K (.ref f)=true
section
variable {P:Program} {w:World} {K:PySem.W.Frag} {mg:Str->Option Value} {base:Heap}
theorem Fun.ok {x qual:Str} {st:Stmt} {f:Addr} {fd:FuncData} {N ps:List Str} {k:Nat} {sp:Sp} (F:Fun K x qual st f fd) (S:FnScope N ps (k0m st)) (len:∀ vs H Q E,sp vs H Q E->vs.length=ps.length)
  (hbody:∀ (cdv:Value) (A:Around) (outer:List Env) (s:Shared) (H:Hp) (vs:List V) (Q:VK) (E:XK),Room k (A.deeper (envOfC qual (k0m st) s.heap.objs.size f cdv))->sp vs H Q E ->
   ∃ t,PSs (cxOf CX0 P w K mg base N qual (k0m st) f cdv A outer s H E).nox (defBody st) t∧t { nx:=fun _ H'=>Q .non H',rt:=Q } (start N vs) H):FnOk P w K mg base CX0 (k+1) f fd ps sp:=by
 obtain⟨oc,od,kV,doc,pm,an,cdv,ct,osl,rfl,lk,hcd⟩:=F.ex
 refine fn_of lk hcd S len fun A outer s H vs Q E hr hsp=>?_
 obtain⟨t,h,q⟩:=hbody cdv A outer s H vs Q E hr hsp
 exact⟨t,h.nox,q⟩
theorem Fun.binds {x qual:Str} {st:Stmt} {f:Addr} {fd:FuncData} {ps:List Str} (F:Fun K x qual st f fd)
  (h:∀ (kV doc pm:Value) (an:Option Addr) (cdv ct:Value) (us:List Value),us.length=ps.length->bindArgs (PySem.W.fnOf x qual (defArgs st) (defBody st) (k0m st) .none kV doc pm an cdv ct) ⟨us,[]⟩=pure (ps.zip us)):Binds K fd ps []:=by
 obtain⟨oc,od,kV,doc,pm,an,cdv,ct,osl,rfl,lk,hcd⟩:=F.ex
 exact .all (h kV doc pm an cdv ct)
theorem fun_mk {x qual:Str} {st:Stmt} {f:Addr} {oc:Value} {od an:Option Addr} {osl:Array (Option Value)} {kV doc pm cdv ct:Value} (l:K.lookup f=some ⟨oc,od,.func (PySem.W.fnOf x qual (defArgs st) (defBody st) (k0m st) .none kV doc pm an cdv ct),osl⟩)
  (c:PySem.W.codeIn K cdv qual=true) (k:PySem.W.keepIn K (.ref f)=true):Fun K x qual st f (PySem.W.fnOf x qual (defArgs st) (defBody st) (k0m st) .none kV doc pm an cdv ct):=⟨⟨oc,od,kV,doc,pm,an,cdv,ct,osl,rfl,l,c⟩,k⟩
end
section
variable {X:Cx}
theorem pv (i:Nat) {x:Str} {pos:Pos} (hN:X.N[i]?=some x:=by rfl) (hv:Vis X.env.scope x:=by first|exact Or.inl rfl|exact Or.inr (Or.inl rfl)|exact Or.inr (Or.inr rfl)) (hd:(x==("__debug__":Str))=false:=by decide)
  (hcd:(x==("__classdict__":Str))=false:=by decide):PE X (.Name x pos) (tVar i):=pe_var hN hv hd hcd
end
theorem iteF {A B:Prop} (h:B):if false=true then A else B:=by
 rw[if_neg Bool.false_ne_true]
 exact h
theorem iteT {A B:Prop} (h:A):if true=true then A else B:=by
 rw[if_pos rfl]
 exact h
theorem ite2 {c A B:Prop} [Decidable c] (h1:c->A) (h2:¬ c->B):if c then A else B:=by
 by_cases h:c
 ·rw[if_pos h]
  exact h1 h
 ·rw[if_neg h]
  exact h2 h
def Same (H H':Hp):Prop:=∀ b o,H b=some o->H' b=some o
theorem Same.trans {H H1 H2:Hp} (a:Same H H1) (b:Same H1 H2):Same H H2:=fun c o h=>b c o (a c o h)
theorem Same.free {H H':Hp} (e:Same H H') {l:Addr} (h:H' l=Option.none):H l=Option.none:=by
 cases q:H l with
 | none=>rfl
 | some o =>
  rw[e l o q] at h
  cases h
theorem Same.seq {K:PySem.W.Frag} {H H':Hp} {a:Addr} {xs:List V} (e:Same H H') (h:SqL K H a xs):SqL K H' a xs:=by
 rcases h with (h|⟨o,h⟩)|h
 ·exact .inl (.inl (e _ _ h))
 ·exact .inl (.inr ⟨o,e _ _ h⟩)
 ·exact .inr h
end L2
end
section
section
namespace L2
open PySem PySem.Spec PyProof.Rows
open PySem.W (WData Codec OpenSpec Well WellAll ReadsW ReadsAllW)
mutual
inductive Dw (K:PySem.W.Frag) (H:Hp):V->WData->Prop
 | non:Dw K H .non .none
 | bl (b:Bool):Dw K H (.bl b) (.bool b)
 | int (i:Int):Dw K H (.int i) (.int i)
 | str (x:Str):Dw K H (.str x) (.str x)
 | byt (b:Array UInt8):Dw K H (.byt b) (.bytes b.toList)
 | lst {a:Addr} {xs:List V} {ds:List WData}:SqL K H a xs->DwAll K H xs ds->Dw K H (.ref a) (.list ds)
 | tup {a:Addr} {xs:List V} {ds:List WData}:SqT K H a xs->DwAll K H xs ds->Dw K H (.ref a) (.tuple ds)
inductive DwAll (K:PySem.W.Frag) (H:Hp):List V->List WData->Prop
 | nil:DwAll K H [] []
 | cons {v:V} {vs:List V} {d:WData} {ds:List WData}:Dw K H v d->DwAll K H vs ds->DwAll K H (v::vs) (d::ds)
end
theorem dw_ints {K:PySem.W.Frag} {H:Hp}:∀ ns:List Int,DwAll K H (ns.map V.int) (ns.map WData.int)
 | []=>.nil
 | n::r=>.cons (.int n) (dw_ints r)
theorem ints_dw {K:PySem.W.Frag} {H:Hp}:∀ (ns:List Int) (xs:List V),DwAll K H xs (ns.map WData.int)->xs=ns.map V.int
 | [],xs,h=>by
  cases h
  rfl
 | n::r,xs,h=>by
  cases h with
  | cons h1 h2 =>
   cases h1
   rw[ints_dw r _ h2]<;>rfl
section
variable {P:Program} {w:World} {K:PySem.W.Frag} {H:Hp} {h:Heap} {R:PySem.W.WRecords} {cl:Str->Option Addr}
theorem sqL_at {a:Addr} {xs:List V} (hok:HOk P w H h) (KX:K.In h) (q:SqL K H a xs):∃ (its:List Value) (o:Obj) (n:Nat),Vals xs its∧h.get? a=some o∧o.cls=.type "list"∧o.data=.seq its.toArray n:=by
 rcases q with q|⟨o,its,n,e,hc,_,hd,_,hv⟩
 ·obtain⟨_,its,n,hv,e⟩:=(show ObjOk P w H h a (.lst xs) from q.ok hok)
  exact⟨its,_,n,hv,e,rfl,rfl⟩
 ·exact⟨its.toList,o,n,hv,KX _ _ e,hc,by simp[hd]⟩
theorem sqT_at {a:Addr} {xs:List V} (hok:HOk P w H h) (KX:K.In h) (q:SqT K H a xs):∃ (its:List Value) (o:Obj) (n:Nat),Vals xs its∧h.get? a=some o∧o.cls=.type "tuple"∧o.data=.seq its.toArray n:=by
 rcases q with q|⟨o,its,n,e,hc,hd,_,hv⟩
 ·obtain⟨_,its,hv,o,e,hc,n,hd⟩:=(show ObjOk P w H h a (.tup xs) from q.ok hok)
  exact⟨its,o,n,hv,e,hc,hd⟩
 ·exact⟨its.toList,o,n,hv,KX _ _ e,hc,by simp[hd]⟩
mutual
theorem Dw.reads (hok:HOk P w H h) (KX:K.In h):∀ (d:WData) (v:V) (u:Value),Dw K H v d->RelV v u->∃ as,ReadsW R cl h u d as
 | .none,_,_,x,r=>by
  cases x
  cases r
  exact⟨_,ReadsW.none⟩
 | .bool b,_,_,x,r=>by
  cases x
  cases r
  exact⟨_,ReadsW.bool b⟩
 | .int i,_,_,x,r=>by
  cases x
  obtain⟨t,rfl⟩:=r
  exact⟨_,ReadsW.int i t⟩
 | .str s,_,_,x,r=>by
  cases x
  obtain⟨t,rfl⟩:=r
  exact⟨_,ReadsW.str s t⟩
 | .bytes b,_,_,x,r=>by
  cases x
  obtain⟨t,rfl⟩:=r
  exact⟨_,ReadsW.bytes _ t⟩
 | .list ds,_,_,x,r=>by
  cases x with
  | lst hs ha =>
   cases r
   obtain⟨its,o,n,rv,ho,hc,hd⟩:=sqL_at hok KX hs
   obtain⟨as,hr⟩:=Dw.readsAll hok KX ds _ its ha rv
   exact⟨_,ReadsW.list ho hc hd hr⟩
 | .tuple ds,_,_,x,r=>by
  cases x with
  | tup hs ha =>
   cases r
   obtain⟨its,o,n,rv,ho,hc,hd⟩:=sqT_at hok KX hs
   obtain⟨as,hr⟩:=Dw.readsAll hok KX ds _ its ha rv
   exact⟨_,ReadsW.tuple ho hc hd hr⟩
 | .float _,_,_,x,_=>by cases x
 | .dict _,_,_,x,_=>by cases x
 | .bytearray _,_,_,x,_=>by cases x
 | .set _,_,_,x,_=>by cases x
 | .frozenset _,_,_,x,_=>by cases x
 | .obj _ _,_,_,x,_=>by cases x
theorem Dw.readsAll (hok:HOk P w H h) (KX:K.In h):∀ (ds:List WData) (vs:List V) (us:List Value),DwAll K H vs ds->Vals vs us->∃ as,ReadsAllW R cl h us ds as
 | [],_,_,x,r=>by
  cases x
  cases r
  exact⟨_,ReadsAllW.nil⟩
 | d::ds,_,_,x,r=>by
  cases x with
  | cons h1 h2 =>
   cases r with
   | cons r1 r2 =>
    obtain⟨as,q1⟩:=Dw.reads hok KX d _ _ h1 r1
    obtain⟨bs,q2⟩:=Dw.readsAll hok KX ds _ _ h2 r2
    exact⟨_,ReadsAllW.cons q1 q2⟩
end
end
mutual
def plW:WData->Bool
 | .none=>true
 | .bool _=>true
 | .int _=>true
 | .str _=>true
 | .bytes _=>true
 | .list xs=>plWs xs
 | .tuple xs=>plWs xs
 | _=>false
def plWs:List WData->Bool
 | []=>true
 | x::r=>plW x&&plWs r
end
theorem plWs_map {α:Type} {f:α->WData} (h:∀ a,plW (f a)=true):∀ l:List α,plWs (l.map f)=true
 | []=>rfl
 | x::r=>by
  show (plW (f x)&&plWs (r.map f))=true
  rw[h x,plWs_map h r]<;>rfl
theorem pl_enc:∀ (c:Codec) (a:c.denote),plW (c.enc a)=true
 | .unit,_=>rfl
 | .bool,_=>rfl
 | .int _ _,_=>rfl
 | .nat _ _,_=>rfl
 | .u8,_=>rfl
 | .bytes _ _,_=>rfl
 | .text _ _ _ _,_=>rfl
 | .list _ _ c,a=>plWs_map (fun x=>pl_enc c x) a
 | .pair c d,a=>by
  show (plW (c.enc a.1)&&(plW (d.enc a.2)&&true))=true
  rw[pl_enc c a.1,pl_enc d a.2]<;>rfl
 | .triple c d e,a=>by
  show (plW (c.enc a.1)&&(plW (d.enc a.2.1)&&(plW (e.enc a.2.2)&&true)))=true
  rw[pl_enc c a.1,pl_enc d a.2.1,pl_enc e a.2.2]<;>rfl
 | .option c,none=>rfl
 | .option c,some x=>pl_enc c x
theorem pl_encAll:∀ (cs:List Codec) (a:Codec.denoteAll cs),plWs (Codec.encAll cs a)=true
 | [],_=>rfl
 | c::cs,a=>by
  show (plW (c.enc a.1)&&plWs (Codec.encAll cs a.2))=true
  rw[pl_enc c a.1,pl_encAll cs a.2]<;>rfl
theorem weight_mem:∀ {xs:List WData} {d:WData},d∈xs->d.weight≤WData.weightAll xs
 | [],d,h=>absurd h (by simp)
 | x::r,d,h=>by
  show d.weight≤x.weight+1+WData.weightAll r
  rcases List.mem_cons.mp h with e|m
  ·rw[e]
   omega
  ·have z:=weight_mem m
   omega
def toV:Value->V
 | .none=>.non
 | .bool b=>.bl b
 | .int i _=>.int i
 | .str x _=>.str x
 | .bytes b _=>.byt b
 | .ref a=>.ref a
 | _=>.non
def OkU (A:List Addr):Value->Prop
 | .none=>True
 | .bool _=>True
 | .int _ _=>True
 | .str _ _=>True
 | .bytes _ _=>True
 | .ref a=>a∈A
 | _=>False
theorem OkU.mono {A B:List Addr} (h:∀ a∈A,a∈B):∀ {u:Value},OkU A u->OkU B u:=fun {u} x=>by
 cases u with
 | ref a=>exact h a x
 | none=>trivial
 | bool b=>trivial
 | int i t=>trivial
 | str s t=>trivial
 | bytes b t=>trivial
 | _=>exact False.elim x
theorem relV_toV {A:List Addr} {u:Value} (x:OkU A u):RelV (toV u) u:=by
 cases u with
 | ref a=>rfl
 | none=>rfl
 | bool b=>rfl
 | int i t=>exact⟨t,rfl⟩
 | str s t=>exact⟨t,rfl⟩
 | bytes b t=>exact⟨t,rfl⟩
 | _=>exact False.elim x
theorem vals_toV {A:List Addr}:∀ {vs:List Value},(∀ u∈vs,OkU A u)->Vals (vs.map toV) vs
 | [],_=>.nil
 | u::r,h=>.cons (relV_toV (h u (List.mem_cons_self ..))) (vals_toV fun x hx=>h x (List.mem_cons_of_mem _ hx))
def ArgOb (h:Heap) (A:List Addr) (a:Addr):Prop:=∃ vs:List Value,vs.length≤sizeLine∧(∀ u∈vs,OkU A u) ∧
 (h.get? a=some { cls:=.type "list",data:=.seq vs.toArray }∨h.get? a=some { cls:=.type "tuple",data:=.seq vs.toArray })
theorem ArgOb.mono {h:Heap} {A B:List Addr} {a:Addr} (k:∀ a∈A,a∈B) (x:ArgOb h A a):ArgOb h B a:=by
 obtain⟨vs,h1,h2,h3⟩:=x
 exact⟨vs,h1,fun u hu=>(h2 u hu).mono k,h3⟩
theorem wellAll_len {P:Params} {h:Heap}:∀ {vs:List Value} {ds:List WData},WellAll P h vs ds->vs.length=ds.length
 | _,_,.nil=>rfl
 | _,_,.cons _ b=>by
  show _+1=_+1
  rw[wellAll_len b]
theorem well_list {P:Params} {h:Heap} {v:Value} {ds:List WData} (x:Well P h v (.list ds)):∃ (a:Addr) (vs:List Value),v=.ref a∧h.get? a=some { cls:=.type "list",data:=.seq vs.toArray }∧WellAll P h vs ds:=by
 cases x with
 | list ho hall=>exact⟨_,_,rfl,ho,hall⟩
theorem well_tuple {P:Params} {h:Heap} {v:Value} {ds:List WData} (x:Well P h v (.tuple ds)):∃ (a:Addr) (vs:List Value),v=.ref a∧h.get? a=some { cls:=.type "tuple",data:=.seq vs.toArray }∧WellAll P h vs ds:=by
 cases x with
 | tuple ho hall=>exact⟨_,_,rfl,ho,hall⟩
theorem well_cons {P:Params} {h:Heap} {us:List Value} {d:WData} {ds:List WData} (x:WellAll P h us (d::ds)):∃ (v:Value) (vs:List Value),us=v::vs∧Well P h v d∧WellAll P h vs ds:=by
 cases x with
 | cons a b=>exact⟨_,_,rfl,a,b⟩
theorem line_of {n:Nat} (h:n≤1048576):n≤sizeLine:=Nat.le_trans h (by decide)
section
variable {P:Params} {h:Heap}
mutual
theorem area_one:∀ (d:WData) (v:Value),Well P h v d->plW d=true->d.weight≤1048576->∃ A:List Addr,OkU A v∧∀ a∈A,ArgOb h A a
 | .none,_,x,_,_=>by
  cases x
  exact⟨[],trivial,fun a m=>absurd m (by simp)⟩
 | .bool b,_,x,_,_=>by
  cases x
  exact⟨[],trivial,fun a m=>absurd m (by simp)⟩
 | .int i,_,x,_,_=>by
  cases x
  exact⟨[],trivial,fun a m=>absurd m (by simp)⟩
 | .str s,_,x,_,_=>by
  cases x
  exact⟨[],trivial,fun a m=>absurd m (by simp)⟩
 | .bytes b,_,x,_,_=>by
  cases x
  exact⟨[],trivial,fun a m=>absurd m (by simp)⟩
 | .list ds,_,x,p,z=>by
  obtain⟨a,vs,rfl,ho,hall⟩:=well_list x
  have z2:WData.weightAll ds≤1048576:=z
  obtain⟨A,h1,h2⟩:=area_all ds _ hall p fun d hd=>Nat.le_trans (weight_mem hd) z2
  have k:∀ b∈A,b∈a::A:=fun b hb=>List.mem_cons_of_mem _ hb
  refine⟨a::A,List.mem_cons_self ..,fun b hb=>?_⟩
  rcases List.mem_cons.mp hb with e|m
  ·rw[e]
   exact⟨vs,line_of (by rw[wellAll_len hall];exact Nat.le_trans (PySem.W.length_le_weightAllW ds) z2),fun u hu=>(h1 u hu).mono k,.inl ho⟩
  ·exact (h2 b m).mono k
 | .tuple ds,_,x,p,z=>by
  obtain⟨a,vs,rfl,ho,hall⟩:=well_tuple x
  have z2:WData.weightAll ds≤1048576:=z
  obtain⟨A,h1,h2⟩:=area_all ds _ hall p fun d hd=>Nat.le_trans (weight_mem hd) z2
  have k:∀ b∈A,b∈a::A:=fun b hb=>List.mem_cons_of_mem _ hb
  refine⟨a::A,List.mem_cons_self ..,fun b hb=>?_⟩
  rcases List.mem_cons.mp hb with e|m
  ·rw[e]
   exact⟨vs,line_of (by rw[wellAll_len hall];exact Nat.le_trans (PySem.W.length_le_weightAllW ds) z2),fun u hu=>(h1 u hu).mono k,.inr ho⟩
  ·exact (h2 b m).mono k
 | .float _,_,_,p,_=>Bool.noConfusion (show false=true from p)
 | .dict _,_,_,p,_=>Bool.noConfusion (show false=true from p)
 | .bytearray _,_,_,p,_=>Bool.noConfusion (show false=true from p)
 | .set _,_,_,p,_=>Bool.noConfusion (show false=true from p)
 | .frozenset _,_,_,p,_=>Bool.noConfusion (show false=true from p)
 | .obj _ _,_,_,p,_=>Bool.noConfusion (show false=true from p)
theorem area_all:∀ (ds:List WData) (vs:List Value),WellAll P h vs ds->plWs ds=true->(∀ d∈ds,d.weight≤1048576)->∃ A:List Addr,(∀ u∈vs,OkU A u)∧∀ a∈A,ArgOb h A a
 | [],_,x,_,_=>by
  cases x
  exact⟨[],fun u m=>absurd m (by simp),fun a m=>absurd m (by simp)⟩
 | d::ds,_,x,p,z=>by
  obtain⟨v,vs,rfl,x1,x2⟩:=well_cons x
  have q:plW d=true∧plWs ds=true:=Bool.and_eq_true_iff.mp p
  obtain⟨A,a1,a2⟩:=area_one d v x1 q.1 (z d (List.mem_cons_self ..))
  obtain⟨B,b1,b2⟩:=area_all ds vs x2 q.2 fun e he=>z e (List.mem_cons_of_mem _ he)
  have kA:∀ b∈A,b∈A++B:=fun b hb=>List.mem_append.mpr (.inl hb)
  have kB:∀ b∈B,b∈A++B:=fun b hb=>List.mem_append.mpr (.inr hb)
  refine⟨A++B,fun u hu=>?_,fun b hb=>?_⟩
  ·rcases List.mem_cons.mp hu with e|m
   ·rw[e]
    exact a1.mono kA
   ·exact (b1 u m).mono kB
  ·rcases List.mem_append.mp hb with m|m
   ·exact (a2 b m).mono kA
   ·exact (b2 b m).mono kB
end
end
def hoOf (o:Obj):Option HO:=match o.data with
 | .seq vs _=>if (o.cls==Value.type "list")=true then some (.frz o (.lst (vs.toList.map toV))) else some (.frz o (.tup (vs.toList.map toV)))
 | _=>none
def argH (K:PySem.W.Frag) (h:Heap) (A:List Addr):Hp:=fun b=>if b∈A then (if (K.lookup b).isNone=true then (h.get? b).bind hoOf else none) else none
def OnlyF (H:Hp):Prop:=∀ b,H b=none∨∃ o u,H b=some (.frz o u)
theorem hoOf_lst (vs:List Value):hoOf { cls:=.type "list",data:=.seq vs.toArray }=some (.frz { cls:=.type "list",data:=.seq vs.toArray } (.lst (vs.map toV))):=by
 show (if (Value.type "list"==Value.type "list")=true then some (HO.frz { cls:=.type "list",data:=.seq vs.toArray } (.lst (vs.toArray.toList.map toV))) else some (HO.frz { cls:=.type "list",data:=.seq vs.toArray } (.tup (vs.toArray.toList.map toV))))=_
 rw[if_pos (beq_self_eq_true _)]
theorem hoOf_tup (vs:List Value):hoOf { cls:=.type "tuple",data:=.seq vs.toArray }=some (.frz { cls:=.type "tuple",data:=.seq vs.toArray } (.tup (vs.map toV))):=by
 show (if (Value.type "tuple"==Value.type "list")=true then some (HO.frz { cls:=.type "tuple",data:=.seq vs.toArray } (.lst (vs.toArray.toList.map toV))) else some (HO.frz { cls:=.type "tuple",data:=.seq vs.toArray } (.tup (vs.toArray.toList.map toV))))=_
 rw[if_neg (by decide)]
section
variable {P:Program} {w:World} {K:PySem.W.Frag} {h:Heap} {A:List Addr}
theorem argH_at {b:Addr} {o:Obj} (hb:b∈A) (hk:K.lookup b=none) (e:h.get? b=some o):argH K h A b=hoOf o:=by
 unfold argH
 rw[if_pos hb,hk,if_pos (show (none:Option Obj).isNone=true from rfl),e]<;>rfl
theorem of_argH {b:Addr} {u:HO} (q:argH K h A b=some u):b∈A∧K.lookup b=none:=by
 unfold argH at q
 by_cases hb:b∈A
 ·rw[if_pos hb] at q
  cases hk:K.lookup b with
  | none=>exact⟨hb,rfl⟩
  | some o =>
   rw[hk,if_neg (by simp)] at q
   cases q
 ·rw[if_neg hb] at q
  cases q
theorem argH_is (ar:∀ a∈A,ArgOb h A a) {b:Addr} {u:HO} (q:argH K h A b=some u):K.lookup b=none∧∃ vs:List Value,vs.length≤sizeLine∧(∀ u∈vs,OkU A u) ∧
  ((h.get? b=some { cls:=.type "list",data:=.seq vs.toArray }∧u=.frz { cls:=.type "list",data:=.seq vs.toArray } (.lst (vs.map toV))) ∨
   (h.get? b=some { cls:=.type "tuple",data:=.seq vs.toArray }∧u=.frz { cls:=.type "tuple",data:=.seq vs.toArray } (.tup (vs.map toV)))):=by
 obtain⟨hb,hk⟩:=of_argH q
 obtain⟨vs,h1,h2,h3⟩:=ar b hb
 refine⟨hk,vs,h1,h2,?_⟩
 rcases h3 with e|e
 ·rw[argH_at hb hk e,hoOf_lst] at q
  exact .inl ⟨e,(Option.some.inj q).symm⟩
 ·rw[argH_at hb hk e,hoOf_tup] at q
  exact .inr ⟨e,(Option.some.inj q).symm⟩
theorem argH_only (ar:∀ a∈A,ArgOb h A a):OnlyF (argH K h A):=fun b=>by
 cases q:argH K h A b with
 | none=>exact .inl rfl
 | some u =>
  obtain⟨_,vs,_,_,⟨_,e⟩|⟨_,e⟩⟩:=argH_is ar q
  ·exact .inr ⟨_,_,by rw[e]⟩
  ·exact .inr ⟨_,_,by rw[e]⟩
theorem argH_ok (ar:∀ a∈A,ArgOb h A a):HOk P w (argH K h A) h:=fun b u q=>by
 obtain⟨_,vs,h1,h2,⟨e,rfl⟩|⟨e,rfl⟩⟩:=argH_is ar q
 ·exact⟨e,by rw[List.length_map];exact h1,vs,_,vals_toV h2,e⟩
 ·exact⟨e,by rw[List.length_map];exact h1,vs,vals_toV h2,_,e,rfl,_,rfl⟩
theorem seq_inj {c c':Value} {vs us:List Value} (e:(some { cls:=c,data:=.seq vs.toArray }:Option Obj)=some { cls:=c',data:=.seq us.toArray }):c=c'∧vs=us:=by
 have e1:=Option.some.inj e
 have e2:c=c':=congrArg Obj.cls e1
 have e3:Data.seq vs.toArray=Data.seq us.toArray:=congrArg Obj.data e1
 injection e3 with e4
 refine⟨e2,?_⟩
 have e5:=congrArg Array.toList e4
 simpa using e5
theorem argL (KX:K.In h) (ar:∀ a∈A,ArgOb h A a) {a:Addr} {vs:List Value} (ha:a∈A) (e:h.get? a=some { cls:=.type "list",data:=.seq vs.toArray }):(∀ u∈vs,OkU A u)∧SqL K (argH K h A) a (vs.map toV):=by
 obtain⟨us,h1,h2,h3⟩:=ar a ha
 have hu:us=vs:=by
  rcases h3 with q|q
  ·rw[e] at q
   exact (seq_inj q).2.symm
  ·rw[e] at q
   exact absurd (Value.type.inj (seq_inj q).1) (by decide)
 subst hu
 refine⟨h2,?_⟩
 cases hk:K.lookup a with
 | none=>exact .inl (.inr ⟨_,by rw[argH_at ha hk e,hoOf_lst]⟩)
 | some o =>
  have e2:=KX a o hk
  rw[e] at e2
  obtain rfl:=Option.some.inj e2
  exact .inr ⟨_,us.toArray,_,hk,rfl,rfl,rfl,by rw[List.size_toArray];exact h1,by simpa using vals_toV h2⟩
theorem argT (KX:K.In h) (ar:∀ a∈A,ArgOb h A a) {a:Addr} {vs:List Value} (ha:a∈A) (e:h.get? a=some { cls:=.type "tuple",data:=.seq vs.toArray }):(∀ u∈vs,OkU A u)∧SqT K (argH K h A) a (vs.map toV):=by
 obtain⟨us,h1,h2,h3⟩:=ar a ha
 have hu:us=vs:=by
  rcases h3 with q|q
  ·rw[e] at q
   exact absurd (Value.type.inj (seq_inj q).1) (by decide)
  ·rw[e] at q
   exact (seq_inj q).2.symm
 subst hu
 refine⟨h2,?_⟩
 cases hk:K.lookup a with
 | none=>exact .inl (.inr ⟨_,by rw[argH_at ha hk e,hoOf_tup]⟩)
 | some o =>
  have e2:=KX a o hk
  rw[e] at e2
  obtain rfl:=Option.some.inj e2
  exact .inr ⟨_,us.toArray,_,hk,rfl,rfl,by rw[List.size_toArray];exact h1,by simpa using vals_toV h2⟩
mutual
theorem dw_one {Pm:Params} (KX:K.In h) (ar:∀ a∈A,ArgOb h A a):∀ (d:WData) (v:Value),Well Pm h v d->plW d=true->OkU A v->Dw K (argH K h A) (toV v) d
 | .none,_,x,_,_=>by
  cases x
  exact .non
 | .bool b,_,x,_,_=>by
  cases x
  exact .bl b
 | .int i,_,x,_,_=>by
  cases x
  exact .int i
 | .str s,_,x,_,_=>by
  cases x
  exact .str s
 | .bytes b,_,x,_,_=>by
  cases x
  have z:=Dw.byt (K:=K) (H:=argH K h A) b.toArray
  exact z
 | .list ds,_,x,p,hu=>by
  obtain⟨a,vs,rfl,ho,hall⟩:=well_list x
  obtain⟨h2,hs⟩:=argL KX ar hu ho
  exact .lst hs (dw_all KX ar ds _ hall p h2)
 | .tuple ds,_,x,p,hu=>by
  obtain⟨a,vs,rfl,ho,hall⟩:=well_tuple x
  obtain⟨h2,hs⟩:=argT KX ar hu ho
  exact .tup hs (dw_all KX ar ds _ hall p h2)
 | .float _,_,_,p,_=>Bool.noConfusion (show false=true from p)
 | .dict _,_,_,p,_=>Bool.noConfusion (show false=true from p)
 | .bytearray _,_,_,p,_=>Bool.noConfusion (show false=true from p)
 | .set _,_,_,p,_=>Bool.noConfusion (show false=true from p)
 | .frozenset _,_,_,p,_=>Bool.noConfusion (show false=true from p)
 | .obj _ _,_,_,p,_=>Bool.noConfusion (show false=true from p)
theorem dw_all {Pm:Params} (KX:K.In h) (ar:∀ a∈A,ArgOb h A a):∀ (ds:List WData) (vs:List Value),WellAll Pm h vs ds->plWs ds=true->(∀ u∈vs,OkU A u)->DwAll K (argH K h A) (vs.map toV) ds
 | [],_,x,_,_=>by
  cases x
  exact .nil
 | d::ds,_,x,p,hu=>by
  obtain⟨v,vs,rfl,x1,x2⟩:=well_cons x
  have q:plW d=true∧plWs ds=true:=Bool.and_eq_true_iff.mp p
  exact .cons (dw_one KX ar d v x1 q.1 (hu _ (List.mem_cons_self ..))) (dw_all KX ar ds vs x2 q.2 fun u m=>hu u (List.mem_cons_of_mem _ m))
end
end
theorem spec_call {P:Program} {w:World} {K:PySem.W.Frag} {mg mb:Str->Option Value} {CX:CXT} {k:Nat} {fa:Addr} {fd:FuncData} {ps:List Str} {sp:Sp} {s₁:Shared} {vals:List Value} {ds:List WData} {R:PySem.W.WRecords} {cl:Str->Option Addr} {d0:WData}
  (KX:K.In s₁.heap) (hns:s₁.heap.Ns mainGlobals mg) (hb:s₁.heap.Ns builtinsNs mb) (hbb:∀ x:Str,x≠"__name__"->mb x=bootBuiltins x) (hlim:s₁.heap.NoLimit) (hg:s₁.gens=#[])
  (hwl:WellAll w.params s₁.heap vals ds) (hpl:plWs ds=true) (hwt:∀ d∈ds,d.weight≤1048576) (hr:Room k callerA)
  (F:∀ base:Heap,K.In base->base.Ns mainGlobals mg->FnOk P w K mg base CX k fa fd ps sp) (hbind:∀ (s:Shared) (us:List Value),us.length=ps.length->BindsTo s fd ⟨us,[]⟩ (ps.zip us)) (hlen:ds.length=ps.length)
  (hsp:∀ (H:Hp) (xs:List V),OnlyF H->DwAll K H xs ds->sp xs H (fun v H'=>Dw K H' v d0) fun _ _ _=>False)
  (hCX:∀ H e s',CX [] H s₁ (fun _ _ _=>False) e s'->False) :
  codeAny (model P w) callerA (.call (.ref fa) ⟨vals,[]⟩) (fun r s'=>∃ u as,r=.ok (.ret u)∧ReadsW R cl s'.heap u d0 as∧OldK s₁.heap s'.heap∧s'.os=s₁.os∧AllBare s'.gens) s₁:=by
 obtain⟨A,ho,ar⟩:=area_all ds vals hwl hpl hwt
 have hO:OnlyF (argH K s₁.heap A):=argH_only ar
 have hok:HOk P w (argH K s₁.heap A) s₁.heap:=argH_ok ar
 have hS:=dw_all KX ar ds vals hwl hpl ho
 have hV:=vals_toV ho
 have hK:∀ b u,argH K s₁.heap A b=some u->K.lookup b=none:=fun b u q=>(argH_is ar q).1
 have noA:∀ {b:Addr} {o:Obj} {es:Array DictEntry} {ep:Nat},s₁.heap.get? b=some o->o.data=.dict es ep->argH K s₁.heap A b=none:=fun {b o es ep} e d=>by
  cases q:argH K s₁.heap A b with
  | none=>rfl
  | some u =>
   obtain⟨_,vs,_,_,⟨e2,_⟩|⟨e2,_⟩⟩:=argH_is ar q
   ·rw[e2] at e
    cases e
    have d':Data.seq vs.toArray _=Data.dict es ep:=d
    cases d'
   ·rw[e2] at e
    cases e
    have d':Data.seq vs.toArray _=Data.dict es ep:=d
    cases d'
 generalize argH K s₁.heap A=H at hO hok hS hK noA
 have base_of:∀ {b:Addr} {o:Obj},s₁.heap.get? b=some o->H b=none->(hidT s₁.heap H).get? b=some o:=fun e n=>hidT_get e n
 have nsK:∀ {b:Addr} {m:Str->Option Value},s₁.heap.Ns b m->(hidT s₁.heap H).Ns b m:=fun {b m} ⟨o,es,ep,e,d,r⟩=>⟨o,es,ep,base_of e (noA e d),d,r⟩
 have nK:∀ b o,K.lookup b=some o->H b=none:=fun b o e=>by
  cases q:H b with
  | none=>rfl
  | some u =>
   rw[hK b u q] at e
   cases e
 have hKb:K.In (hidT s₁.heap H):=fun b o e=>base_of (KX b o e) (nK b o e)
 have hM:Mod K mg (hidT s₁.heap H):=⟨hKb,nsK hns,⟨mb,nsK hb,hbb⟩,let ⟨mc,h1,h2⟩:=hlim;⟨mc,nsK h1,h2⟩⟩
 have e0:Env0 P w K mg (hidT s₁.heap H) callerA [] s₁ H:=⟨rfl,hM,fun b o e=>of_hidT e,Nat.le_of_eq (hidT_size _ _),trivial,fun b hb=>absurd (show b∈([]:List Addr) from hb) (by simp),hok,.of_eq hg⟩
 have hl:vals.length=ps.length:=by rw[wellAll_len hwl];exact hlen
 refine codeAny_mono ((F _ hKb (nsK hns)).run callerA [] s₁ H ⟨vals,[]⟩ vals (vals.map toV) _ _ hr e0 (hbind s₁ vals hl) hV (hsp H _ hO hS)) fun r s' x=>?_
 cases r with
 | error e=>exact (hCX H e s' x).elim
 | ok fl =>
  cases fl with
  | next=>exact False.elim x
  | brk=>exact False.elim x
  | cont=>exact False.elim x
  | ret u =>
   obtain⟨v,H',os,bare,un,hok',r',q⟩:=x
   have kept:∀ b o,s₁.heap.get? b=some o->s'.heap.get? b=some o:=fun b o e=>by
    cases q2:H b with
    | none=>exact un.keep b o e q2 (by intro z;exact absurd (show b∈([]:List Addr) from z) (by simp)) (by simp)
    | some u2 =>
     rcases hO b with z|⟨ob,u3,z⟩
     ·rw[q2] at z
      cases z
     ·have z2:=un.frzs b ob _ z
      obtain⟨e1,_⟩:=hok b _ z
      obtain⟨e2,_⟩:=hok' b _ z2
      rw[e] at e1
      cases e1
      exact e2
   have KX':K.In s'.heap:=fun b o e=>kept b o (KX b o e)
   obtain⟨as,hrd⟩:=Dw.reads (R:=R) (cl:=cl) hok' KX' d0 v u q r'
   exact⟨u,as,rfl,hrd,OldK.of_keep kept,os,bare⟩
theorem layable_weight {ds:List WData} (h:WData.layableAll ds=true):∀ d∈ds,d.weight≤1048576:=fun d hd =>
 (PySem.W.layableW_iff.mp (List.all_eq_true.mp h d hd)).2.2
theorem encAll_len:∀ (cs:List Codec) (a:Codec.denoteAll cs),(Codec.encAll cs a).length=cs.length
 | [],_=>rfl
 | c::cs,a=>by
  show (Codec.encAll cs a.2).length+1=cs.length+1
  rw[encAll_len cs a.2]
theorem walk_spec {r:OpenSpec} {k:Nat} {q:Program} {loose:List Str} {XP:(Str->Option Value)->Heap->Prop} {YP:World->Heap->Prop} {d:DefRec} {K:Params->PySem.W.Frag} {CX:World->CXT} {ps:List Str} {sp:World->Sp}
  (hwell:r.wellSaid=true) (hdf:d.params.defaults=[]) (hlen:r.args.length=ps.length) (hr:Room k callerA)
  (hY:∀ (w:World) (h:Heap),YP w h->(K w.params).In h)
  (F:∀ (w:World) (mg:Str->Option Value) (fa:Addr) (h:Heap),YP w h->(K w.params).In h->h.Ns mainGlobals mg->mg d.name=some (.ref fa) ->
   ∃ fd:FuncData,(∀ (s:Shared) (us:List Value),us.length=ps.length->BindsTo s fd ⟨us,[]⟩ (ps.zip us)) ∧
    ∀ base:Heap,(K w.params).In base->base.Ns mainGlobals mg->FnOk r.prog w (K w.params) mg base (CX w) k fa fd ps (sp w))
  (hsp:∀ (w:World) (H:Hp) (xs:List V) (a:Codec.denoteAll r.args),OnlyF H->Codec.withinAll r.args a=true->Codec.app r.args r.asked a=true->DwAll (K w.params) H xs (Codec.encAll r.args a) ->
   sp w xs H (fun v H'=>Dw (K w.params) H' v (r.ret.enc (Codec.app r.args r.f a))) fun _ _ _=>False)
  (hCX:∀ (w:World) (H:Hp) (s:Shared) (e:Value) (s':Shared),CX w [] H s (fun _ _ _=>False) e s'->False) :
  PySem.W.WalkOS q loose XP YP r d [] (fun f vs=>PySem.call f vs):=by
 intro w s_0 s₁ mg mb G Y fa o pm cd doc dV kV ho hd hcd hD hmg hg args vals as hpre hlay hrd hwl hlo
 obtain⟨a,e1,e2⟩:=PySem.W.os_pre_some hpre
 obtain⟨e3,hwi⟩:=Codec.encAll_of_decAll r.args args a e1
 subst e3
 have KX:=hY w _ Y
 obtain⟨fd,hb,hF⟩:=F w mg fa _ Y KX G.T.g hmg
 refine PySem.W.enter_call (codeAny_mono (spec_call (R:=[]) (cl:=classAt s_0.heap) (d0:=r.ret.enc (Codec.app r.args r.f a)) KX G.T.g G.T.b G.T.builtins G.T.nolimit hg hwl (pl_encAll _ _) (layable_weight hlay) hr hF hb (by rw[encAll_len];exact hlen)
  (fun H xs hO hS=>hsp w H xs a hO hwi e2 hS) fun H e s'=>hCX w H s₁ e s') fun r' s' hq=>?_)
 obtain⟨u,as',rfl,h1,h2,h3,h4⟩:=hq
 exact⟨.inl ⟨u,_,as',rfl,fun _=>rfl,h1,(OpenSpec.post_iff hwell hwi _ _).mpr rfl,fun z=>Bool.noConfusion (show false=true from z)⟩,h2,h3,h4⟩
theorem walk_specK {r:OpenSpec} {k:Nat} {q:Program} {loose:List Str} {XP:(Str->Option Value)->Heap->Prop} {YP:World->Heap->Prop} {d:DefRec} {K:Params->PySem.W.Frag} {CX:CXT} {ps:List Str} {sp:PySem.W.Frag->Sp}
  (hwell:r.wellSaid=true) (hdf:d.params.defaults=[]) (hlen:r.args.length=ps.length) (hr:Room k callerA)
  (hY:∀ (w:World) (h:Heap),YP w h->(K w.params).In h)
  (F:∀ (w:World) (mg:Str->Option Value) (fa:Addr) (h:Heap),YP w h->(K w.params).In h->h.Ns mainGlobals mg->mg d.name=some (.ref fa) ->
   ∃ fd:FuncData,(∀ (s:Shared) (us:List Value),us.length=ps.length->BindsTo s fd ⟨us,[]⟩ (ps.zip us)) ∧
    ∀ base:Heap,(K w.params).In base->base.Ns mainGlobals mg->FnOk r.prog w (K w.params) mg base CX k fa fd ps (sp (K w.params)))
  (hsp:∀ (K:PySem.W.Frag) (H:Hp) (xs:List V) (a:Codec.denoteAll r.args),OnlyF H->Codec.withinAll r.args a=true->Codec.app r.args r.asked a=true->DwAll K H xs (Codec.encAll r.args a) ->
   sp K xs H (fun v H'=>Dw K H' v (r.ret.enc (Codec.app r.args r.f a))) fun _ _ _=>False)
  (hCX:∀ (H:Hp) (s:Shared) (e:Value) (s':Shared),CX [] H s (fun _ _ _=>False) e s'->False) :
  PySem.W.WalkOS q loose XP YP r d [] (fun f vs=>PySem.call f vs) :=
 walk_spec (K:=K) (CX:=fun _=>CX) (sp:=fun w=>sp (K w.params)) hwell hdf hlen hr hY F (fun w H xs a h1 h2 h3 h4=>hsp (K w.params) H xs a h1 h2 h3 h4) fun _ H s e s'=>hCX H s e s'
end L2
end
end
section
namespace L2
open PySem PySem.Spec PyProof.Rows
section
variable {X:Cx}
theorem k0y {x:Str} {i:Int} {pos:Pos} (hg:Gl X x) (h:∃ t,X.mg x=some (.int i t)) (hd:(x==("__debug__":Str))=false:=by decide):PE X (.Name x pos) (tC (.int i)):=by
 obtain⟨t,h⟩:=h
 exact pe_glob hg h ⟨t,rfl⟩ hd
def tGT (K:PySem.W.Frag) (xs:List V):TE:=fun _ H Q=>∀ a:Addr,(∀ H:Hp,SqT K H a xs)->Q (.ref a) H
theorem pe_gtup {x:Str} {xs:List V} {pos:Pos} (hg:Gl X x) (h:∃ a:Addr,X.mg x=some (.ref a)∧∀ H:Hp,SqT X.K H a xs) (hd:(x==("__debug__":Str))=false:=by decide):PE X (.Name x pos) (tGT X.K xs):=by
 obtain⟨a,h,hs⟩:=h
 intro pins s σ H Q I q
 exact pe_glob (v:=.ref a) hg h rfl hd pins s σ H Q I (q a hs)
theorem b_sum:bootBuiltins "sum"=some (.builtin "sum"):=by decide +kernel
theorem b_all:bootBuiltins "all"=some (.builtin "all"):=by decide +kernel
theorem b_any:bootBuiltins "any"=some (.builtin "any"):=by decide +kernel
theorem b_min:bootBuiltins "min"=some (.builtin "min"):=by decide +kernel
theorem b_max:bootBuiltins "max"=some (.builtin "max"):=by decide +kernel
theorem b_list:bootBuiltins "list"=some (.type "list"):=by decide +kernel
theorem get_list:PGet X (rIxL X.K):=by
 intro pins s σ H x y v u Q I rx ry h
 obtain⟨p,xs,i,z,rfl,rfl,hq,he,q⟩:=h
 cases rx
 obtain⟨t,rfl⟩:=ry
 obtain⟨its,r,pl,hz⟩:=I.list hq
 obtain⟨j,h1,h2,h3,h4,h5⟩:=atI_get he
 obtain⟨w,ew,rw'⟩:=r.get h2
 have hl:=r.length
 have hn:=line63
 have fin:EP X pins σ Q w s:=⟨z,H,I,rw',q⟩
 by_cases h0:0≤i
 ·have hj:i.toNat=j:=by
   rw[seqIndex_of h0 h5] at h1
   exact Option.some.inj h1
  exact wpAny_getItem_list pl.isList h0 (by omega) (by rw[hj];simpa using ew) fin
 ·have hj:(i+(its.toArray.size:Int)).toNat=j:=by
   rw[seqIndex_neg (by omega) h4] at h1
   rw[List.size_toArray,← hl]
   exact Option.some.inj h1
  exact wpAny_getItem_list_neg pl.isList (by omega) (by rw[List.size_toArray]<;>omega) (by omega) (by rw[hj];simpa using ew) fin
theorem truth_ints {prog:Program} {w:World} {A:Around} {ns:List Int} {its:List Value} (e:IntsAre its ns) :
  TruthOf prog w A (fun i v=>its.toArray[i]?=some v) (fun i=>(ns.map fun n=>n != 0).getD i false):=fun i v s Q E hv hq=>by
 have hv':its[i]?=some v:=by simpa using hv
 have key:∀ {us:List Value} {ms:List Int} {i:Nat} {v:Value},IntsAre us ms->us[i]?=some v->∃ n t,v=.int n t∧(ms.map fun n=>n != 0).getD i false=(n != 0):=by
  intro us ms i v r
  induction r generalizing i with
  | nil=>intro h;simp at h
  | cons n t r ih =>
   cases i with
   | zero=>intro h;exact⟨n,t,by simpa using h.symm,rfl⟩
   | succ i=>intro h;exact ih (by simpa using h)
 obtain⟨n,t,rfl,hg⟩:=key e hv'
 have hq':Q ((ns.map fun n=>n != 0).getD i false) s:=hq
 rw[hg] at hq'
 exact truthy_int hq'
def rAnyI (K:PySem.W.Frag):List V->Hp->VK->Prop:=fun vs H Q=>∃ (a:Addr) (ns:List Int),vs=[V.ref a]∧SqL K H a (ns.map V.int)∧Q (.bl (ns.any fun n=>n != 0)) H
theorem cr_anyI (hc:X.calm=true):CallR X (.builtin "any") (rAnyI X.K):=by
 intro pins s σ H vs us Q I r h
 obtain⟨a,ns,rfl,hs,q⟩:=h
 obtain⟨its,rv,hl,_⟩:=I.list hs
 rw[Vals.ref1 r]
 have hb:=rv.ints
 refine call_any_walk (iter_any hl.isList fun s₂ e2 st hne=>?_)
 subst e2
 refine⟨_,_,_,_,_,_,_,rfl,Walks.list (A:=X.A.in1) (I.ok.hd hc) _ a hne its.toArray,st,truth_ints hb,fun h' tk hk=>?_⟩
 refine⟨.bl _,H,I.kept fun b o eo=>hk b o (fun hmem=>?_) (Heap.get?_push_of_some _ eo),?_,q⟩
 ·rcases List.mem_cons.mp hmem with e1|hmem
  ·exact absurd (e1▸Heap.lt_size eo) (Nat.lt_irrefl _)
  ·cases hmem
 ·show Value.bool _=Value.bool _
  have hl2:its.toArray.size=(ns.map fun n=>n != 0).length:=by
   rw[List.size_toArray,List.length_map,← rv.length,List.length_map]
  rw[hl2,any_range,List.any_map]
  rfl
def stepV {α:Type} (xs:List α) (j st:Nat):List α:=(List.range ((xs.length+st - 1 - j) / st)).filterMap fun k=>xs[j+st*k]?
def tSl3 (K:PySem.W.Frag) (te:TE) (tl th:TO) (ts:TE):TE:=fun σ H Q=>te σ H fun x H1=>tl σ H1 fun l H2=>th σ H2 fun u H3=>ts σ H3 fun z H4 =>
 ∃ a xs j st,x=.ref a∧l=some ((j:Nat):Int)∧u=none∧z=.int ((st:Nat):Int)∧0 < st∧SqL K H4 a xs∧∀ p,H4 p=none->Q (.ref p) (upd H4 p (.lst (stepV xs j st)))
end
end L2
end
section
namespace L2
open PySem PySem.Spec PyProof.Rows
theorem step_pick (its:List Value) (j st:Nat) (h0:0 < st):slicePick its.toArray (some (j:Int)) none (some (st:Int))=(stepV its j st).toArray:=by
 unfold slicePick sliceBounds
 simp only[Option.getD_some,List.size_toArray]
 have hp:(st:Int) > 0:=by omega
 have hj:¬ ((j:Int) < 0):=by omega
 simp only[hp,hj,if_true,if_false]
 unfold sliceRange stepV
 simp only[hp,if_true]
 congr 1
 by_cases hlt:j < its.length
 ·have e1:max (0:Int) (min (j:Int) (its.length:Int))=(j:Int):=by omega
  have h2:(j:Int) < (its.length:Int):=by omega
  rw[e1]
  simp only[h2,if_true]
  have e3:(((its.length:Int) - (j:Int)+(st:Int) - 1) / (st:Int)).toNat=(its.length+st - 1 - j) / st:=by
   have:((its.length:Int) - (j:Int)+(st:Int) - 1)=((its.length+st - 1 - j:Nat):Int):=by omega
   rw[this]
   rfl
  rw[e3,List.filterMap_map]
  congr 1
  funext k
  show its.toArray[((j:Int)+(st:Int)*(k:Int)).toNat]?=its[j+st*k]?
  have e4:((j:Int)+(st:Int)*(k:Int)).toNat=j+st*k:=by
   have:(j:Int)+(st:Int)*(k:Int)=((j+st*k:Nat):Int):=by push_cast;rfl
   rw[this];rfl
  rw[e4]
  simp
 ·have e1:max (0:Int) (min (j:Int) (its.length:Int))=(its.length:Int):=by omega
  rw[e1]
  have h2:¬ ((its.length:Int) < (its.length:Int)):=by omega
  simp only[h2,if_false]
  have e3:(its.length+st - 1 - j) / st=0:=Nat.div_eq_of_lt (by omega)
  rw[e3]
  rfl
theorem stepV_vals {xs:List V} {us:List Value} (r:Vals xs us) (j st:Nat):Vals (stepV xs j st) (stepV us j st):=by
 unfold stepV
 rw[r.length]
 generalize List.range ((us.length+st - 1 - j) / st)=l
 induction l with
 | nil=>exact .nil
 | cons k l ih =>
  rw[List.filterMap_cons,List.filterMap_cons]
  cases e:xs[j+st*k]? with
  | none =>
   rw[r.none_of e]
   exact ih
  | some x =>
   obtain⟨u,hu,ru⟩:=r.get e
   rw[hu]
   exact .cons ru ih
theorem stepV_len {α:Type} (xs:List α) (j st:Nat) (h:0 < st):(stepV xs j st).length≤xs.length:=by
 unfold stepV
 refine Nat.le_trans (List.length_filterMap_le _ _) ?_
 rw[List.length_range]
 rcases Nat.lt_or_ge j xs.length with hl|hl
 ·have:xs.length+st - 1 - j≤st*xs.length:=by
   have h1:xs.length - 1≤st*(xs.length - 1):=Nat.le_mul_of_pos_left _ h
   have h2:st*xs.length=st*(xs.length - 1)+st:=by
    have:xs.length=(xs.length - 1)+1:=by omega
    rw[this,Nat.mul_add]
    simp
   omega
  exact Nat.div_le_of_le_mul this
 ·rw[Nat.div_eq_of_lt (by omega)]
  exact Nat.zero_le _
section
variable {X:Cx} {e ste:Expr} {te ts:TE} {lo hi:Option Expr} {tl th:TO} {pos p2:Pos}
theorem pe_slice3 (he:PE X e te) (hl:PO X lo tl) (hu:PO X hi th) (hst:PE X ste ts):PE X (.Subscript e (.Slice lo hi (some ste) p2) pos) (tSl3 X.K te tl th ts):=by
 intro pins s σ H Q I h
 refine Subscript_ (thn (he pins s σ H _ I h) fun v s1 ⟨x,H1,I1,r1,q1⟩=>?_)
 refine wpAny_Slice (thn (hl pins s1 σ H1 _ I1 q1) fun vl s2 ⟨l,H2,I2,pl,q2⟩=>thn (hu pins s2 σ H2 _ I2 q2) fun vu s3 ⟨u,H3,I3,pu,q3⟩=>?_)
 rw[evalPart_some]
 refine thn (hst pins s3 σ H3 _ I3 q3) fun vs s4 ⟨z,H4,I4,rz,q4⟩=>?_
 obtain⟨a,xs,j,st,rfl,rfl,rfl,rfl,h0,hx,q⟩:=q4
 cases r1
 obtain⟨tz,rfl⟩:=rz
 have I5:Inv X pins σ H4 { s4 with heap:=s4.heap.push { cls:=.type "slice",data:=.fields #[vl,vu,.int (st:Int) tz] } }:=I4.kept (t':=s4.toks) fun b ob q=>Heap.get?_push_of_some _ q
 obtain⟨its,r,ht,hz⟩:=I5.list hx
 have hlen:=r.length
 refine tail_any (ops:=[.ref a,.ref s4.heap.objs.size]) (T:="list") ht.isList.typeIs slot_list_getitem.lookup ?_ (by with_unfolding_all rfl)
 refine wpAny_getItem_list_slice ht.isList (Heap.IsSliceOf.new ..) pl pu (.int _ tz) (by simp;omega) ?_ (by rw[List.size_toArray]<;>omega)
 rw[step_pick its j st h0]
 refine⟨.ref _,_,I5.laid (t':=s4.toks) (o:=.lst (stepV xs j st)) (fun b ob q=>Heap.get?_push_of_some _ q) (Nat.le_refl _) ?_,rfl,q _ (I5.hok.fresh (Nat.le_refl _))⟩
 exact⟨Nat.le_trans (stepV_len xs j st h0) hz,_,0,stepV_vals r j st,Heap.get?_push_size _ rfl⟩
end
theorem lc_pure {J:It} {n:Nat} {g:TG} {tt:TT} {te:TE} {vs:List Nat} {σ:St} {H1:Hp} {D:Addr} {Qd:Hp->Prop} (f:Nat->Option V) (hD:H1 D=none) (hn:n≤sizeLine)
  (hstop:∀ H,Same H1 H->J.stop n H) (hgo:∀ i H,i < n->Same H1 H->J.go i H)
  (hs:∀ i H x H' (Y:VK) (N:Hp->Prop),i < n->Same H1 H->J.yld i H x H'->(∀ y H4,f i=some y->Same H H4->Y y H4)->(∀ H3,f i=none->Same H H3->N H3) ->
   g x (wipe σ vs) H' fun σ2 H2=>wipe σ2 vs=wipe σ vs∧tt σ2 H2 fun b H3=>if b=true then te σ2 H3 Y else N H3)
  (hd:∀ H,Same H1 H->H D=some (.lst ((List.range n).filterMap f))->Qd H) :
  ∃ W:Nat->Nat->Hp->Prop,(∃ m,W 0 m (upd H1 D (.lst [])))∧∀ i m H,W i m H ->
   (J.stop i H∧Qd H)∨(J.go i H∧∃ Nx:Hp->Prop,(∀ H',Nx H'->∃ m',m' < m∧W (i+1) m' H')∧∀ x H',J.yld i H x H'->g x (wipe σ vs) H' fun σ2 H2=>wipe σ2 vs=wipe σ vs∧tt σ2 H2 fun b H3 =>
    if b=true then te σ2 H3 fun y H4=>∃ acc,H4 D=some (.lst acc)∧acc.length < sizeLine∧Nx (upd H4 D (.lst (acc++[y]))) else Nx H3):=by
 refine⟨fun i m H=>m=n - i∧i≤n∧Same H1 H∧H D=some (.lst ((List.range i).filterMap f)),⟨n,by simp,Nat.zero_le _,?_,k0f⟩,?_⟩
 ·intro b o e
  rw[k0p (k0h e hD)]
  exact e
 rintro i m H ⟨rfl,hi,hS,hDi⟩
 by_cases hlt:i < n
 ·refine .inr ⟨hgo i H hlt hS,fun H'=>Same H1 H'∧H' D=some (.lst ((List.range (i+1)).filterMap f)),fun H' ⟨a,b⟩=>⟨n - (i+1),by omega,rfl,hlt,a,b⟩,fun x H' y=>?_⟩
  refine hs i H x H' _ _ hlt hS y (fun v H4 e s4=>?_) (fun H3 e s3=>?_)
  ·refine⟨_,s4 _ _ hDi,?_,?_,?_⟩
   ·refine Nat.lt_of_le_of_lt (List.length_filterMap_le _ _) ?_
    rw[List.length_range]
    omega
   ·intro b o eb
    rw[k0p (k0h eb hD)]
    exact s4 _ _ (hS _ _ eb)
   ·rw[k0f,List.range_succ,List.filterMap_append]
    simp[e]
  ·refine⟨fun b o eb=>s3 _ _ (hS _ _ eb),?_⟩
   rw[s3 _ _ hDi,List.range_succ,List.filterMap_append]
   simp[e]
 ·have e:i=n:=by omega
  subst e
  exact .inl ⟨hstop H hS,hd H hS hDi⟩
theorem for_gen {J:It} {n:Nat} {g:TG} {tb:TS} {D:Ends} {σ:St} {H:Hp} (Pv:Nat->St->Hp->Prop) (h0:Pv 0 σ H) (hgo:∀ i σ H,i < n->Pv i σ H->J.go i H) (hst:∀ σ H,Pv n σ H->J.stop n H)
  (hs:∀ i x σ H H',i < n->Pv i σ H->J.yld i H x H'->g x σ H' fun σ2 H2=>tb { D with nx:=Pv (i+1),ct:=Pv (i+1),bk:=D.nx } σ2 H2) (hd:∀ σ H,Pv n σ H->D.nx σ H) :
  ∃ W:Nat->Nat->St->Hp->Prop,(∃ m,W 0 m σ H)∧∀ i m σ H,W i m σ H ->
   (J.stop i H∧D.nx σ H)∨(J.go i H∧∃ N:St->Hp->Prop,(∀ σ' H',N σ' H'->∃ m',m' < m∧W (i+1) m' σ' H')∧∀ x H',J.yld i H x H'->g x σ H' fun σ2 H2=>tb { D with nx:=N,ct:=N,bk:=D.nx } σ2 H2):=by
 refine⟨fun i m σ H=>m=n - i∧i≤n∧Pv i σ H,⟨n,by simp,Nat.zero_le _,h0⟩,?_⟩
 rintro i m σ H ⟨rfl,hi,p⟩
 by_cases hlt:i < n
 ·exact .inr ⟨hgo i σ H hlt p,Pv (i+1),fun σ' H' p'=>⟨n - (i+1),by omega,rfl,hlt,p'⟩,fun x H' y=>hs i x σ H H' hlt p y⟩
 ·have e:i=n:=by omega
  subst e
  exact .inl ⟨hst σ H p,hd σ H p⟩
structure Dfn (K:PySem.W.Frag) (mg:Str->Option Value) (x:Str) (st:Stmt) (ps:List Str):Prop where
 ex:∃ (fa:Addr) (fd:FuncData),Fun K x x st fa fd∧mg x=some (.ref fa)∧Binds K fd ps []
structure Prom (P:Program) (w:World) (K:PySem.W.Frag) (mg:Str->Option Value) (base:Heap) (k:Nat) (x:Str) (ps:List Str) (sp:Sp):Prop where
 ex:∃ (fa:Addr) (fd:FuncData),mg x=some (.ref fa)∧PySem.W.keepIn K (.ref fa)=true∧Binds K fd ps []∧FnOk P w K mg base CX0 k fa fd ps sp
theorem Dfn.prom {P:Program} {w:World} {K:PySem.W.Frag} {mg:Str->Option Value} {base:Heap} {x:Str} {st:Stmt} {N ps:List Str} {k:Nat} {sp:Sp} (D:Dfn K mg x st ps) (S:FnScope N ps (k0m st)) (len:∀ vs H Q E,sp vs H Q E->vs.length=ps.length)
  (hbody:∀ (f:Addr) (cdv:Value) (A:Around) (outer:List Env) (s:Shared) (H:Hp) (vs:List V) (Q:VK) (E:XK),Room k (A.deeper (envOfC x (k0m st) s.heap.objs.size f cdv))->sp vs H Q E ->
   ∃ t,PSs (cxOf CX0 P w K mg base N x (k0m st) f cdv A outer s H E).nox (defBody st) t∧t { nx:=fun _ H'=>Q .non H',rt:=Q } (start N vs) H):Prom P w K mg base (k+1) x ps sp:=by
 obtain⟨fa,fd,F,m,b⟩:=D.ex
 exact⟨fa,fd,m,F.kp,b,F.ok S len fun cdv A outer s H vs Q E hr h=>hbody fa cdv A outer s H vs Q E hr h⟩
theorem k0u {X:Cx} {k:Nat} {x:Str} {ps:List Str} {sp:Sp} {e:Expr} {es:List Expr} {t:TA} {p pos:Pos} (h:Prom X.prog X.w X.K X.mg X.base k x ps sp) (hr:Room k X.A) (hg:Gl X x) (ha:PA X (e::es) t)
  (hdb:(x==("__debug__":Str))=false:=by decide) (he:starEach (e::es) X.env=(false,eval e X.env)::starEach es X.env:=by rfl) (hpl:(backTo pos (starEach es X.env)).any (·.1)=false:=by rfl) :
  PE X (.Call (.Name x p) (e::es) [] pos) (tCall sp [] E0 t):=by
 obtain⟨fa,fd,m,kp,b,F⟩:=h.ex
 exact pe_call F hr hg m kp b .nil pass0 ha hdb he hpl
end L2
end
section
namespace L2
open PySem PySem.Spec PyProof.Rows
theorem range_fm {α β:Type} (xs:List α) (h:Nat->α->Option β):(List.range xs.length).filterMap (fun i=>(xs[i]?).bind (h i))=xs.zipIdx.filterMap fun z=>h z.2 z.1:=by
 have key:∀ (xs:List α) (k:Nat),(List.range xs.length).filterMap (fun i=>(xs[i]?).bind (h (k+i)))=(xs.zipIdx k).filterMap fun z=>h z.2 z.1:=by
  intro xs
  induction xs with
  | nil=>intro k;rfl
  | cons a xs ih =>
   intro k
   rw[List.length_cons,List.range_succ_eq_map,List.filterMap_cons,List.filterMap_map,List.zipIdx_cons,List.filterMap_cons]
   have e:((fun i=>((a::xs)[i]?).bind (h (k+i)))∘Nat.succ)=fun i=>(xs[i]?).bind (h ((k+1)+i)):=by
    funext i
    show ((a::xs)[i+1]?).bind (h (k+(i+1)))=_
    rw[List.getElem?_cons_succ,show k+(i+1)=k+1+i by omega]
   rw[e,ih (k+1)]
   rfl
 have:=key xs 0
 simpa using this
theorem zipIdx_fm {α β:Type} (xs:List α) (h:α->Option β) (k:Nat):(xs.zipIdx k).filterMap (fun z=>h z.1)=xs.filterMap h:=by
 induction xs generalizing k with
 | nil=>rfl
 | cons a xs ih=>rw[List.zipIdx_cons,List.filterMap_cons,List.filterMap_cons,ih]
theorem range_zip {α β γ:Type} (xs:List α) (ys:List β) (h:α->β->Option γ):(List.range (min xs.length ys.length)).filterMap (fun i=>(xs[i]?).bind fun x=>(ys[i]?).bind (h x))=(xs.zip ys).filterMap fun z=>h z.1 z.2:=by
 induction xs generalizing ys with
 | nil=>simp
 | cons a xs ih =>
  cases ys with
  | nil=>simp
  | cons b ys =>
   rw[List.length_cons,List.length_cons,Nat.succ_min_succ,List.range_succ_eq_map,List.filterMap_cons,List.filterMap_map,List.zip_cons_cons,List.filterMap_cons]
   have e:((fun i=>((a::xs)[i]?).bind fun x=>((b::ys)[i]?).bind (h x))∘Nat.succ)=fun i=>(xs[i]?).bind fun x=>(ys[i]?).bind (h x):=by
    funext i
    rfl
   rw[e,ih ys]
   rfl
theorem Same.new {H:Hp} {p:Addr} {o:HO} (h:H p=none):Same H (upd H p o):=fun b o' e=>by
 rw[k0p (k0h e h)]
 exact e
theorem Same.grow {H H1:Hp} {p:Addr} {o:HO} (s:Same H H1) (h:H1 p=none):Same H (upd H1 p o):=s.trans (Same.new h)
theorem Same.put {H H1:Hp} {p:Addr} {o:HO} (s:Same H H1) (h:H p=none):Same H (upd H1 p o):=fun b o' e=>by
 rw[k0p (k0h e h)]
 exact s _ _ e
theorem Same.rfl' {H:Hp}:Same H H:=fun _ _ e=>e
theorem cx_K {CX:CXT} {P:Program} {w:World} {K:PySem.W.Frag} {mg:Str->Option Value} {base:Heap} {N:List Str} {q:Str} {sc:Scope} {f:Addr} {cdv:Value} {A:Around} {outer:List Env} {s:Shared} {H:Hp} {E:XK}:(cxOf CX P w K mg base N q sc f cdv A outer s H E).K=K:=rfl
section
variable {K:PySem.W.Frag} {a b:Addr} {xs ys:List V} {g:TG} {tt:TT} {te:TE} {vs:List Nat} {σ:St} {H1:Hp} {D:Addr} {Qd:Hp->Prop}
theorem lc_L (h:V->Option V) (hD:H1 D=none) (hn:xs.length≤sizeLine) (hx:SqL K H1 a xs)
  (hs:∀ (i:Nat) x H (Y:VK) (N:Hp->Prop),xs[i]?=some x->Same H1 H->(∀ y H4,h x=some y->Same H H4->Y y H4)->(∀ H3,h x=none->Same H H3->N H3) ->
   g x (wipe σ vs) H fun σ2 H2=>wipe σ2 vs=wipe σ vs∧tt σ2 H2 fun b H3=>if b=true then te σ2 H3 Y else N H3)
  (hd:∀ H,Same H1 H->H D=some (.lst (xs.filterMap h))->Qd H) :
  ∃ W:Nat->Nat->Hp->Prop,(∃ m,W 0 m (upd H1 D (.lst [])))∧∀ i m H,W i m H ->
   ((Itl K a).stop i H∧Qd H)∨((Itl K a).go i H∧∃ Nx:Hp->Prop,(∀ H',Nx H'->∃ m',m' < m∧W (i+1) m' H')∧∀ x H',(Itl K a).yld i H x H'->g x (wipe σ vs) H' fun σ2 H2=>wipe σ2 vs=wipe σ vs∧tt σ2 H2 fun b H3 =>
    if b=true then te σ2 H3 fun y H4=>∃ acc,H4 D=some (.lst acc)∧acc.length < sizeLine∧Nx (upd H4 D (.lst (acc++[y]))) else Nx H3):=by
 refine lc_pure (J:=Itl K a) (n:=xs.length) (fun i=>(xs[i]?).bind h) hD hn (fun H hS=>⟨xs,hS.seq hx,Nat.le_refl _⟩) (fun i H hi hS=>⟨xs,_,hS.seq hx,List.getElem?_eq_getElem hi⟩) ?_ (fun H hS hDf=>?_)
 ·rintro i H x H' Y N hi hS ⟨rfl,hy⟩ hY hN
  have e:=hy xs (hS.seq hx)
  exact hs i x _ Y N e hS (fun y H4 q=>hY y H4 (by rw[e];exact q)) (fun H3 q=>hN H3 (by rw[e];exact q))
 ·refine hd H hS ?_
  rw[hDf,range_fm xs (fun _=>h),zipIdx_fm]
theorem lc_E (h:Nat->V->Option V) (hD:H1 D=none) (hn:xs.length≤sizeLine) (hx:SqL K H1 a xs)
  (hs:∀ (i:Nat) x H T (Y:VK) (N:Hp->Prop),xs[i]?=some x->Same H1 H->H T=some (.tup [.int (i:Nat),x])->(∀ y H4,h i x=some y->Same H H4->Y y H4)->(∀ H3,h i x=none->Same H H3->N H3) ->
   g (.ref T) (wipe σ vs) H fun σ2 H2=>wipe σ2 vs=wipe σ vs∧tt σ2 H2 fun b H3=>if b=true then te σ2 H3 Y else N H3)
  (hd:∀ H,Same H1 H->H D=some (.lst (xs.zipIdx.filterMap fun z=>h z.2 z.1))->Qd H) :
  ∃ W:Nat->Nat->Hp->Prop,(∃ m,W 0 m (upd H1 D (.lst [])))∧∀ i m H,W i m H ->
   ((Ite K a).stop i H∧Qd H)∨((Ite K a).go i H∧∃ Nx:Hp->Prop,(∀ H',Nx H'->∃ m',m' < m∧W (i+1) m' H')∧∀ x H',(Ite K a).yld i H x H'->g x (wipe σ vs) H' fun σ2 H2=>wipe σ2 vs=wipe σ vs∧tt σ2 H2 fun b H3 =>
    if b=true then te σ2 H3 fun y H4=>∃ acc,H4 D=some (.lst acc)∧acc.length < sizeLine∧Nx (upd H4 D (.lst (acc++[y]))) else Nx H3):=by
 refine lc_pure (J:=Ite K a) (n:=xs.length) (fun i=>(xs[i]?).bind (h i)) hD hn (fun H hS=>⟨xs,hS.seq hx,Nat.le_refl _⟩) (fun i H hi hS=>⟨xs,_,hS.seq hx,List.getElem?_eq_getElem hi⟩) ?_ (fun H hS hDf=>?_)
 ·rintro i H v H' Y N hi hS ⟨T,x,rfl,hT,rfl,hy⟩ hY hN
  have e:=hy xs (hS.seq hx)
  have hS2:Same H (upd H T (.tup [.int (i:Nat),x])):=Same.new hT
  exact hs i x _ T Y N e (hS.trans hS2) k0f (fun y H4 q s4=>hY y H4 (by rw[e];exact q) (hS2.trans s4)) (fun H3 q s3=>hN H3 (by rw[e];exact q) (hS2.trans s3))
 ·refine hd H hS ?_
  rw[hDf,range_fm xs h]
theorem lc_Z (h:V->V->Option V) (hD:H1 D=none) (hn:xs.length≤sizeLine) (hx:SqL K H1 a xs) (hy:SqL K H1 b ys)
  (hs:∀ (i:Nat) x y H T (Y:VK) (N:Hp->Prop),xs[i]?=some x->ys[i]?=some y->Same H1 H->H T=some (.tup [x,y])->(∀ z H4,h x y=some z->Same H H4->Y z H4)->(∀ H3,h x y=none->Same H H3->N H3) ->
   g (.ref T) (wipe σ vs) H fun σ2 H2=>wipe σ2 vs=wipe σ vs∧tt σ2 H2 fun b H3=>if b=true then te σ2 H3 Y else N H3)
  (hd:∀ H,Same H1 H->H D=some (.lst ((xs.zip ys).filterMap fun z=>h z.1 z.2))->Qd H) :
  ∃ W:Nat->Nat->Hp->Prop,(∃ m,W 0 m (upd H1 D (.lst [])))∧∀ i m H,W i m H ->
   ((Itz K a b).stop i H∧Qd H)∨((Itz K a b).go i H∧∃ Nx:Hp->Prop,(∀ H',Nx H'->∃ m',m' < m∧W (i+1) m' H')∧∀ x H',(Itz K a b).yld i H x H'->g x (wipe σ vs) H' fun σ2 H2=>wipe σ2 vs=wipe σ vs∧tt σ2 H2 fun b H3 =>
    if b=true then te σ2 H3 fun y H4=>∃ acc,H4 D=some (.lst acc)∧acc.length < sizeLine∧Nx (upd H4 D (.lst (acc++[y]))) else Nx H3):=by
 refine lc_pure (J:=Itz K a b) (n:=min xs.length ys.length) (fun i=>(xs[i]?).bind fun x=>(ys[i]?).bind (h x)) hD (Nat.le_trans (Nat.min_le_left _ _) hn) (fun H hS=>⟨xs,ys,hS.seq hx,hS.seq hy,by omega⟩)
  (fun i H hi hS=>⟨xs,ys,_,_,hS.seq hx,hS.seq hy,List.getElem?_eq_getElem (by omega),List.getElem?_eq_getElem (by omega)⟩) ?_ (fun H hS hDf=>?_)
 ·rintro i H v H' Y N hi hS ⟨T,x,y,rfl,hT,rfl,h1,h2⟩ hY hN
  have e1:=h1 xs (hS.seq hx)
  have e2:=h2 ys (hS.seq hy)
  have hS2:Same H (upd H T (.tup [x,y])):=Same.new hT
  exact hs i x y _ T Y N e1 e2 (hS.trans hS2) k0f (fun z H4 q s4=>hY z H4 (by rw[e1];show (ys[i]?).bind (h x)=_;rw[e2];exact q) (hS2.trans s4)) (fun H3 q s3=>hN H3 (by rw[e1];show (ys[i]?).bind (h x)=_;rw[e2];exact q) (hS2.trans s3))
 ·refine hd H hS ?_
  rw[hDf,range_zip]
theorem lc_R {lo:Int} {n:Nat} (h:Nat->Option V) (hD:H1 D=none) (hn:n≤sizeLine)
  (hs:∀ i H (Y:VK) (N:Hp->Prop),i < n->Same H1 H->(∀ y H4,h i=some y->Same H H4->Y y H4)->(∀ H3,h i=none->Same H H3->N H3) ->
   g (.int (lo+i)) (wipe σ vs) H fun σ2 H2=>wipe σ2 vs=wipe σ vs∧tt σ2 H2 fun b H3=>if b=true then te σ2 H3 Y else N H3)
  (hd:∀ H,Same H1 H->H D=some (.lst ((List.range n).filterMap h))->Qd H) :
  ∃ W:Nat->Nat->Hp->Prop,(∃ m,W 0 m (upd H1 D (.lst [])))∧∀ i m H,W i m H ->
   ((Itr lo n).stop i H∧Qd H)∨((Itr lo n).go i H∧∃ Nx:Hp->Prop,(∀ H',Nx H'->∃ m',m' < m∧W (i+1) m' H')∧∀ x H',(Itr lo n).yld i H x H'->g x (wipe σ vs) H' fun σ2 H2=>wipe σ2 vs=wipe σ vs∧tt σ2 H2 fun b H3 =>
    if b=true then te σ2 H3 fun y H4=>∃ acc,H4 D=some (.lst acc)∧acc.length < sizeLine∧Nx (upd H4 D (.lst (acc++[y]))) else Nx H3):=by
 refine lc_pure (J:=Itr lo n) (n:=n) h hD hn (fun H hS=>Nat.le_refl _) (fun i H hi hS=>hi) ?_ hd
 rintro i H x H' Y N hi hS ⟨rfl,rfl⟩ hY hN
 exact hs i _ Y N hi hS hY hN
end
end L2
end
section
namespace L2
open PySem PySem.Spec PyProof.Rows
section
variable {X:Cx}
theorem k0v (K:PySem.W.Frag) {e:Expr} {ta:TE} {f:Str} {pos:Pos} (hK:X.K=K) (he:PE X e ta) (hb:attributeBase e f X.env (eval e X.env)=eval e X.env):PE X (.Attribute e f pos) (tFld K ta f):=hK▸pe_fld he hb
theorem k0w (K:PySem.W.Frag) (hK:X.K=K):IxR X (rIxL K):=hK▸ix_list
theorem ixK_tup (K:PySem.W.Frag) (hK:X.K=K):IxR X (rIxT K):=hK▸ix_tup
theorem getK_list (K:PySem.W.Frag) (hK:X.K=K):PGet X (rIxL K):=hK▸get_list
def rLen (K:PySem.W.Frag):List V->Hp->VK->Prop:=fun xs H Q=>∃ p ys,xs=[.ref p]∧(SqL K H p ys∨SqT K H p ys)∧Q (.int ys.length) H
theorem lenK (K:PySem.W.Frag) (hK:X.K=K):CallR X (.builtin "len") (rLen K):=hK▸call_len_seq
theorem sumK (K:PySem.W.Frag) (hK:X.K=K) (hc:X.calm=true):CallR X (.builtin "sum") (rSum K):=hK▸cr_sum hc
theorem allK (K:PySem.W.Frag) (hK:X.K=K) (hc:X.calm=true):CallR X (.builtin "all") (rAll K):=hK▸cr_all hc
theorem anyK (K:PySem.W.Frag) (hK:X.K=K) (hc:X.calm=true):CallR X (.builtin "any") (rAny K):=hK▸cr_any hc
theorem anyIK (K:PySem.W.Frag) (hK:X.K=K) (hc:X.calm=true):CallR X (.builtin "any") (rAnyI K):=hK▸cr_anyI hc
theorem maxK (K:PySem.W.Frag) (hK:X.K=K) (hc:X.calm=true):CallR X (.builtin "max") (rMax K):=hK▸cr_max hc
def rListOf (K:PySem.W.Frag):List V->Hp->VK->Prop:=fun xs H Q=>∃ p ys,xs=[.ref p]∧(SqL K H p ys∨SqT K H p ys)∧∀ l,H l=none->Q (.ref l) (upd H l (.lst ys))
theorem listK (K:PySem.W.Frag) (hK:X.K=K):CallR X (.type "list") (rListOf K):=hK▸call_list_of
theorem slK_list (K:PySem.W.Frag) (hK:X.K=K):SlR X (rSlL K):=hK▸sl_list
theorem pe_slice3K (K:PySem.W.Frag) {e ste:Expr} {te ts:TE} {lo hi:Option Expr} {tl th:TO} {pos p2:Pos} (hK:X.K=K) (he:PE X e te) (hl:PO X lo tl) (hu:PO X hi th) (hst:PE X ste ts):PE X (.Subscript e (.Slice lo hi (some ste) p2) pos) (tSl3 K te tl th ts):=hK▸pe_slice3 he hl hu hst
theorem pg_tupK (K:PySem.W.Frag) {es:List Expr} {k:Nat} {t:TGs} {n:Nat} {pos:Pos} (hK:X.K=K) (hc:X.calm=true) (h:PGs X es t)
  (hn:(assignEach es X.env).length=n:=by rfl) (hst:(assignEach es X.env).findIdx? (·.1)=none:=by rfl):PG X (.Tuple es k pos) (gTup K n t):=hK▸pg_tup hc h hn hst
theorem pe_gtupK (K:PySem.W.Frag) {x:Str} {xs:List V} {pos:Pos} (hK:X.K=K) (hg:Gl X x) (h:∃ a:Addr,X.mg x=some (.ref a)∧∀ H:Hp,SqT K H a xs) (hd:(x==("__debug__":Str))=false:=by decide):PE X (.Name x pos) (tGT K xs):=by
 subst hK
 exact pe_gtup hg h hd
theorem inK (K:PySem.W.Frag) (hK:X.K=K):OpR X (compareOp .In) (rIn K false):=hK▸op_in_seq
theorem pi_listK (K:PySem.W.Frag) {l tg:Expr} {tl:TE} (hK:X.K=K) (hl:PE X l tl):PI X tg l (iList K tl):=hK▸pi_list hl
theorem pi_enumK (K:PySem.W.Frag) {e:Expr} {ta:TA} {p pos tpos:Pos} {elts:List Expr} {kk:Nat} (hK:X.K=K) (hg:Gl X "enumerate") (hm:X.mg "enumerate"=none) (ha:PA X [e] ta) (hs:starEach [e] X.env=[(false,eval e X.env)]:=by rfl) :
  PI X (.Tuple elts kk tpos) (.Call (.Name "enumerate" p) [e] [] pos) (iEnum K ta):=hK▸pi_enum hg hm ha hs
theorem pi_zipK (K:PySem.W.Frag) {e e2:Expr} {ta:TA} {p pos tpos:Pos} {elts:List Expr} {kk:Nat} (hK:X.K=K) (hg:Gl X "zip") (hm:X.mg "zip"=none) (ha:PA X [e,e2] ta)
  (hs:starEach [e,e2] X.env=(false,eval e X.env)::starEach [e2] X.env:=by rfl) (hpl:(backTo pos (starEach [e2] X.env)).any (·.1)=false:=by rfl) :
  PI X (.Tuple elts kk tpos) (.Call (.Name "zip" p) [e,e2] [] pos) (iZip K ta):=hK▸pi_zip hg hm ha hs hpl
def tTru (K:PySem.W.Frag) (ta:TE):TT:=fun σ H Q=>ta σ H fun x H'=>∃ k,TruV K x H' k∧Q k H'
theorem k1r (K:PySem.W.Frag) {a:Expr} {ta:TE} (hK:X.K=K) (ha:PE X a ta) (he:∀ whole,isTrue a X.env whole=(do let v ← whole;standAt a.pos;holding [v] (truthy v))):PT X a (tTru K ta):=hK▸pt_truth ha he
end
end L2
end
section
namespace L2
open PySem
theorem zip3_type (a b c:Value):checkTypeCall "zip" ⟨[a,b,c],[]⟩=pure ():=by kernel_rfl
theorem zip3_made (a b c:Value):checkBuiltinCall "zip.__new__" ⟨[.type "zip",a,b,c],[]⟩=pure ():=by kernel_rfl
theorem zip3_init (a b c d:Value):argsOk "object.__init__" ⟨[a,b,c,d],[]⟩:=by
 unfold argsOk
 rw[signature?_of (id:="object.__init__") (n:=['_','_','t','i','n','i','_','_']) (o:=['t','c','e','j','b','o']) (by kernel_rfl) F.owner_object]
 kernel_rfl
abbrev Is3 (h:Heap) (T:Addr) (a b c:Value):Prop:=h.get? T=some { cls:=.type "tuple",data:=.seq #[a,b,c] }
structure Apart3 (z TI TO j1 j2 j3 m1 m2 m3:Addr):Prop where
 nd:[z,TI,TO,j1,j2,j3].Nodup
 l1:m1∉[z,TO,j1,j2,j3]
 l2:m2∉[z,TO,j1,j2,j3]
 l3:m3∉[z,TO,j1,j2,j3]
section
variable {prog:Program} {w:World} {A:Around} {E:Value->Shared->Prop} {s:Shared}
theorem upd3 {T:Addr} {a b c x:Value} {k:Nat} {Q:Unit->Shared->Prop} (gT:Is3 s.heap T a b c)
  (q:∀ g,g.get? T=some { cls:=.type "tuple",data:=.seq ((#[a,b,c]:Array Value).setIfInBounds k x) }->Heap.SameBut T s.heap g->Q () { s with heap:=g }) :
  wpAny (model prog w) A (updateSeq T (·.setIfInBounds k x)) Q E s:=by
 refine wpAny_updateSeq gT rfl (q _ ?_ (Heap.SameBut.update ..))
 rw[Heap.get?_update_self _ gT rfl]
 simp[Obj.mapSeq]
variable {z TI TO j1 j2 j3 m1 m2 m3:Addr}
theorem zip3_item {k:Nat} {xs ys zs:Array Value} {x y v a b c:Value} {Q:Value->Shared->Prop} (D:Apart3 z TI TO j1 j2 j3 m1 m2 m3)
  (gz:IsZip s.heap z TI TO .none) (gI:Is3 s.heap TI (.ref j1) (.ref j2) (.ref j3)) (gO:Is3 s.heap TO a b c)
  (t1:s.heap.IsListIter j1 m1 k) (t2:s.heap.IsListIter j2 m2 k) (t3:s.heap.IsListIter j3 m3 k) (p1:s.heap.IsList m1 xs) (p2:s.heap.IsList m2 ys) (p3:s.heap.IsList m3 zs)
  (ex:xs[k]?=some x) (ey:ys[k]?=some y) (ev:zs[k]?=some v)
  (q:∀ g,IsZip g z TI TO (rawInt s.heap.objs.size)->Is3 g TO x y v->g.IsListIter j1 m1 (k+1)->g.IsListIter j2 m2 (k+1)->g.IsListIter j3 m3 (k+1)->Is3 g s.heap.objs.size x y v ->
   g.objs.size=s.heap.objs.size+1->(∀ d o,d∉[z,TO,j1,j2,j3]->s.heap.get? d=some o->g.get? d=some o)->Q (.ref s.heap.objs.size) { s with heap:=g }) :
  wpAny (model prog w) A (Builtin.«zip.__next__» ⟨[.ref z],[]⟩) (fun fin s'=>∃ u,fin=.done (.ret u)∧Q u s') E s:=by
 obtain⟨nd,l1,l2,l3⟩:=D
 simp only[List.nodup_cons,List.mem_cons,not_or,List.not_mem_nil,not_false_eq_true,List.nodup_nil,and_true] at nd l1 l2 l3
 obtain⟨⟨zI,zO,z1,z2,z3⟩,⟨IO,I1,I2,I3⟩,⟨O1,O2,O3⟩,⟨j12,j13⟩,j23⟩:=nd
 obtain⟨a1,a2,a3,a4,a5⟩:=l1
 obtain⟨b1,b2,b3,b4,b5⟩:=l2
 obtain⟨c1,c2,c3,c4,c5⟩:=l3
 show wpAny _ _ (field (.ref z) 2 >>= _) _ _ _
 refine wpAny_bind (wpAny_field gz rfl (x:=.bool false) rfl ?_)
 show wpAny _ _ (field (.ref z) 3 >>= _) _ _ _
 refine wpAny_bind (wpAny_field gz rfl (x:=.ref TI) rfl (wpAny_bind (wpAny_seqItems gI rfl ?_)))
 show wpAny _ _ (Builtin.SmallTypes.ownedTupleIsFree (.ref z) >>= _) _ _ _
 refine wpAny_bind ?_
 unfold Builtin.SmallTypes.ownedTupleIsFree
 refine wpAny_bind (wpAny_field gz rfl (x:=.none) rfl (wpAny_pure ?_))
 simp only[if_true]
 refine wpAny_bind (wpAny_rule (wpAny_bind (wpAny_field gz rfl (x:=.ref TO) rfl (wpAny_bind (wpAny_setField_rec gz (by simp) fun g1 gz1 s1=>?_)))))
 replace gz1:IsZip g1 z TI TO .ellipsis:=gz1
 refine wpAny_bind ?_
 simp only[List.zipIdx_cons,List.zipIdx_nil,List.forIn_cons,List.forIn_nil]
 refine wpAny_bind (wpAny_bind (wpAny_onRaise ?_))
 show wpAny _ _ (Builtin.SmallTypes.nextOf (.ref j1) >>= _) _ _ _
 refine wpAny_bind (wpAny_nextOf_list_item (t1.extBut s1.extBut (Ne.symm z1)) (p1.extBut s1.extBut a1) ex fun g2 t12 s2=>wpAny_pure ?_)
 have gO2:Is3 g2 TO a b c:=s2.extBut _ _ O1 (s1.extBut _ _ (Ne.symm zO) gO)
 refine wpAny_bind (wpAny_seqItems gO2 rfl (wpAny_bind (upd3 gO2 fun g3 gO3 s3=>?_)))
 replace gO3:Is3 g3 TO x b c:=gO3
 refine wpAny_bind (wpAny_letGo (wpAny_pure ?_))
 refine wpAny_bind (wpAny_bind (wpAny_onRaise ?_))
 show wpAny _ _ (Builtin.SmallTypes.nextOf (.ref j2) >>= _) _ _ _
 refine wpAny_bind (wpAny_nextOf_list_item (((t2.extBut s1.extBut (Ne.symm z2)).extBut s2.extBut (Ne.symm j12)).extBut s3.extBut (Ne.symm O2)) (((p2.extBut s1.extBut b1).extBut s2.extBut b3).extBut s3.extBut b2) ey fun g4 t24 s4=>wpAny_pure ?_)
 have gO4:Is3 g4 TO x b c:=s4.extBut _ _ O2 gO3
 refine wpAny_bind (wpAny_seqItems gO4 rfl (wpAny_bind (upd3 gO4 fun g5 gO5 s5=>?_)))
 replace gO5:Is3 g5 TO x y c:=gO5
 refine wpAny_bind (wpAny_letGo (wpAny_pure ?_))
 refine wpAny_bind (wpAny_bind (wpAny_onRaise ?_))
 show wpAny _ _ (Builtin.SmallTypes.nextOf (.ref j3) >>= _) _ _ _
 refine wpAny_bind (wpAny_nextOf_list_item (((((t3.extBut s1.extBut (Ne.symm z3)).extBut s2.extBut (Ne.symm j13)).extBut s3.extBut (Ne.symm O3)).extBut s4.extBut (Ne.symm j23)).extBut s5.extBut (Ne.symm O3))
  (((((p3.extBut s1.extBut c1).extBut s2.extBut c3).extBut s3.extBut c2).extBut s4.extBut c4).extBut s5.extBut c2) ev fun g6 t36 s6=>wpAny_pure ?_)
 have gO6:Is3 g6 TO x y c:=s6.extBut _ _ O3 gO5
 refine wpAny_bind (wpAny_seqItems gO6 rfl (wpAny_bind (upd3 gO6 fun g7 gO7 s7=>?_)))
 replace gO7:Is3 g7 TO x y v:=gO7
 refine wpAny_bind (wpAny_letGo (wpAny_pure (wpAny_pure ?_)))
 refine wpAny_bind (wpAny_seqItems gO7 rfl (wpAny_bind (wpAny_newTuple ?_)))
 have sz:g7.objs.size=s.heap.objs.size:=by rw[s7.1,s6.1,s5.1,s4.1,s3.1,s2.1,s1.1]
 have gz7:IsZip g7 z TI TO .ellipsis:=s7.extBut _ _ zO (s6.extBut _ _ z3 (s5.extBut _ _ zO (s4.extBut _ _ z2 (s3.extBut _ _ zO (s2.extBut _ _ z1 gz1)))))
 have k7:∀ d o,d∉[z,TO,j1,j2,j3]->s.heap.get? d=some o->g7.get? d=some o:=fun d o hd e=>by
  simp only[List.mem_cons,not_or,List.not_mem_nil,not_false_eq_true,and_true] at hd
  obtain⟨d1,d2,d3,d4,d5⟩:=hd
  exact s7.extBut _ _ d2 (s6.extBut _ _ d5 (s5.extBut _ _ d2 (s4.extBut _ _ d4 (s3.extBut _ _ d2 (s2.extBut _ _ d3 (s1.extBut _ _ d1 e))))))
 have t17:g7.IsListIter j1 m1 (k+1):=((((t12.extBut s3.extBut (Ne.symm O1)).extBut s4.extBut j12).extBut s5.extBut (Ne.symm O1)).extBut s6.extBut j13).extBut s7.extBut (Ne.symm O1)
 have t27:g7.IsListIter j2 m2 (k+1):=((t24.extBut s5.extBut (Ne.symm O2)).extBut s6.extBut j23).extBut s7.extBut (Ne.symm O2)
 have t37:g7.IsListIter j3 m3 (k+1):=t36.extBut s7.extBut (Ne.symm O3)
 have zlt:z < g7.objs.size:=Heap.lt_size gz7
 show wpAny _ _ (Builtin.SmallTypes.ownedTupleHandOut (.ref z) (.ref g7.objs.size) >>= _) _ _ _
 refine wpAny_bind ?_
 unfold Builtin.SmallTypes.ownedTupleHandOut
 have gz8:IsZip (g7.push { cls:=.type "tuple",data:=.seq #[x,y,v] }) z TI TO .ellipsis:=Heap.get?_push_of_some _ gz7
 refine wpAny_bind (wpAny_setField_rec gz8 (by simp) fun g9 gz9 s9=>?_)
 replace gz9:IsZip g9 z TI TO (rawInt g7.objs.size):=gz9
 refine wpAny_setField_rec gz9 (by simp) fun gA gzA sA=>?_
 replace gzA:IsZip gA z TI TO (rawInt g7.objs.size):=gzA
 have up:∀ d o,d≠z->g7.get? d=some o->gA.get? d=some o:=fun d o hd e=>sA.extBut _ _ hd (s9.extBut _ _ hd (Heap.get?_push_of_some _ e))
 have gT:Is3 gA g7.objs.size x y v:=sA.extBut _ _ (Nat.ne_of_gt zlt) (s9.extBut _ _ (Nat.ne_of_gt zlt) (Heap.get?_push_size _ rfl))
 have szA:gA.objs.size=g7.objs.size+1:=by rw[sA.1,s9.1,Heap.size_push]
 rw[sz] at gzA gT szA
 refine wpAny_pure ⟨_,rfl,?_⟩
 show Q (.ref g7.objs.size) _
 rw[sz]
 exact q gA gzA (up _ _ (Ne.symm zO) gO7) (t17.at fun o e=>up _ o (Ne.symm z1) e) (t27.at fun o e=>up _ o (Ne.symm z2) e) (t37.at fun o e=>up _ o (Ne.symm z3) e) gT szA
  fun d o hd e=>up d o (fun e'=>hd (by simp[e'])) (k7 d o hd e)
end
end L2
end
section
namespace L2
open PySem
section
variable {prog:Program} {w:World} {A:Around} {E:Value->Shared->Prop} {s:Shared} {z TI TO j1 j2 j3 m1 m2 m3:Addr}
theorem zip3_end {k:Nat} {xs:Array Value} {Q:Fin->Shared->Prop} (hh:A.handled=none) (D:Apart3 z TI TO j1 j2 j3 m1 m2 m3)
  (gz:IsZip s.heap z TI TO .none) (gI:Is3 s.heap TI (.ref j1) (.ref j2) (.ref j3)) (t1:s.heap.IsListIter j1 m1 k) (p1:s.heap.IsList m1 xs) (ex:xs[k]?=none)
  (q:∀ g e,(∀ d o,d∉[z,TO,j1,j2,j3]->s.heap.get? d=some o->g.get? d=some o)->(∃ o,g.get? e=some o∧o.cls=.type "StopIteration")->E (.ref e) { s with heap:=g }) :
  wpAny (model prog w) A (Builtin.«zip.__next__» ⟨[.ref z],[]⟩) Q E s:=by
 obtain⟨nd,l1,l2,l3⟩:=D
 simp only[List.nodup_cons,List.mem_cons,not_or,List.not_mem_nil,not_false_eq_true,List.nodup_nil,and_true] at nd l1
 obtain⟨⟨zI,zO,z1,z2,z3⟩,_⟩:=nd
 obtain⟨a1,a2,a3,a4,a5⟩:=l1
 show wpAny _ _ (field (.ref z) 2 >>= _) _ _ _
 refine wpAny_bind (wpAny_field gz rfl (x:=.bool false) rfl ?_)
 show wpAny _ _ (field (.ref z) 3 >>= _) _ _ _
 refine wpAny_bind (wpAny_field gz rfl (x:=.ref TI) rfl (wpAny_bind (wpAny_seqItems gI rfl ?_)))
 show wpAny _ _ (Builtin.SmallTypes.ownedTupleIsFree (.ref z) >>= _) _ _ _
 refine wpAny_bind ?_
 unfold Builtin.SmallTypes.ownedTupleIsFree
 refine wpAny_bind (wpAny_field gz rfl (x:=.none) rfl (wpAny_pure ?_))
 simp only[if_true]
 refine wpAny_bind (wpAny_rule (wpAny_bind (wpAny_field gz rfl (x:=.ref TO) rfl (wpAny_bind (wpAny_setField_rec gz (by simp) fun g1 gz1 s1=>?_)))))
 replace gz1:IsZip g1 z TI TO .ellipsis:=gz1
 refine wpAny_bind ?_
 simp only[List.zipIdx_cons,List.zipIdx_nil,List.forIn_cons,List.forIn_nil]
 refine wpAny_bind (wpAny_bind (wpAny_onRaise ?_))
 show wpAny _ _ (Builtin.SmallTypes.nextOf (.ref j1) >>= _) _ _ _
 refine wpAny_bind (wpAny_nextOf_list_end hh (t1.extBut s1.extBut (Ne.symm z1)) (p1.extBut s1.extBut a1) ex fun g2 e s2 ⟨oe,ho,hc⟩=>?_)
 have gz2:IsZip g2 z TI TO .ellipsis:=s2 _ _ z1 gz1
 have ez:e≠z:=fun e'=>by subst e';rw[gz2] at ho;cases ho;simp at hc
 refine wpAny_setField_rec gz2 (by simp) fun g3 _ s3=>q g3 e (fun d o hd x=>?_) ⟨oe,s3.extBut _ _ ez ho,hc⟩
 simp only[List.mem_cons,not_or,List.not_mem_nil,not_false_eq_true,and_true] at hd
 exact s3.extBut _ _ hd.1 (s2 _ _ hd.2.2.1 (s1.extBut _ _ hd.1 x))
theorem next3_item {k:Nat} {xs ys zs:Array Value} {x y v a b c:Value} {Q:Option Value->Shared->Prop} (D:Apart3 z TI TO j1 j2 j3 m1 m2 m3)
  (gz:IsZip s.heap z TI TO .none) (gI:Is3 s.heap TI (.ref j1) (.ref j2) (.ref j3)) (gO:Is3 s.heap TO a b c)
  (t1:s.heap.IsListIter j1 m1 k) (t2:s.heap.IsListIter j2 m2 k) (t3:s.heap.IsListIter j3 m3 k) (p1:s.heap.IsList m1 xs) (p2:s.heap.IsList m2 ys) (p3:s.heap.IsList m3 zs)
  (ex:xs[k]?=some x) (ey:ys[k]?=some y) (ev:zs[k]?=some v)
  (q:∀ g,IsZip g z TI TO (rawInt s.heap.objs.size)->Is3 g TO x y v->g.IsListIter j1 m1 (k+1)->g.IsListIter j2 m2 (k+1)->g.IsListIter j3 m3 (k+1)->Is3 g s.heap.objs.size x y v ->
   g.objs.size=s.heap.objs.size+1->(∀ d o,d∉[z,TO,j1,j2,j3]->s.heap.get? d=some o->g.get? d=some o)->Q (some (.ref s.heap.objs.size)) { s with heap:=g }) :
  wpAny (model prog w) A (pyNext (.ref z)) Q E s:=by
 have ty:s.TypeIs (.ref z) "zip":=⟨_,gz,rfl⟩
 unfold pyNext
 exact wpAny_bind (wpAny_attempt (wpAny_callSpecial?_slot (name:=Str.ofString "__next__") ty F.slot_zip_next
  (wpAny_call_entry F.slot_zip_next ty F.entry_zip_next (zip3_item D gz gI gO t1 t2 t3 p1 p2 p3 ex ey ev fun g q1 q2 q3 q4 q5 q6 q7 q8=>wpAny_pure (q g q1 q2 q3 q4 q5 q6 q7 q8)) (F.args_zip_next_1 _))))
theorem next3_end {k:Nat} {xs:Array Value} {Q:Option Value->Shared->Prop} (hh:A.handled=none) (D:Apart3 z TI TO j1 j2 j3 m1 m2 m3)
  (gz:IsZip s.heap z TI TO .none) (gI:Is3 s.heap TI (.ref j1) (.ref j2) (.ref j3)) (t1:s.heap.IsListIter j1 m1 k) (p1:s.heap.IsList m1 xs) (ex:xs[k]?=none)
  (q:∀ g,(∀ d o,d∉[z,TO,j1,j2,j3]->s.heap.get? d=some o->g.get? d=some o)->Q none { s with heap:=g }):wpAny (model prog w) A (pyNext (.ref z)) Q E s:=by
 have ty:s.TypeIs (.ref z) "zip":=⟨_,gz,rfl⟩
 unfold pyNext
 refine wpAny_bind (wpAny_attempt (wpAny_callSpecial?_slot (name:=Str.ofString "__next__") ty F.slot_zip_next
  (wpAny_call_entry F.slot_zip_next ty F.entry_zip_next (zip3_end hh D gz gI t1 p1 ex fun g e kk ⟨o,ho,hc⟩=>?_) (F.args_zip_next_1 _))))
 exact wpAny_bind (wpAny_isInstance (T:="StopIteration") (b:=true) ⟨o,ho,hc⟩ isSubtype_stop (wpAny_pure (q _ kk)))
end
abbrev zg3 (h:Heap) (m1 m2 m3:Addr):Heap:=((h.push { cls:=.type "list_iterator",data:=.fields #[.ref m1,.int 0 0] }).push { cls:=.type "list_iterator",data:=.fields #[.ref m2,.int 0 0] }).push { cls:=.type "list_iterator",data:=.fields #[.ref m3,.int 0 0] }
abbrev zg4 (h:Heap) (m1 m2 m3:Addr):Heap:=(zg3 h m1 m2 m3).push { cls:=.type "tuple",data:=.seq #[.ref h.objs.size,.ref (h.push { cls:=.type "list_iterator",data:=.fields #[.ref m1,.int 0 0] }).objs.size,.ref ((h.push { cls:=.type "list_iterator",data:=.fields #[.ref m1,.int 0 0] }).push { cls:=.type "list_iterator",data:=.fields #[.ref m2,.int 0 0] }).objs.size] }
abbrev zg5 (h:Heap) (m1 m2 m3:Addr):Heap:=(zg4 h m1 m2 m3).push { cls:=.type "tuple",data:=.seq #[.none,.none,.none] }
abbrev zg6 (h:Heap) (m1 m2 m3:Addr):Heap:=(zg5 h m1 m2 m3).push { cls:=.type "zip",data:=.fields #[.none,.bool false,.bool false,.ref (zg3 h m1 m2 m3).objs.size,.ref (zg4 h m1 m2 m3).objs.size] }
theorem zip3_new (m1 m2 m3:Addr) (xs ys zs:Array Value) :
  Meets (Builtin.«zip.__new__» ⟨[.type "zip",.ref m1,.ref m2,.ref m3],[]⟩) (fun _ R s=>s.heap.IsList m1 xs∧s.heap.IsList m2 ys∧s.heap.IsList m3 zs ∧
   R (.ok (.ret (.ref (zg5 s.heap m1 m2 m3).objs.size))) { s with heap:=zg6 s.heap m1 m2 m3 }) :=
 .of_wp fun prog w A R s h=>by
  obtain⟨hp,g,d,tk,os⟩:=s
  obtain⟨p1,p2,p3,h⟩:=h
  have hsub:=sub_zip
  have q1:Heap.IsList (Shared.heap ⟨hp,g,d,tk,os⟩) m1 xs:=p1
  have q2:Heap.IsList (Shared.heap ⟨hp.push { cls:=.type "list_iterator",data:=.fields #[.ref m1,.int 0 0] },g,d,tk,os⟩) m2 ys:=Heap.IsList.push p2 _
  have q3:Heap.IsList (Shared.heap ⟨(hp.push { cls:=.type "list_iterator",data:=.fields #[.ref m1,.int 0 0] }).push { cls:=.type "list_iterator",data:=.fields #[.ref m2,.int 0 0] },g,d,tk,os⟩) m3 zs:=Heap.IsList.push (Heap.IsList.push p3 _) _
  wp_walk using wpAny_pyIter_list q1,wpAny_pyIter_list q2,wpAny_pyIter_list q3
  exact⟨_,rfl,h⟩
section
variable {prog:Program} {w:World} {A:Around} {E:Value->Shared->Prop} {s:Shared}
theorem call_zip3 {m1 m2 m3:Addr} {xs ys zs:Array Value} {Q:Value->Shared->Prop} (p1:s.heap.IsList m1 xs) (p2:s.heap.IsList m2 ys) (p3:s.heap.IsList m3 zs)
  (q:∀ g,IsZip g (s.heap.objs.size+5) (s.heap.objs.size+3) (s.heap.objs.size+4) .none->Is3 g (s.heap.objs.size+3) (.ref s.heap.objs.size) (.ref (s.heap.objs.size+1)) (.ref (s.heap.objs.size+2)) ->
   Is3 g (s.heap.objs.size+4) .none .none .none->g.IsListIter s.heap.objs.size m1 0->g.IsListIter (s.heap.objs.size+1) m2 0->g.IsListIter (s.heap.objs.size+2) m3 0 ->
   (∀ c o,s.heap.get? c=some o->g.get? c=some o)->Q (.ref (s.heap.objs.size+5)) { s with heap:=g }) :
  wpAny (model prog w) A (call (.type "zip") [.ref m1,.ref m2,.ref m3]) Q E s:=by
 refine callType_new F.called_zip (by decide) (zip3_type _ _ _) (zip3_made _ _ _) (fun obj=>zip3_init obj _ _ _) F.entry_zip_new (zip3_new m1 m2 m3 xs ys zs) ⟨p1,p2,p3,?_⟩
 have e1:(s.heap.push { cls:=.type "list_iterator",data:=.fields #[.ref m1,.int 0 0] }).objs.size=s.heap.objs.size+1:=Heap.size_push ..
 have e2:((s.heap.push { cls:=.type "list_iterator",data:=.fields #[.ref m1,.int 0 0] }).push { cls:=.type "list_iterator",data:=.fields #[.ref m2,.int 0 0] }).objs.size=s.heap.objs.size+2:=by rw[Heap.size_push,e1]
 have e3:(zg3 s.heap m1 m2 m3).objs.size=s.heap.objs.size+3:=by rw[Heap.size_push,e2]
 have e4:(zg4 s.heap m1 m2 m3).objs.size=s.heap.objs.size+4:=by rw[Heap.size_push,e3]
 have e5:(zg5 s.heap m1 m2 m3).objs.size=s.heap.objs.size+5:=by rw[Heap.size_push,e4]
 have r6:(zg6 s.heap m1 m2 m3).get? (zg5 s.heap m1 m2 m3).objs.size=some _:=Heap.get?_push_size _ rfl
 have r5:(zg6 s.heap m1 m2 m3).get? (zg4 s.heap m1 m2 m3).objs.size=some _:=Heap.get?_push_of_some _ (Heap.get?_push_size _ rfl)
 have r4:(zg6 s.heap m1 m2 m3).get? (zg3 s.heap m1 m2 m3).objs.size=some _:=Heap.get?_push_of_some _ (Heap.get?_push_of_some _ (Heap.get?_push_size _ rfl))
 have r3:(zg6 s.heap m1 m2 m3).get? ((s.heap.push { cls:=.type "list_iterator",data:=.fields #[.ref m1,.int 0 0] }).push { cls:=.type "list_iterator",data:=.fields #[.ref m2,.int 0 0] }).objs.size=some _ :=
  Heap.get?_push_of_some _ (Heap.get?_push_of_some _ (Heap.get?_push_of_some _ (Heap.get?_push_size _ rfl)))
 have r2:(zg6 s.heap m1 m2 m3).get? (s.heap.push { cls:=.type "list_iterator",data:=.fields #[.ref m1,.int 0 0] }).objs.size=some _ :=
  Heap.get?_push_of_some _ (Heap.get?_push_of_some _ (Heap.get?_push_of_some _ (Heap.get?_push_of_some _ (Heap.get?_push_size _ rfl))))
 have r1:(zg6 s.heap m1 m2 m3).get? s.heap.objs.size=some _:=Heap.get?_push_of_some _ (Heap.get?_push_of_some _ (Heap.get?_push_of_some _ (Heap.get?_push_of_some _ (Heap.get?_push_of_some _ (Heap.get?_push_size _ rfl)))))
 show _∧_
 rw[e3,e4,e5] at r6
 rw[e4] at r5
 rw[e1,e2,e3] at r4
 rw[e2] at r3
 rw[e1] at r2
 rw[e5]
 exact⟨⟨_,r6,rfl⟩,q _ r6 r4 r5 ⟨_,r1,rfl,rfl⟩ ⟨_,r2,rfl,rfl⟩ ⟨_,r3,rfl,rfl⟩ fun c o x =>
  Heap.get?_push_of_some _ (Heap.get?_push_of_some _ (Heap.get?_push_of_some _ (Heap.get?_push_of_some _ (Heap.get?_push_of_some _ (Heap.get?_push_of_some _ x)))))⟩
end
end L2
end
section
namespace L2
open PySem
theorem maxD_args (a d:Value):argsOk "max" ⟨[a],[("default",d)]⟩:=by unfold argsOk;kernel_rfl
theorem maxD_bind (d:Value):Builtin.Builtins.bindParams "max" ["key","default"] 0 ⟨[],[("default",d)]⟩=pure [none,some d]:=by kernel_rfl
theorem maxD_name:(toString "max"++toString ".loop":String)="max.loop":=by decide
section
variable {prog:Program} {w:World} {A:Around} {R:Result->Shared->Prop} {I:Addr} {fp wr:List Addr} {n:Nat} {P:Nat->Value->Prop} {St:Nat->Heap->Prop} {d:Value}
theorem maxD_loop (W:Walks prog w A.in1 I fp wr n P St) (bt:Nat->Nat->Bool) (cmp:CmpOf prog w A.in1 .Gt P bt) (S:Addr) (nf:S∉fp) :
  ∀ (m j:Nat) (s:Shared) (u:Value) (c:Nat),n - (j+1)=m->j+1≤n->St (j+1) s.heap->P (argBest bt j) u->s.heap.get? S=some { cls:=.type "list",dict:=none,data:=.seq #[u,u] c,slots:=#[] } ->
  (∀ v g tk,P (argBest bt (n - 1)) v->(∀ b o,b∉wr->b≠S->s.heap.get? b=some o->g.get? b=some o)->R (.ok (.ret v)) { s with heap:=g,toks:=tk }) ->
  codeAny (model prog w) A (.builtin "max.loop" ⟨[.ref I,.none,.ref S],[("default",d)]⟩) R s:=by
 have nw:S∉wr:=fun e=>nf (W.sub _ e)
 intro m
 induction m with
 | zero =>
  intro j s u c em hj st pu gS r
  have ej:j+1=n:=by omega
  refine codeAny_builtin F.entry_max_loop ?_
  rw[Around.under_plainId F.plain_max_loop _]
  show wpAny _ A.in1 (seqItems? (.ref S) >>= _) _ _ s
  refine wpAny_bind (wpAny_seqItems gS rfl ?_)
  show wpAny _ A.in1 (tryCatch (pyNext (.ref I)) _ >>= _) _ _ s
  refine wpAny_bind (wpAny_tryCatch (W.done s _ _ (ej▸st) fun g tk kk=>?_))
  show wpAny _ A.in1 (updateSeq S (fun _=>#[]) >>= _) _ _ _
  refine wpAny_bind (wpAny_updateSeq (kk S _ nw gS) rfl (wpAny_bind (wpAny_letGo (wpAny_pure ?_))))
  exact r u _ tk (by rw[← ej];exact pu) fun b o hb hS e=>(Heap.get?_update_other _ _ (Ne.symm hS)).trans (kk b o hb e)
 | succ m ih =>
  intro j s u c em hj st pu gS r
  have lt:j+1 < n:=by omega
  refine codeAny_builtin F.entry_max_loop ?_
  rw[Around.under_plainId F.plain_max_loop _]
  show wpAny _ A.in1 (seqItems? (.ref S) >>= _) _ _ s
  refine wpAny_bind (wpAny_seqItems gS rfl ?_)
  show wpAny _ A.in1 (tryCatch (pyNext (.ref I)) _ >>= _) _ _ s
  refine wpAny_bind (wpAny_tryCatch (W.item (j+1) s _ _ lt st fun v g tk pv st' kk=>?_))
  have gS':=kk S _ nw gS
  show wpAny _ A.in1 (tryCatch (holding [v,v] (richCompare .Gt v u >>= _)) _ >>= _) _ _ _
  refine wpAny_bind (wpAny_tryCatch (wpAny_holding (wpAny_bind (cmp (j+1) (argBest bt j) v u _ _ _ pv pu (wpAny_bind (wpAny_holding (wpAny_truthy_bool (wpAny_bind (wpAny_letGo (wpAny_pure ?_))))))))))
  cases hb:bt (j+1) (argBest bt j) with
  | true =>
   simp only[if_true]
   refine wpAny_bind (wpAny_updateSeq gS' rfl (wpAny_bind (wpAny_letGo ?_)))
   rw[maxD_name]
   refine wpAny_pure ⟨plainId_quiet F.plain_max_loop _,ih (j+1) _ v _ (by omega) lt (W.frame _ _ _ st' fun b hbf o e=>?_) (by simp only[argBest,hb,if_true];exact pv) (Heap.get?_update_self _ gS' rfl) fun v' g' tk' pv' kk'=>?_⟩
   ·exact (Heap.get?_update_other _ _ (fun e':S=b=>nf (by rw[e'];exact hbf))).trans e
   ·exact r v' g' tk' pv' fun b o hw hS e=>kk' b o hw hS ((Heap.get?_update_other _ _ (Ne.symm hS)).trans (kk b o hw e))
  | false =>
   simp only[Bool.false_eq_true,if_false]
   refine wpAny_bind (wpAny_letGo ?_)
   rw[maxD_name]
   refine wpAny_pure ⟨plainId_quiet F.plain_max_loop _,ih (j+1) _ u c (by omega) lt st' (by simp only[argBest,hb,Bool.false_eq_true,if_false];exact pu) gS' fun v' g' tk' pv' kk'=>?_⟩
   exact r v' g' tk' pv' fun b o hw hS e=>kk' b o hw hS (kk b o hw e)
theorem maxD_first (W:Walks prog w A.in1 I fp wr n P St) (bt:Nat->Nat->Bool) (cmp:CmpOf prog w A.in1 .Gt P bt) (S:Addr) (nf:S∉fp) {s:Shared} {c:Nat} (st:St 0 s.heap)
  (gS:s.heap.get? S=some { cls:=.type "list",dict:=none,data:=.seq #[] c,slots:=#[] })
  (r:∀ v g tk,(n=0∧v=d∨0 < n∧P (argBest bt (n - 1)) v)->(∀ b o,b∉wr->b≠S->s.heap.get? b=some o->g.get? b=some o)->R (.ok (.ret v)) { s with heap:=g,toks:=tk }) :
  codeAny (model prog w) A (.builtin "max.loop" ⟨[.ref I,.none,.ref S],[("default",d)]⟩) R s:=by
 have nw:S∉wr:=fun e=>nf (W.sub _ e)
 refine codeAny_builtin F.entry_max_loop ?_
 rw[Around.under_plainId F.plain_max_loop _]
 show wpAny _ A.in1 (seqItems? (.ref S) >>= _) _ _ s
 refine wpAny_bind (wpAny_seqItems gS rfl ?_)
 show wpAny _ A.in1 (tryCatch (pyNext (.ref I)) _ >>= _) _ _ s
 rcases Nat.eq_zero_or_pos n with e0|h0
 ·subst e0
  refine wpAny_bind (wpAny_tryCatch (W.done s _ _ st fun g tk kk=>?_))
  exact wpAny_bind (wpAny_rule (wpAny_pure (r d g tk (.inl ⟨rfl,rfl⟩) fun b o hw _ e=>kk b o hw e)))
 ·refine wpAny_bind (wpAny_tryCatch (W.item 0 s _ _ h0 st fun v g tk pv st' kk=>?_))
  have gS':=kk S _ nw gS
  show wpAny _ A.in1 (updateSeq S (fun _=>#[v,v]) >>= _) _ _ _
  refine wpAny_bind (wpAny_updateSeq gS' rfl ?_)
  rw[maxD_name]
  refine wpAny_pure ⟨plainId_quiet F.plain_max_loop _,maxD_loop W bt cmp S nf _ 0 _ v _ rfl h0 (W.frame _ _ _ st' fun b hbf o e=>?_) pv (Heap.get?_update_self _ gS' rfl) fun v' g' tk' pv' kk'=>?_⟩
  ·exact (Heap.get?_update_other _ _ (fun e':S=b=>nf (by rw[e'];exact hbf))).trans e
  ·exact r v' g' tk' (.inr ⟨h0,pv'⟩) fun b o hw hS e=>kk' b o hw hS ((Heap.get?_update_other _ _ (Ne.symm hS)).trans (kk b o hw e))
end
section
variable {prog:Program} {w:World} {A:Around} {E:Value->Shared->Prop} {s:Shared}
theorem kw_tree {id:String} {b:Builtin} {args:List Value} {kw:List (Str × Value)} {Q:Value->Shared->Prop} (kn:builtinKind id=none) (pl:plainId id=true) (en:entryFor table id=some b) (ok:argsOk id ⟨args,kw⟩)
  (q:wpAny (model prog w) A.in1 (b ⟨args,kw⟩) (fun fin s'=>match fin with
   | .done f=>(match (Except.ok f:Result) with|.ok (.ret v)=>Q v s'|.ok _=>False|.error e=>E e s')
   | .again c=>c.quiet=true∧codeAny (model prog w) A c (fun r s'=>match r with|.ok (.ret v)=>Q v s'|.ok _=>False|.error e=>E e s') s') E s) :
  wpAny (model prog w) A (call (.builtin id) args kw) Q E s:=by
 refine wpAny_call (codeAny_call_builtin pl en ?_)
 simp only[checkBuiltinCall,kn]
 cases sg:Manifest.signature? id with
 | none=>exact wpAny_pure q
 | some sig =>
  have e:Bind.checkArgs id sig ⟨args,kw⟩=pure ():=by simpa only [argsOk,sg] using ok
  simp only[e]
  exact wpAny_pure q
theorem maxD_walk {x d:Value} {Q:Value->Shared->Prop}
  (h:wpAny (model prog w) A.in1 (pyIter x) (fun it s1=>∃ I fp wr n P St bt,it=.ref I∧Walks prog w A.in1 I fp wr n P St∧St 0 s1.heap∧(∀ b∈fp,b < s1.heap.objs.size)∧CmpOf prog w A.in1 .Gt P bt ∧
   ∀ v g tk,(n=0∧v=d∨0 < n∧P (argBest bt (n - 1)) v)->(∀ b o,b∉wr->s1.heap.get? b=some o->g.get? b=some o)->Q v { s1 with heap:=g,toks:=tk }) E s) :
  wpAny (model prog w) A (call (.builtin "max") [x] [("default",d)]) Q E s:=by
 refine kw_tree F.kind_max F.plain_max F.entry_max (maxD_args _ _) ?_
 show wpAny _ A.in1 (Builtin.Builtins.bindParams "max" ["key","default"] 0 ⟨[],[("default",d)]⟩ >>= _) _ _ s
 refine wpAny_bind (wpAny_of_eq (maxD_bind d) (wpAny_bind (wpAny_pure (wpAny_bind (wpAny_mono h (fun it s1 h1=>?_) fun _ _ e=>e)))))
 obtain⟨I,fp,wr,n,P,St,bt,rfl,W,st,lt,cmp,q⟩:=h1
 refine wpAny_bind (wpAny_newObj_type ?_)
 have nf:s1.heap.objs.size∉fp:=fun e=>Nat.lt_irrefl _ (lt _ e)
 rw[maxD_name]
 refine wpAny_pure ⟨plainId_quiet F.plain_max_loop _,maxD_first W bt cmp s1.heap.objs.size nf (W.frame _ _ _ st fun b _ o e=>Heap.get?_push_of_some _ e) (Heap.get?_push_size _ rfl) fun v g tk pv kk=>?_⟩
 exact q v g tk pv fun b o hw e=>kk b o hw (Nat.ne_of_lt (Heap.lt_size e)) (Heap.get?_push_of_some _ e)
theorem maxD_ints {l:Addr} {xs:Array (Int × Tok)} {d:Value} {Q:Value->Shared->Prop} (hh:A.handled=none) (hl:s.heap.IsList l (intItems xs))
  (h:∀ v g tk,(xs.size=0∧v=d∨0 < xs.size∧(intItems xs)[argBest (fun i j=>decide (numAt xs i > numAt xs j)) (xs.size - 1)]?=some v)->(∀ b o,s.heap.get? b=some o->g.get? b=some o)->Q v { s with heap:=g,toks:=tk }) :
  wpAny (model prog w) A (call (.builtin "max") [.ref l] [("default",d)]) Q E s:=by
 refine maxD_walk (iter_intList hl fun s1 e st lt ne=>?_)
 subst e
 have sz:(intItems xs).size=xs.size:=by simp[intItems]
 refine⟨_,_,_,_,_,_,_,rfl,Walks.list (A:=A.in1) hh _ l ne (intItems xs),st,lt,CmpOf.ints_gt (numAt xs) (fun _ _=>intItems_at),fun v g tk pv kk=>?_⟩
 rw[sz] at pv
 exact h v g tk pv (old_kept kk)
end
end L2
end
section
namespace L2
open PySem PySem.Spec PyProof.Rows
def Itz3 (K:PySem.W.Frag) (a b c:Addr):It :=
 ⟨fun i H=>∃ (xs ys zs:List V) (x y z:V),SqL K H a xs∧SqL K H b ys∧SqL K H c zs∧xs[i]?=some x∧ys[i]?=some y∧zs[i]?=some z,
  fun i H v H'=>∃ T x y z,v=.ref T∧H T=none∧H'=upd H T (.tup [x,y,z])∧(∀ xs,SqL K H a xs->xs[i]?=some x)∧(∀ ys,SqL K H b ys->ys[i]?=some y)∧∀ zs,SqL K H c zs->zs[i]?=some z,
  fun i H=>∃ xs:List V,SqL K H a xs∧xs.length≤i⟩
theorem turn_zip3 {P:Program} {w:World} {K:PySem.W.Frag} {elts:List Expr} {kk:Nat} {tpos:Pos} {a b c z TI TO j1 j2 j3:Addr} (D:Apart3 z TI TO j1 j2 j3 a b c) :
  Turn P w K (.Tuple elts kk tpos) (Itz3 K a b c) [z,TI,TO,j1,j2,j3] z (fun i h=>IsZip h z TI TO .none∧Is3 h TI (.ref j1) (.ref j2) (.ref j3)∧(∃ x y v,Is3 h TO x y v)∧h.IsListIter j1 a i∧h.IsListIter j2 b i∧h.IsListIter j3 c i) where
 mem:=by simp
 obj:=fun i h st d hd=>by
  obtain⟨hz,hI,⟨x,y,v,hO⟩,⟨o1,e1,_,d1⟩,⟨o2,e2,_,d2⟩,⟨o3,e3,_,d3⟩⟩:=st
  have e':d=z∨d=TI∨d=TO∨d=j1∨d=j2∨d=j3:=by simpa using hd
  rcases e' with q|q|q|q|q|q
  ·rw[q];exact⟨_,hz,fun v q=>nomatch q⟩
  ·rw[q];exact⟨_,hI,fun v q=>nomatch q⟩
  ·rw[q];exact⟨_,hO,fun v q=>nomatch q⟩
  ·rw[q];exact⟨o1,e1,fun v q=>by rw[d1] at q;cases q⟩
  ·rw[q];exact⟨o2,e2,fun v q=>by rw[d2] at q;cases q⟩
  ·rw[q];exact⟨o3,e3,fun v q=>by rw[d3] at q;cases q⟩
 keep:=fun i h h' st k=>by
  obtain⟨hz,hI,⟨x,y,v,hO⟩,h1,h2,h3⟩:=st
  exact⟨k z (by simp) _ hz,k TI (by simp) _ hI,⟨x,y,v,k TO (by simp) _ hO⟩,h1.at fun o q=>k j1 (by simp) o q,h2.at fun o q=>k j2 (by simp) o q,h3.at fun o q=>k j3 (by simp) o q⟩
 item:=by
  intro X hP hw hK hc i pins s σ H E I hf st hg
  subst hP hw hK
  obtain⟨hz,hI,⟨x0,y0,v0,hO⟩,h1,h2,h3⟩:=st
  obtain⟨xs,ys,zs,x,y,v,qx,qy,qv,hx,hy,hv⟩:=hg
  obtain⟨its,rv,p,_⟩:=I.list qx
  obtain⟨its2,rv2,p2,_⟩:=I.list qy
  obtain⟨its3,rv3,p3,_⟩:=I.list qv
  obtain⟨u,hu,ru⟩:=rv.get hx
  obtain⟨u2,hu2,ru2⟩:=rv2.get hy
  obtain⟨u3,hu3,ru3⟩:=rv3.get hv
  have hzl:z < s.heap.objs.size:=Heap.lt_size hz
  have nd:=D.nd
  simp only[List.nodup_cons,List.mem_cons,not_or,List.not_mem_nil,not_false_eq_true,List.nodup_nil,and_true] at nd
  refine next3_item D hz hI hO h1 h2 h3 p.isList p2.isList p3.isList (x:=u) (y:=u2) (v:=u3) (by simpa using hu) (by simpa using hu2) (by simpa using hu3) fun h' z' O' h1' h2' h3' hT hsz hk=>?_
  refine⟨_,rfl,wpAny_letOwnedTupleGo_zip (s:={ s with heap:=h' }) z' fun h'' z'' sb=>?_⟩
  have hT2:h''.get? s.heap.objs.size=some { cls:=.type "tuple",data:=.seq #[u,u2,u3] }:=(sb.2 _ (Nat.ne_of_gt hzl)).trans hT
  have new:ObjOk X.prog X.w (upd H s.heap.objs.size (.tup [x,y,v])) h'' s.heap.objs.size (.tup [x,y,v]) :=
   ⟨by show 3≤sizeLine;decide,[u,u2,u3],.cons ru (.cons ru2 (.cons ru3 .nil)),⟨_,hT2,rfl,_,rfl⟩⟩
  have sub:∀ d,d∉[z,TI,TO,j1,j2,j3]->d∉[z,TO,j1,j2,j3]:=fun d hd hm=>hd ((List.mem_cons.mp hm).elim (fun q=>List.mem_cons.mpr (.inl q)) fun q=>List.mem_cons.mpr (.inr (List.mem_cons.mpr (.inr q))))
  have I1:Inv X pins σ (upd H s.heap.objs.size (.tup [x,y,v])) { s with heap:=h'' } :=
   I.turnedNew (t':=s.toks) (ch:=[z,TI,TO,j1,j2,j3]) (fun d o hb q=>(sb.2 d (fun q'=>hb (by simp[q']))).trans (hk d o (sub d hb) q)) hf (Nat.le_refl _) new
  refine⟨.ref s.heap.objs.size,_,I1,rfl,⟨_,x,y,v,rfl,I.hok.fresh (Nat.le_refl _),rfl,fun l hl=>by rw[I.list_inj hl qx];exact hx,fun l hl=>by rw[I.list_inj hl qy];exact hy,fun l hl=>by rw[I.list_inj hl qv];exact hv⟩,⟨z'',?_,⟨u,u2,u3,?_⟩,?_,?_,?_⟩,fun d hdm=>?_⟩
  ·refine (sb.2 _ (Ne.symm nd.1.1)).trans (hk _ _ ?_ hI)
   have:=nd.2.1
   simp only[List.mem_cons,not_or,List.not_mem_nil,not_false_eq_true,and_true]
   exact⟨Ne.symm nd.1.1,this.1,this.2.1,this.2.2.1,this.2.2.2⟩
  ·exact (sb.2 _ (Ne.symm nd.1.2.1)).trans O'
  ·exact h1'.at fun o q=>(sb.2 _ (Ne.symm nd.1.2.2.1)).trans q
  ·exact h2'.at fun o q=>(sb.2 _ (Ne.symm nd.1.2.2.2.1)).trans q
  ·exact h3'.at fun o q=>(sb.2 _ (Ne.symm nd.1.2.2.2.2)).trans q
  ·have hlt:d < s.heap.objs.size:=by
    have e':d=z∨d=TI∨d=TO∨d=j1∨d=j2∨d=j3:=by simpa using hdm
    rcases e' with q|q|q|q|q|q
    ·rw[q];exact hzl
    ·rw[q];exact Heap.lt_size hI
    ·rw[q];exact Heap.lt_size hO
    ·rw[q];obtain⟨_,e1,_⟩:=h1;exact Heap.lt_size e1
    ·rw[q];obtain⟨_,e2,_⟩:=h2;exact Heap.lt_size e2
    ·rw[q];obtain⟨_,e3,_⟩:=h3;exact Heap.lt_size e3
   rw[k0p (Nat.ne_of_lt hlt)]
   exact (hf d hdm).1
 done:=by
  intro X hP hw hK hc i pins s σ H E I hf st hg
  subst hP hw hK
  obtain⟨hz,hI,_,h1,_,_⟩:=st
  obtain⟨xs,qx,hend⟩:=hg
  obtain⟨its,rv,p,_⟩:=I.list qx
  have l1:=rv.length
  have sub:∀ d,d∉[z,TI,TO,j1,j2,j3]->d∉[z,TO,j1,j2,j3]:=fun d hd hm=>hd ((List.mem_cons.mp hm).elim (fun q=>List.mem_cons.mpr (.inl q)) fun q=>List.mem_cons.mpr (.inr (List.mem_cons.mpr (.inr q))))
  exact next3_end (I.ok.hd hc) D hz hI h1 p.isList (by simp;omega) fun h' hk=>⟨rfl,I.turnedL (t':=s.toks) (ch:=[z,TI,TO,j1,j2,j3]) (fun d o hb q=>hk d o (sub d hb) q) hf⟩
 self:=fun A i s Q E st h=>wpAny_pyIter_zip st.1 h
theorem apart3 (n a b c:Nat) (la:a < n) (lb:b < n) (lc:c < n):Apart3 (n+5) (n+3) (n+4) n (n+1) (n+2) a b c:=by
 refine⟨?_,?_,?_,?_⟩
 ·simp only[List.nodup_cons,List.mem_cons,not_or,List.not_mem_nil,not_false_eq_true,List.nodup_nil,and_true]
  refine⟨⟨?_,?_,?_,?_,?_⟩,⟨?_,?_,?_,?_⟩,⟨?_,?_,?_⟩,⟨?_,?_⟩,?_⟩
  all_goals (intro q;have q:=(show (_:Nat)=(_:Nat) from q);omega)
 ·simp only[List.mem_cons,not_or,List.not_mem_nil,not_false_eq_true,and_true]
  refine⟨?_,?_,?_,?_,?_⟩
  all_goals (intro q;have q:=(show (_:Nat)=(_:Nat) from q);omega)
 ·simp only[List.mem_cons,not_or,List.not_mem_nil,not_false_eq_true,and_true]
  refine⟨?_,?_,?_,?_,?_⟩
  all_goals (intro q;have q:=(show (_:Nat)=(_:Nat) from q);omega)
 ·simp only[List.mem_cons,not_or,List.not_mem_nil,not_false_eq_true,and_true]
  refine⟨?_,?_,?_,?_,?_⟩
  all_goals (intro q;have q:=(show (_:Nat)=(_:Nat) from q);omega)
def iZip3 (K:PySem.W.Frag) (ta:TA):TI:=fun σ H R=>ta σ H fun vs H1=>∃ a b c xs ys zs,vs=[.ref a,.ref b,.ref c]∧SqL K H1 a xs∧SqL K H1 b ys∧SqL K H1 c zs∧R (Itz3 K a b c) H1
theorem pi_zip3 {X:Cx} {e e2 e3:Expr} {ta:TA} {p pos tpos:Pos} {elts:List Expr} {kk:Nat} (hg:Gl X "zip") (hm:X.mg "zip"=none) (ha:PA X [e,e2,e3] ta)
  (hs:starEach [e,e2,e3] X.env=(false,eval e X.env)::starEach [e2,e3] X.env:=by rfl) (hpl:(backTo pos (starEach [e2,e3] X.env)).any (·.1)=false:=by rfl) :
  PI X (.Tuple elts kk tpos) (.Call (.Name "zip" p) [e,e2,e3] [] pos) (iZip3 X.K ta):=by
 intro pins s σ H R I h
 refine Call_ (ld_blt I hg hm boot_zip5 (PyProof.Rows.callWith_type1 (thn (ha pos pins s σ H _ I h) fun us s1 ⟨vs,H1,I1,r1,q1⟩=>?_) hs hpl))
 obtain⟨a,b,c,xs,ys,zs,ex,qx,qy,qz,q⟩:=q1
 subst ex
 cases r1 with
 | cons r rr =>
  cases rr with
  | cons r' rr =>
   cases rr with
   | cons r'' rr =>
    cases rr
    cases r
    cases r'
    cases r''
    obtain⟨its,rv,p1,_⟩:=I1.list qx
    obtain⟨its2,rv2,p2,_⟩:=I1.list qy
    obtain⟨its3,rv3,p3,_⟩:=I1.list qz
    have la:a < s1.heap.objs.size:=p1.lt
    have lb:b < s1.heap.objs.size:=p2.lt
    have lc:c < s1.heap.objs.size:=p3.lt
    have apart:=apart3 s1.heap.objs.size a b c la lb lc
    refine call_zip3 p1.isList p2.isList p3.isList fun h' hz hI hO h1 h2 h3 hk=>wpAny_pyIter_zip hz ?_
    have I2:Inv X pins σ H1 { s1 with heap:=h' }:=I1.kept (t':=s1.toks) hk
    refine⟨s1.heap.objs.size+5,[s1.heap.objs.size+5,s1.heap.objs.size+3,s1.heap.objs.size+4,s1.heap.objs.size,s1.heap.objs.size+1,s1.heap.objs.size+2],_,_,H1,rfl,I2,turn_zip3 apart,⟨hz,hI,⟨_,_,_,hO⟩,h1,h2,h3⟩,fun d hdm=>?_,q⟩
    have e':d=s1.heap.objs.size+5∨d=s1.heap.objs.size+3∨d=s1.heap.objs.size+4∨d=s1.heap.objs.size∨d=s1.heap.objs.size+1∨d=s1.heap.objs.size+2:=by simpa using hdm
    have hle:s1.heap.objs.size≤d:=by
     rcases e' with z|z|z|z|z|z
     ·rw[z];exact Nat.le_add_right _ _
     ·rw[z];exact Nat.le_add_right _ _
     ·rw[z];exact Nat.le_add_right _ _
     ·rw[z];exact Nat.le_refl _
     ·rw[z];exact Nat.le_add_right _ _
     ·rw[z];exact Nat.le_add_right _ _
    exact I1.fpOk hle (I1.hok.fresh hle)
def tMaxD (K:PySem.W.Frag) (t tk:TA):TE:=fun σ H Q=>t σ H fun vs H1=>tk σ H1 fun zs H2=>∃ (a:Addr) (ns:List Int) (d:Int),vs=[V.ref a]∧zs=[V.int d]∧SqL K H2 a (ns.map V.int) ∧
 ∀ m,(ns=[]∧m=d∨m∈ns∧∀ y,y∈ns->y≤m)->Q (.int m) H2
theorem maxD_raw {prog:Program} {w:World} {A:Around} {E:Value->Shared->Prop} {s:Shared} {l:Addr} {its:List Value} {ns:List Int} {d:Value} {Q:Value->Shared->Prop} (hh:A.handled=none) (hl:s.heap.IsList l its.toArray) (hi:IntsAre its ns)
  (h:∀ h' tk v,(∀ b o,s.heap.get? b=some o->h'.get? b=some o)->(ns=[]∧v=d∨∃ M t',v=.int M t'∧M∈ns∧∀ a,a∈ns->a≤M)->Q v { s with heap:=h',toks:=tk }):wpAny (model prog w) A (call (.builtin "max") [.ref l] [("default",d)]) Q E s:=by
 obtain⟨xs,e⟩:=hi.allInts.items
 have hn:numsOf (intItems xs).toList=ns:=by rw[← e];exact hi.numsOf
 rw[nums_intItems] at hn
 subst hn
 rw[e] at hl
 refine maxD_ints hh hl fun v h' tk hv hk=>h h' tk v hk ?_
 rcases hv with ⟨h0,hv⟩|⟨h0,hv⟩
 ·left
  refine⟨?_,hv⟩
  have:xs.toList=[]:=List.eq_nil_of_length_eq_zero (by rw[Array.length_toList];exact h0)
  rw[this]
  rfl
 ·right
  obtain⟨t,rfl⟩:=intItems_at hv
  obtain⟨h1,h2⟩:=argBest_gt (numAt xs) (xs.size - 1)
  refine⟨_,t,rfl,?_,fun a ha=>?_⟩
  ·rw[numAt_eq];exact PySem.getD_mem (by rw[List.length_map,Array.length_toList];omega)
  ·obtain⟨j,hj,rfl⟩:=mem_getD ha
   rw[List.length_map,Array.length_toList] at hj
   rw[← numAt_eq];exact h2 j (by omega)
section
variable {X:Cx}
theorem pe_maxD {e:Expr} {kws:List Keyword} {t tk:TA} {p pos:Pos} (hc:X.calm=true) (hg:Gl X "max") (hm:X.mg "max"=none) (ha:PA X [e] t) (hkw:PK X kws tk)
  (hks:(backToKw pos (keywordEach kws X.env)).filterMap (·.1)=[("default":Str)]:=by rfl)
  (he:backTo pos (starEach [e] X.env)=(false,eval e X.env)::backTo pos (starEach [] X.env):=by rfl) (hplain:(backTo pos (starEach [e] X.env)).any (·.1)=false:=by rfl)
  (hall:(backToKw pos (keywordEach kws X.env)).all (·.1.isSome)=true:=by rfl) (hno:(backToKw pos (keywordEach kws X.env)).any (·.1.isNone)=false:=by rfl) :
  PE X (.Call (.Name "max" p) [e] kws pos) (tMaxD X.K t tk):=by
 intro pins s σ H Q I h
 refine wpAny_Call_Name_kw (ld_blt I hg hm b_max ?_)
 refine callWith_kw (thn (ha pos pins s σ H _ I h) fun us s1 ⟨vs,H1,I1,r,q⟩=>thn (hkw pos pins s1 σ H1 _ I1 q) fun ws s2 ⟨zs,H2,I2,rz,q2⟩=>?_) he hplain hall hno
 obtain⟨a,ns,d,rfl,rfl,hs,q2⟩:=q2
 rw[Vals.ref1 r,hks]
 obtain⟨u,rfl,ru⟩:=rz.one
 obtain⟨tu,rfl⟩:=ru
 obtain⟨its,rv,hl,_⟩:=I2.list hs
 refine maxD_raw (I2.ok.hd hc) hl.isList rv.ints fun h' tk v hk hv=>?_
 rcases hv with ⟨e0,rfl⟩|⟨M,t',rfl,h1,h2⟩
 ·exact⟨.int d,H2,I2.kept hk,⟨_,rfl⟩,q2 d (.inl ⟨e0,rfl⟩)⟩
 ·exact⟨.int M,H2,I2.kept hk,⟨_,rfl⟩,q2 M (.inr ⟨h1,h2⟩)⟩
theorem pi_zip3K (K:PySem.W.Frag) {e e2 e3:Expr} {ta:TA} {p pos tpos:Pos} {elts:List Expr} {kk:Nat} (hK:X.K=K) (hg:Gl X "zip") (hm:X.mg "zip"=none) (ha:PA X [e,e2,e3] ta)
  (hs:starEach [e,e2,e3] X.env=(false,eval e X.env)::starEach [e2,e3] X.env:=by rfl) (hpl:(backTo pos (starEach [e2,e3] X.env)).any (·.1)=false:=by rfl) :
  PI X (.Tuple elts kk tpos) (.Call (.Name "zip" p) [e,e2,e3] [] pos) (iZip3 K ta):=hK▸pi_zip3 hg hm ha hs hpl
theorem pe_maxDK (K:PySem.W.Frag) {e:Expr} {kws:List Keyword} {t tk:TA} {p pos:Pos} (hK:X.K=K) (hc:X.calm=true) (hg:Gl X "max") (hm:X.mg "max"=none) (ha:PA X [e] t) (hkw:PK X kws tk)
  (hks:(backToKw pos (keywordEach kws X.env)).filterMap (·.1)=[("default":Str)]:=by rfl)
  (he:backTo pos (starEach [e] X.env)=(false,eval e X.env)::backTo pos (starEach [] X.env):=by rfl) (hplain:(backTo pos (starEach [e] X.env)).any (·.1)=false:=by rfl)
  (hall:(backToKw pos (keywordEach kws X.env)).all (·.1.isSome)=true:=by rfl) (hno:(backToKw pos (keywordEach kws X.env)).any (·.1.isNone)=false:=by rfl) :
  PE X (.Call (.Name "max" p) [e] kws pos) (tMaxD K t tk):=hK▸pe_maxD hc hg hm ha hkw hks he hplain hall hno
theorem mt_indexK (K:PySem.W.Frag) (hK:X.K=K):MtR X "list.index" (rIndex K):=hK▸mt_index
theorem eqDK (K:PySem.W.Frag) (hK:X.K=K) (hu:X.A.units+64 < cLine):OpR X (compareOp .Eq) (rEqD K):=hK▸op_eqD hu
end
theorem lc_rel {J:It} {n:Nat} {g:TG} {tt:TT} {te:TE} {vs:List Nat} {σ:St} {H1:Hp} {D:Addr} {Qd:Hp->Prop} (R:Nat->List V->Hp->Prop) (hD:H1 D=none) (hn:n≤sizeLine)
  (h0:R 0 [] (upd H1 D (.lst [])))
  (stable:∀ i ys zs H H',H D=some (.lst zs)->(∀ b o,b≠D->H b=some o->H' b=some o)->R i ys H->R i ys H')
  (hstop:∀ H,Same H1 H->J.stop n H) (hgo:∀ i H,i < n->Same H1 H->J.go i H)
  (hs:∀ i H x H' ys (Y:VK) (N:Hp->Prop),i < n->Same H1 H->H D=some (.lst ys)->R i ys H->J.yld i H x H'->(∀ y H4,Same H H4->R (i+1) (ys++[y]) H4->Y y H4)->(∀ H3,Same H H3->R (i+1) ys H3->N H3) ->
   g x (wipe σ vs) H' fun σ2 H2=>wipe σ2 vs=wipe σ vs∧tt σ2 H2 fun b H3=>if b=true then te σ2 H3 Y else N H3)
  (hd:∀ H ys,Same H1 H->H D=some (.lst ys)->R n ys H->Qd H) :
  ∃ W:Nat->Nat->Hp->Prop,(∃ m,W 0 m (upd H1 D (.lst [])))∧∀ i m H,W i m H ->
   (J.stop i H∧Qd H)∨(J.go i H∧∃ Nx:Hp->Prop,(∀ H',Nx H'->∃ m',m' < m∧W (i+1) m' H')∧∀ x H',J.yld i H x H'->g x (wipe σ vs) H' fun σ2 H2=>wipe σ2 vs=wipe σ vs∧tt σ2 H2 fun b H3 =>
    if b=true then te σ2 H3 fun y H4=>∃ acc,H4 D=some (.lst acc)∧acc.length < sizeLine∧Nx (upd H4 D (.lst (acc++[y]))) else Nx H3):=by
 refine⟨fun i m H=>m=n - i∧i≤n∧Same H1 H∧∃ ys,H D=some (.lst ys)∧ys.length≤i∧R i ys H,⟨n,by simp,Nat.zero_le _,?_,[],k0f,Nat.le_refl _,h0⟩,?_⟩
 ·intro b o e
  rw[k0p (k0h e hD)]
  exact e
 rintro i m H ⟨rfl,hi,hS,ys,hDi,hlen,hR⟩
 by_cases hlt:i < n
 ·refine .inr ⟨hgo i H hlt hS,fun H'=>Same H1 H'∧∃ ys,H' D=some (.lst ys)∧ys.length≤i+1∧R (i+1) ys H',fun H' ⟨a,b⟩=>⟨n - (i+1),by omega,rfl,hlt,a,b⟩,fun x H' y=>?_⟩
  refine hs i H x H' ys _ _ hlt hS hDi hR y (fun v H4 s4 r4=>?_) (fun H3 s3 r3=>?_)
  ·refine⟨ys,s4 _ _ hDi,by omega,?_,ys++[v],k0f,by simp;omega,stable _ _ _ H4 _ (s4 _ _ hDi) (fun b o hb e=>by rw[k0p hb];exact e) r4⟩
   intro b o eb
   rw[k0p (k0h eb hD)]
   exact s4 _ _ (hS _ _ eb)
  ·exact⟨fun b o eb=>s3 _ _ (hS _ _ eb),ys,s3 _ _ hDi,by omega,r3⟩
 ·have e:i=n:=by omega
  subst e
  exact .inl ⟨hstop H hS,hd H ys hS hDi hR⟩
end L2
end
section
namespace Ww
open Vawctd
def Pos (k:Known) (x:Counts) (d:Edge):Prop:=∃ e:Nat,k.edges[e]?=some d∧0 < x.getD e 0
structure WfG (k:Known):Prop where
 two:2≤k.nodes
 src:∀ d∈k.edges,d.src < k.nodes
 dst:∀ d∈k.edges,d.dst < k.nodes
inductive Reach (k:Known) (x:Counts) (u:Nat):Nat->Prop
 | refl:Reach k x u u
 | step {d:Edge}:Reach k x u d.src->Pos k x d->Reach k x u d.dst
def Closed (k:Known) (x:Counts) (S:Nat->Prop):Prop:=∀ d,Pos k x d->S d.src->S d.dst
theorem reach_closed {k x u}:Closed k x (Reach k x u):=fun _ p h=>.step h p
theorem reach_sub {k x u} {S:Nat->Prop} (c:Closed k x S) (hu:S u) {v} (h:Reach k x u v):S v:=by
 induction h with
 | refl=>exact hu
 | step _ p ih=>exact c _ p ih
theorem Pos.mem {k x d} (p:Pos k x d):d∈k.edges:=by
 obtain⟨e,h,_⟩:=p
 exact List.mem_of_getElem? h
theorem mem_zip_of {α β:Type} {l:List α} {m:List β} {z:α × β} (h:z∈l.zip m):∃ e:Nat,l[e]?=some z.1∧m[e]?=some z.2:=by
 obtain⟨e,he⟩:=List.getElem?_of_mem h
 rw[List.getElem?_zip_eq_some] at he
 exact⟨e,he.1,he.2⟩
theorem zip_mem_of {α β:Type} {l:List α} {m:List β} {a:α} {b:β} {e:Nat} (h1:l[e]?=some a) (h2:m[e]?=some b):(a,b)∈l.zip m :=
 List.mem_of_getElem? (i:=e) (by rw[List.getElem?_zip_eq_some];exact⟨h1,h2⟩)
theorem getD_of {α:Type} {l:List α} {e:Nat} {a d:α} (h:l[e]?=some a):l.getD e d=a:=by
 rw[List.getD_eq_getElem?_getD,h];rfl
theorem pos_zip {k x d}:Pos k x d ↔ ∃ c,(d,c)∈k.edges.zip x∧0 < c:=by
 constructor
 ·rintro ⟨e,h,p⟩
  rw[List.getD_eq_getElem?_getD] at p
  cases q:x[e]? with
  | none=>rw[q] at p;simp at p
  | some c =>
   rw[q] at p
   exact⟨c,zip_mem_of h q,p⟩
 ·rintro ⟨c,h,p⟩
  obtain⟨e,h1,h2⟩:=mem_zip_of h
  exact⟨e,h1,by rw[getD_of h2];exact p⟩
def cstep (k:Known) (x:Counts) (l:List Nat):List Nat:=(List.range k.nodes).filter fun v=>l.contains v || (k.edges.zip x).any fun z=>decide (0 < z.2)&&z.1.dst==v&&l.contains z.1.src
theorem mem_cstep {k x l v}:v∈cstep k x l ↔ v < k.nodes∧(v∈l∨∃ d,Pos k x d∧d.dst=v∧d.src∈l):=by
 unfold cstep
 rw[List.mem_filter,List.mem_range,Bool.or_eq_true,List.contains_iff_mem,List.any_eq_true]
 constructor
 ·rintro ⟨h,h1|⟨z,hz,hp⟩⟩
  ·exact⟨h,.inl h1⟩
  ·simp only[Bool.and_eq_true,decide_eq_true_eq,beq_iff_eq,List.contains_iff_mem] at hp
   exact⟨h,.inr ⟨z.1,pos_zip.mpr ⟨z.2,hz,hp.1.1⟩,hp.1.2,hp.2⟩⟩
 ·rintro ⟨h,h1|⟨d,p,e,hs⟩⟩
  ·exact⟨h,.inl h1⟩
  ·obtain⟨c,hz,hc⟩:=pos_zip.mp p
   refine⟨h,.inr ⟨(d,c),hz,?_⟩⟩
   simp only[Bool.and_eq_true,decide_eq_true_eq,beq_iff_eq,List.contains_iff_mem]
   exact⟨⟨hc,e⟩,hs⟩
theorem comesTo_succ {k x n l}:comesTo k x (n+1) l=comesTo k x n (cstep k x l):=rfl
theorem comesTo_sound {k x u}:∀ {n l},(∀ v∈l,Reach k x u v)->∀ v∈comesTo k x n l,Reach k x u v
 | 0,l,h,v,hv=>h v hv
 | n+1,l,h,v,hv=>by
  rw[comesTo_succ] at hv
  refine comesTo_sound (n:=n) (fun v hv=>?_) v hv
  rcases (mem_cstep.mp hv).2 with h1|⟨d,p,e,hs⟩
  ·exact h v h1
  ·rw[← e];exact .step (h _ hs) p
def missing (n:Nat) (l:List Nat):Nat:=((List.range n).filter fun v=>!l.contains v).length
theorem filter_length_lt {α:Type} (p q:α->Bool):∀ (l:List α),(∀ a∈l,q a=true->p a=true)->(∃ a∈l,p a=true∧q a=false)->(l.filter q).length < (l.filter p).length
 | [],_,h=>by obtain⟨a,h,_⟩:=h;cases h
 | b::l,hs,h=>by
  have le:(l.filter q).length≤(l.filter p).length:=by
   clear h
   induction l with
   | nil=>simp
   | cons c l ih =>
    have:=ih fun a ha=>hs a (by simp at ha ⊢;rcases ha with h|h<;>simp[h])
    have hc:=hs c (by simp)
    simp only[List.filter_cons]
    cases hq:q c with
    | true=>rw[hc hq];simpa using this
    | false=>cases p c<;>simp<;>omega
  obtain⟨a,ha,hp,hq⟩:=h
  have hb:=hs b (by simp)
  simp only[List.filter_cons]
  rcases List.mem_cons.mp ha with e|ha
  ·subst e
   rw[hp,hq]
   simp only[if_true,List.length_cons]
   simp
   omega
  ·have ih:=filter_length_lt p q l (fun a h=>hs a (List.mem_cons_of_mem _ h)) ⟨a,ha,hp,hq⟩
   cases hq':q b with
   | true=>rw[hb hq'];simpa using ih
   | false=>cases p b<;>simp<;>omega
def ClosedL (k:Known) (x:Counts) (l:List Nat):Prop:=∀ d,Pos k x d->d.src∈l->d.dst∈l
theorem cstep_closed {k x l} (w:WfG k) (c:ClosedL k x l) (v:Nat) (hv:v < k.nodes):v∈cstep k x l ↔ v∈l:=by
 rw[mem_cstep]
 constructor
 ·rintro ⟨_,h|⟨d,p,e,hs⟩⟩
  ·exact h
  ·rw[← e];exact c d p hs
 ·exact fun h=>⟨hv,.inl h⟩
theorem closedL_congr {k x l m} (w:WfG k) (h:∀ v,v < k.nodes->(v∈l ↔ v∈m)) (c:ClosedL k x l):ClosedL k x m:=fun d p hs =>
 (h _ (w.dst d p.mem)).mp (c d p ((h _ (w.src d p.mem)).mpr hs))
theorem comesTo_same {k x} (w:WfG k):∀ {n l},ClosedL k x l->∀ v,v < k.nodes->(v∈comesTo k x n l ↔ v∈l)
 | 0,l,c,v,hv=>Iff.rfl
 | n+1,l,c,v,hv=>by
  rw[comesTo_succ,comesTo_same w (n:=n) (closedL_congr w (fun v hv=>(cstep_closed w c v hv).symm) c) v hv]
  exact cstep_closed w c v hv
theorem comesTo_closed {k x} (w:WfG k):∀ {n l},missing k.nodes l≤n->ClosedL k x (comesTo k x n l)
 | 0,l,h=>by
  intro d p _
  show d.dst∈l
  have h0:(List.range k.nodes).filter (fun v=>!l.contains v)=[]:=List.eq_nil_of_length_eq_zero (Nat.le_zero.mp h)
  rw[List.filter_eq_nil_iff] at h0
  have:=h0 d.dst (List.mem_range.mpr (w.dst d p.mem))
  simpa using this
 | n+1,l,h=>by
  rw[comesTo_succ]
  by_cases hc:∃ v,v < k.nodes∧v∈cstep k x l∧v∉l
  ·refine comesTo_closed w (n:=n) ?_
   obtain⟨v,h1,h2,h3⟩:=hc
   have:missing k.nodes (cstep k x l) < missing k.nodes l:=by
    unfold missing
    refine filter_length_lt _ _ _ (fun a ha hq=>?_) ⟨v,List.mem_range.mpr h1,by simpa using h3,by simpa using h2⟩
    simp only[Bool.not_eq_true',List.contains_eq_mem,decide_eq_false_iff_not] at hq ⊢
    exact fun z=>hq (mem_cstep.mpr ⟨List.mem_range.mp ha,.inl z⟩)
   omega
  ·have same:∀ v,v < k.nodes->(v∈cstep k x l ↔ v∈l):=fun v hv =>
    ⟨fun z=>Classical.byContradiction fun q=>hc ⟨v,hv,z,q⟩,fun z=>mem_cstep.mpr ⟨hv,.inl z⟩⟩
   have c:ClosedL k x (cstep k x l):=fun d p hs=>mem_cstep.mpr ⟨w.dst d p.mem,.inr ⟨d,p,rfl,(same _ (w.src d p.mem)).mp hs⟩⟩
   exact closedL_congr w (fun v hv=>(comesTo_same w c v hv).symm) c
theorem comesTo_keeps {k x}:∀ {n l v},v < k.nodes->v∈l->v∈comesTo k x n l
 | 0,_,_,_,h=>h
 | n+1,l,v,hv,h=>by
  rw[comesTo_succ]
  exact comesTo_keeps (n:=n) hv (mem_cstep.mpr ⟨hv,.inl h⟩)
theorem comesTo_iff {k x u v} (w:WfG k) (hu:u < k.nodes):v∈comesTo k x k.nodes [u] ↔ Reach k x u v:=by
 constructor
 ·exact comesTo_sound (fun v hv=>by simp at hv;subst hv;exact .refl) v
 ·intro h
  have c:ClosedL k x (comesTo k x k.nodes [u]):=comesTo_closed w (by
   unfold missing
   exact Nat.le_trans (List.length_filter_le _ _) (by simp))
  exact reach_sub (S:=fun v=>v∈comesTo k x k.nodes [u]) c (comesTo_keeps hu (by simp)) h
theorem hangs_iff {k x u} (w:WfG k) (hu:u < k.nodes):hangs k x u=true ↔ ∀ d,Pos k x d->Reach k x u d.src:=by
 unfold hangs
 rw[List.all_eq_true]
 constructor
 ·intro h d p
  obtain⟨c,hz,hc⟩:=pos_zip.mp p
  have:=h _ hz
  simp only[Bool.or_eq_true,beq_iff_eq,List.contains_iff_mem] at this
  rcases this with h0|h1
  ·omega
  ·exact (comesTo_iff w hu).mp h1
 ·intro h z hz
  simp only[Bool.or_eq_true,beq_iff_eq,List.contains_iff_mem]
  rcases Nat.eq_zero_or_pos z.2 with h0|h0
  ·exact .inl h0
  ·exact .inr ((comesTo_iff w hu).mpr (h z.1 (pos_zip.mpr ⟨z.2,hz,h0⟩)))
end Ww
end
section
namespace Ww
open Vawctd
theorem foldl_add (l:List Nat):∀ a:Nat,l.foldl (·+·) a=a+l.foldl (·+·) 0:=by
 induction l with
 | nil=>intro a;simp
 | cons b l ih =>
  intro a
  simp only[List.foldl_cons]
  rw[ih (a+b),ih (0+b)]
  omega
theorem sum_nil:sum []=0:=rfl
theorem sum_cons (a:Nat) (l:List Nat):sum (a::l)=a+sum l:=by
 unfold sum
 rw[List.foldl_cons,foldl_add]
 omega
def sw:List Edge->Counts->(Edge->Bool)->Nat
 | d::es,c::x,p=>(if p d then c else 0)+sw es x p
 | _,_,_=>0
theorem sw_eq (k:Known) (x:Counts) (p:Edge->Bool):sumWhere k x p=sw k.edges x p:=by
 unfold sumWhere
 generalize k.edges=es
 induction es generalizing x with
 | nil=>simp[sw,sum_nil]
 | cons d es ih =>
  cases x with
  | nil=>simp[sw,sum_nil]
  | cons c x =>
   simp only[List.zip_cons_cons,List.map_cons,sum_cons,sw]
   rw[ih]
theorem sw_or (p q:Edge->Bool):∀ (es:List Edge) (x:Counts),(∀ d∈es,¬ (p d=true∧q d=true))->sw es x (fun d=>p d || q d)=sw es x p+sw es x q
 | [],x,_=>by simp[sw]
 | d::es,[],_=>by simp[sw]
 | d::es,c::x,h=>by
  have ih:=sw_or p q es x fun d hd=>h d (List.mem_cons_of_mem _ hd)
  have hd:=h d (by simp)
  simp only[sw]
  rw[ih]
  by_cases hp:p d=true<;>by_cases hq:q d=true
  ·exact (hd ⟨hp,hq⟩).elim
  all_goals (simp only[hp,hq];simp;try omega)
theorem sw_false:∀ (es:List Edge) (x:Counts),sw es x (fun _=>false)=0
 | [],x=>by simp[sw]
 | d::es,[]=>by simp[sw]
 | d::es,c::x=>by simp[sw,sw_false es x]
theorem sw_congr {p q:Edge->Bool}:∀ (es:List Edge) (x:Counts),(∀ d∈es,p d=q d)->sw es x p=sw es x q
 | [],x,_=>by simp[sw]
 | d::es,[],_=>by simp[sw]
 | d::es,c::x,h=>by
  simp only[sw]
  rw[h d (by simp),sw_congr es x fun d hd=>h d (List.mem_cons_of_mem _ hd)]
def nsum (n:Nat) (f:Nat->Nat):Nat:=sum ((List.range n).map f)
theorem sum_append (l m:List Nat):sum (l++m)=sum l+sum m:=by
 induction l with
 | nil=>simp[sum_nil]
 | cons a l ih=>rw[List.cons_append,sum_cons,sum_cons,ih];omega
theorem nsum_succ (n:Nat) (f:Nat->Nat):nsum (n+1) f=nsum n f+f n:=by
 unfold nsum
 rw[List.range_succ,List.map_append,sum_append]
 simp[sum_cons,sum_nil]
theorem sw_set (g:Edge->Nat) (S:Nat->Bool) (es:List Edge) (x:Counts):∀ n:Nat,sw es x (fun d=>decide (g d < n)&&S (g d))=nsum n (fun v=>if S v then sw es x (fun d=>g d==v) else 0)
 | 0=>by
  have:(fun d=>decide (g d < 0)&&S (g d))=fun _:Edge=>false:=by funext d;simp
  rw[this,sw_false]
  rfl
 | n+1=>by
  rw[nsum_succ,← sw_set g S es x n]
  have e:sw es x (fun d=>decide (g d < n+1)&&S (g d))=sw es x (fun d=>(decide (g d < n)&&S (g d)) || (S n&&g d==n)):=sw_congr es x fun d _=>by
   by_cases h1:g d < n
   ·have h2:g d < n+1:=by omega
    have h3:¬ g d=n:=by omega
    simp[h1,h2,h3]
   ·by_cases h3:g d=n
    ·simp[h3]
    ·have h2:¬ g d < n+1:=by omega
     simp[h1,h2,h3]
  rw[e,sw_or]
  ·congr 1
   cases hS:S n
   ·simp[sw_false]
   ·simp
  ·intro d _ ⟨a,b⟩
   simp at a b
   omega
theorem nsum_add (f g:Nat->Nat):∀ n,nsum n (fun v=>f v+g v)=nsum n f+nsum n g
 | 0=>rfl
 | n+1=>by rw[nsum_succ,nsum_succ,nsum_succ,nsum_add f g n];omega
theorem nsum_congr {f g:Nat->Nat}:∀ n,(∀ v,v < n->f v=g v)->nsum n f=nsum n g
 | 0,_=>rfl
 | n+1,h=>by rw[nsum_succ,nsum_succ,nsum_congr n fun v hv=>h v (by omega),h n (by omega)]
theorem nsum_one (S:Nat->Bool) (u:Nat):∀ n,nsum n (fun v=>if S v then (if v=u then 1 else 0) else 0)=if u < n∧S u=true then 1 else 0
 | 0=>by simp[nsum,sum_nil]
 | n+1=>by
  rw[nsum_succ,nsum_one S u n]
  by_cases h:n=u
  ·subst h
   cases S n<;>simp
  ·cases hS:S n<;>simp[h]<;>by_cases h2:u < n<;>by_cases h3:S u=true<;>simp[h2,h3]<;>omega
def Flow (k:Known) (x:Counts) (a b:Nat):Prop:=∀ v,v < k.nodes->sw k.edges x (fun d=>d.dst==v)+(if v=a then 1 else 0)=sw k.edges x (fun d=>d.src==v)+(if v=b then 1 else 0)
theorem flows_iff {k x u}:flows k x u=true ↔ Flow k x u (exitOf k):=by
 unfold flows Flow
 rw[List.all_eq_true]
 constructor
 ·intro h v hv
  have:=h v (List.mem_range.mpr hv)
  rw[beq_iff_eq,sw_eq,sw_eq] at this
  exact this
 ·intro h v hv
  rw[beq_iff_eq,sw_eq,sw_eq]
  exact h v (List.mem_range.mp hv)
theorem cross {k x a b} (w:WfG k) (f:Flow k x a b) (ha:a < k.nodes) (hb:b < k.nodes) (S:Nat->Bool) :
  sw k.edges x (fun d=>S d.dst)+(if S a=true then 1 else 0)=sw k.edges x (fun d=>S d.src)+(if S b=true then 1 else 0):=by
 have e1:sw k.edges x (fun d=>S d.dst)=nsum k.nodes (fun v=>if S v then sw k.edges x (fun d=>d.dst==v) else 0):=by
  rw[← sw_set (fun d=>d.dst) S]
  exact sw_congr _ _ fun d hd=>by simp[w.dst d hd]
 have e2:sw k.edges x (fun d=>S d.src)=nsum k.nodes (fun v=>if S v then sw k.edges x (fun d=>d.src==v) else 0):=by
  rw[← sw_set (fun d=>d.src) S]
  exact sw_congr _ _ fun d hd=>by simp[w.src d hd]
 have ea:(if S a=true then 1 else 0)=nsum k.nodes (fun v=>if S v then (if v=a then 1 else 0) else 0):=by rw[nsum_one];simp[ha]
 have eb:(if S b=true then 1 else 0)=nsum k.nodes (fun v=>if S v then (if v=b then 1 else 0) else 0):=by rw[nsum_one];simp[hb]
 rw[e1,e2,ea,eb,← nsum_add,← nsum_add]
 refine nsum_congr _ fun v hv=>?_
 have:=f v hv
 cases S v
 ·simp
 ·simpa using this
theorem sw_le {p q:Edge->Bool}:∀ (es:List Edge) (x:Counts),(∀ z∈es.zip x,0 < z.2->p z.1=true->q z.1=true)->sw es x p≤sw es x q
 | [],x,_=>by simp[sw]
 | d::es,[],_=>by simp[sw]
 | d::es,c::x,h=>by
  have ih:=sw_le es x fun z hz=>h z (by rw[List.zip_cons_cons];exact List.mem_cons_of_mem _ hz)
  have hd:=h (d,c) (by simp)
  simp only[sw]
  cases hp:p d with
  | false=>simp;omega
  | true =>
   rcases Nat.eq_zero_or_pos c with h0|h0
   ·subst h0;simp;exact ih
   ·rw[hd h0 hp];simp;exact ih
theorem sw_lt {p q:Edge->Bool}:∀ (es:List Edge) (x:Counts),(∀ z∈es.zip x,0 < z.2->p z.1=true->q z.1=true)->(∃ z∈es.zip x,0 < z.2∧p z.1=false∧q z.1=true)->sw es x p < sw es x q
 | [],x,_,h=>by obtain⟨z,hz,_⟩:=h;simp at hz
 | d::es,[],_,h=>by obtain⟨z,hz,_⟩:=h;simp at hz
 | d::es,c::x,h,hex=>by
  have hr:∀ z∈es.zip x,0 < z.2->p z.1=true->q z.1=true:=fun z hz=>h z (by rw[List.zip_cons_cons];exact List.mem_cons_of_mem _ hz)
  have hd:=h (d,c) (by simp)
  simp only[sw]
  obtain⟨z,hz,h0,hp,hq⟩:=hex
  rw[List.zip_cons_cons] at hz
  rcases List.mem_cons.mp hz with e|hz
  ·subst e
   have:=sw_le es x hr
   simp only[hp,hq]
   simp
   have h0':0 < c:=h0
   omega
  ·have ih:=sw_lt es x hr ⟨z,hz,h0,hp,hq⟩
   cases hp:p d with
   | false=>simp;omega
   | true =>
    rcases Nat.eq_zero_or_pos c with h0|h0
    ·subst h0;simp;exact ih
    ·rw[hd h0 hp];simp;exact ih
open Classical in
theorem closed_cross {k x a b} (w:WfG k) (f:Flow k x a b) (ha:a < k.nodes) (hb:b < k.nodes) (S:Nat->Prop) (c:Closed k x S) (hS:S a∨¬ S b):(S a->S b)∧∀ d,Pos k x d->S d.dst->S d.src:=by
 have h:=cross w f ha hb (fun v=>decide (S v))
 have mono:∀ z∈k.edges.zip x,0 < z.2->decide (S z.1.src)=true->decide (S z.1.dst)=true:=fun z hz h0 hs=>by
  simp only[decide_eq_true_eq] at hs ⊢
  exact c z.1 (pos_zip.mpr ⟨z.2,hz,h0⟩) hs
 have le:=sw_le (p:=fun d=>decide (S d.src)) (q:=fun d=>decide (S d.dst)) k.edges x mono
 simp only[decide_eq_true_eq] at h
 constructor
 ·intro sa
  apply Classical.byContradiction
  intro sb
  simp only[sa,sb,if_true,if_false] at h
  omega
 ·intro d p sd
  apply Classical.byContradiction
  intro ss
  obtain⟨c',hz,h0⟩:=pos_zip.mp p
  have lt:=sw_lt (p:=fun d=>decide (S d.src)) (q:=fun d=>decide (S d.dst)) k.edges x mono ⟨(d,c'),hz,h0,by simpa using ss,by simpa using sd⟩
  rcases hS with sa|sb
  ·simp only[sa,if_true] at h
   by_cases sb:S b<;>simp only[sb,if_true,if_false] at h<;>omega
  ·simp only[sb,if_false] at h
   by_cases sa:S a<;>simp only[sa,if_true,if_false] at h<;>omega
theorem lessOne_len {x:Counts} {e:Nat}:(lessOne x e).length=x.length:=by unfold lessOne;simp
theorem lessOne_at {x:Counts} {e i:Nat}:(lessOne x e).getD i 0=if i=e then x.getD e 0 - 1 else x.getD i 0:=by
 unfold lessOne
 simp only[List.getD_eq_getElem?_getD]
 by_cases h:i=e
 ·subst h
  rw[if_pos rfl]
  by_cases hl:i < x.length
  ·rw[List.getElem?_set_self hl];rfl
  ·rw[List.getElem?_eq_none (by simp;omega),List.getElem?_eq_none (by omega)]
   rfl
 ·rw[List.getElem?_set_ne (Ne.symm h),if_neg h]
theorem sw_less (p:Edge->Bool):∀ (es:List Edge) (x:Counts) (e:Nat) (d:Edge),es[e]?=some d->0 < x.getD e 0->sw es (lessOne x e) p+(if p d then 1 else 0)=sw es x p
 | [],x,e,d,h,_=>by simp at h
 | d0::es,[],e,d,h,hp=>by simp at hp
 | d0::es,c::x,0,d,h,hp=>by
  have e1:d0=d:=by simpa using h
  subst e1
  have h0:0 < c:=by simpa using hp
  have:lessOne (c::x) 0=(c - 1)::x:=by unfold lessOne;simp
  rw[this]
  simp only[sw]
  cases p d0<;>simp<;>omega
 | d0::es,c::x,e+1,d,h,hp=>by
  have ih:=sw_less p es x e d (by simpa using h) (by simpa using hp)
  have:lessOne (c::x) (e+1)=c::lessOne x e:=by unfold lessOne;simp
  rw[this]
  simp only[sw]
  omega
theorem flow_less {k x e d b} (f:Flow k x d.src b) (he:k.edges[e]?=some d) (hp:0 < x.getD e 0):Flow k (lessOne x e) d.dst b:=fun v hv=>by
 have h:=f v hv
 have h1:=sw_less (fun d=>d.dst==v) k.edges x e d he hp
 have h2:=sw_less (fun d=>d.src==v) k.edges x e d he hp
 by_cases q1:d.dst=v<;>by_cases q2:d.src=v
 all_goals simp only[q1,q2,beq_self_eq_true,if_true,beq_iff_eq,if_false] at h h1 h2 ⊢
 all_goals first
  | (have z1:¬ v=d.dst:=fun q=>q1 q.symm
     have z2:¬ v=d.src:=fun q=>q2 q.symm
     simp only[z1,z2,if_false] at h ⊢;omega)
  | (have z1:¬ v=d.dst:=fun q=>q1 q.symm
     simp only[z1,if_false] at h ⊢;omega)
  | (have z2:¬ v=d.src:=fun q=>q2 q.symm
     simp only[z2,if_false] at h ⊢;omega)
  | omega
theorem pos_less {k x e g d} (he:k.edges[e]?=some d) (p:Pos k x g):Pos k (lessOne x e) g∨g=d:=by
 obtain⟨i,hi,hp⟩:=p
 by_cases q:i=e
 ·subst q
  exact .inr (Option.some.inj (hi.symm.trans he))
 ·exact .inl ⟨i,hi,by rw[lessOne_at,if_neg q];exact hp⟩
theorem pos_of_less {k x e g} (p:Pos k (lessOne x e) g):Pos k x g:=by
 obtain⟨i,hi,hp⟩:=p
 refine⟨i,hi,?_⟩
 rw[lessOne_at] at hp
 by_cases q:i=e
 ·subst q;rw[if_pos rfl] at hp;omega
 ·rw[if_neg q] at hp;exact hp
theorem next_edge {k x u} (w:WfG k) (hu:u < k.nodes) (f:Flow k x u (exitOf k)) (hg:∀ d,Pos k x d->Reach k x u d.src) (hs:∃ d,Pos k x d) :
  ∃ e d,k.edges[e]?=some d∧0 < x.getD e 0∧d.src=u∧Flow k (lessOne x e) d.dst (exitOf k)∧∀ g,Pos k (lessOne x e) g->Reach k (lessOne x e) d.dst g.src:=by
 have hex:exitOf k < k.nodes:=by unfold exitOf;have:=w.two;omega
 have h1:∃ d,Pos k x d∧d.src=u:=by
  apply Classical.byContradiction
  intro no
  obtain⟨d,p⟩:=hs
  have c:Closed k x (fun v=>v=u):=fun g pg h=>(no ⟨g,pg,h⟩).elim
  exact no ⟨d,p,reach_sub c rfl (hg d p)⟩
 obtain⟨d,⟨e,he,hp⟩,hd⟩:=h1
 subst hd
 have fd:=flow_less f he hp
 by_cases hS:Reach k (lessOne x e) d.dst d.src
 ·refine⟨e,d,he,hp,rfl,fd,fun g pg=>?_⟩
  have c:Closed k x (Reach k (lessOne x e) d.dst):=fun g pg hr=>by
   rcases pos_less he pg with q|q
   ·exact .step hr q
   ·subst q;exact .refl
  exact reach_sub c hS (hg g (pos_of_less pg))
 ·by_cases hn:∃ i g,k.edges[i]?=some g∧0 < (lessOne x e).getD i 0∧g.src=d.src
  ·obtain⟨i,g,hi,hgp,hgs⟩:=hn
   have hip:0 < x.getD i 0:=by
    rw[lessOne_at] at hgp
    by_cases q:i=e
    ·subst q;rw[if_pos rfl] at hgp;omega
    ·rw[if_neg q] at hgp;exact hgp
   have dlt:d.dst < k.nodes:=w.dst d (List.mem_of_getElem? he)
   obtain⟨sE,sIn⟩:=closed_cross w fd dlt hex (Reach k (lessOne x e) d.dst) reach_closed (.inl .refl)
   have sEx:=sE .refl
   have gS:¬ Reach k (lessOne x e) d.dst g.dst:=fun q=>hS (by
    have:=sIn g ⟨i,hi,hgp⟩ q
    rw[hgs] at this
    exact this)
   have tS:∀ v,Reach k (lessOne x e) g.dst v->¬ Reach k (lessOne x e) d.dst v:=fun v hv =>
    reach_sub (S:=fun v=>¬ Reach k (lessOne x e) d.dst v) (fun q pq hq z=>hq (sIn q pq z)) gS hv
   obtain⟨_,tIn⟩:=closed_cross w fd dlt hex (Reach k (lessOne x e) g.dst) reach_closed (.inr fun z=>tS _ z sEx)
   have tU:Reach k (lessOne x e) g.dst g.src:=tIn g ⟨i,hi,hgp⟩ .refl
   have fg:Flow k (lessOne x i) g.dst (exitOf k):=flow_less (by rw[hgs];exact f) hi hip
   have uT:Reach k (lessOne x i) g.dst g.src:=by
    apply Classical.byContradiction
    intro no
    have c:Closed k (lessOne x e) (Reach k (lessOne x i) g.dst):=fun q pq hr=>by
     rcases pos_less hi (pos_of_less pq) with z|z
     ·exact .step hr z
     ·subst z;exact (no hr).elim
    exact no (reach_sub c .refl tU)
   refine⟨i,g,hi,hip,hgs,fg,fun q pq=>?_⟩
   have c:Closed k x (Reach k (lessOne x i) g.dst):=fun q pq hr=>by
    rcases pos_less hi pq with z|z
    ·exact .step hr z
    ·subst z;exact .refl
   refine reach_sub c ?_ (hg q (pos_of_less pq))
   rw[← hgs];exact uT
  ·refine⟨e,d,he,hp,rfl,fd,fun g pg=>?_⟩
   have c:Closed k x (fun v=>Reach k (lessOne x e) d.dst v∨v=d.src):=fun q pq hr=>by
    rcases pos_less he pq with z|z
    ·rcases hr with hr|hr
     ·exact .inl (.step hr z)
     ·obtain⟨i,hi,hz⟩:=z
      exact (hn ⟨i,q,hi,hz,hr⟩).elim
    ·subst z;exact .inl .refl
   rcases reach_sub (S:=fun v=>Reach k (lessOne x e) d.dst v∨v=d.src) c (.inr rfl) (hg g (pos_of_less pg)) with z|z
   ·exact z
   ·obtain⟨i,hi,hz⟩:=pg
    exact (hn ⟨i,g,hi,hz,z⟩).elim
theorem fits_iff {k x u} (w:WfG k) (hu:u < k.nodes):fitsFrom k x u=true ↔ Flow k x u (exitOf k)∧∀ d,Pos k x d->Reach k x u d.src:=by
 unfold fitsFrom
 rw[Bool.and_eq_true,flows_iff,hangs_iff w hu]
theorem sum_pos {k:Known} {x:Counts} (hl:x.length=k.edges.length) (h:0 < sum x):∃ d,Pos k x d:=by
 have:∃ e:Nat,e < x.length∧0 < x.getD e 0:=by
  clear hl
  induction x with
  | nil=>simp[sum_nil] at h
  | cons c x ih =>
   rcases Nat.eq_zero_or_pos c with h0|h0
   ·obtain⟨e,h1,h2⟩:=ih (by rw[sum_cons] at h;omega)
    exact⟨e+1,by simp;omega,by simpa using h2⟩
   ·exact⟨0,by simp,by simpa using h0⟩
 obtain⟨e,h1,h2⟩:=this
 exact⟨k.edges[e]'(by omega),e,List.getElem?_eq_getElem _,h2⟩
theorem sum_less:∀ (x:Counts) (e:Nat),0 < x.getD e 0->sum (lessOne x e)+1=sum x
 | [],e,h=>by simp at h
 | c::x,0,h=>by
  have h0:0 < c:=by simpa using h
  have:lessOne (c::x) 0=(c - 1)::x:=by unfold lessOne;simp
  rw[this,sum_cons,sum_cons];omega
 | c::x,e+1,h=>by
  have ih:=sum_less x e (by simpa using h)
  have:lessOne (c::x) (e+1)=c::lessOne x e:=by unfold lessOne;simp
  rw[this,sum_cons,sum_cons];omega
def mayStand (k:Known) (u:Nat) (x:Counts) (e:Nat):Bool:=(k.edges[e]?).any fun d=>decide (0 < x.getD e 0)&&d.src==u&&fitsFrom k (lessOne x e) d.dst
theorem mayStand_iff {k u x e}:mayStand k u x e=true ↔ ∃ d,k.edges[e]?=some d∧0 < x.getD e 0∧d.src=u∧fitsFrom k (lessOne x e) d.dst=true:=by
 unfold mayStand
 cases h:k.edges[e]? with
 | none=>simp
 | some d=>simp[and_assoc]
theorem told_some {k x u} (w:WfG k) (hu:u < k.nodes) (hl:x.length=k.edges.length) (hf:fitsFrom k x u=true) (hs:0 < sum x) :
  ∃ e d,(List.range k.edges.length).find? (mayStand k u x)=some e∧k.edges[e]?=some d∧0 < x.getD e 0∧d.src=u∧fitsFrom k (lessOne x e) d.dst=true:=by
 obtain⟨h1,h2⟩:=(fits_iff w hu).mp hf
 obtain⟨e,d,he,hp,hd,f',g'⟩:=next_edge w hu h1 h2 (sum_pos hl hs)
 have ms:mayStand k u x e=true:=mayStand_iff.mpr ⟨d,he,hp,hd,(fits_iff w (w.dst d (List.mem_of_getElem? he))).mpr ⟨f',g'⟩⟩
 have me:e∈List.range k.edges.length:=List.mem_range.mpr (List.getElem?_eq_some_iff.mp he).1
 cases q:(List.range k.edges.length).find? (mayStand k u x) with
 | none=>exact absurd ms (List.find?_eq_none.mp q e me)
 | some e' =>
  obtain⟨d',h⟩:=mayStand_iff.mp (List.find?_some q)
  exact⟨e',d',rfl,h⟩
theorem toldFrom_cons {k n u x e d} (h:(List.range k.edges.length).find? (mayStand k u x)=some e) (hd:k.edges[e]?=some d):toldFrom k (n+1) u x=e::toldFrom k n d.dst (lessOne x e):=by
 show (match (List.range k.edges.length).find? (mayStand k u x) with
  | none=>[]
  | some e=>e::toldFrom k n ((k.edges[e]?).map (fun d:Edge=>d.dst) |>.getD 0) (lessOne x e))=_
 rw[h]
 show e::toldFrom k n ((k.edges[e]?).map (fun d:Edge=>d.dst) |>.getD 0) (lessOne x e)=_
 rw[hd]
 rfl
end Ww
end
section
namespace Ww
open Vawctd
def stepL {α:Type} (xs:List α) (j st:Nat):List α:=(List.range ((xs.length+st - 1 - j) / st)).filterMap fun k=>xs[j+st*k]?
theorem stepL_cons {α:Type} (x:α) (xs:List α) (j st:Nat) (h:0 < st):stepL (x::xs) (j+1) st=stepL xs j st:=by
 unfold stepL
 have e:(x::xs).length+st - 1 - (j+1)=xs.length+st - 1 - j:=by rw[List.length_cons];omega
 rw[e]
 congr 1
 funext k
 rw[show j+1+st*k=(j+st*k)+1 by omega,List.getElem?_cons_succ]
theorem stepL_four {α:Type} (a b c d:α) (r:List α) (j:Nat) (h:j < 4):stepL (a::b::c::d::r) j 4=[a,b,c,d][j]::stepL r j 4:=by
 unfold stepL
 have e:((a::b::c::d::r).length+4 - 1 - j) / 4=(r.length+4 - 1 - j) / 4+1:=by
  simp only[List.length_cons]
  omega
 rw[e,List.range_succ_eq_map,List.filterMap_cons,List.filterMap_map]
 have e2:((fun k=>(a::b::c::d::r)[j+4*k]?)∘Nat.succ)=fun k=>r[j+4*k]?:=by
  funext k
  show (a::b::c::d::r)[j+4*(k+1)]?=_
  rw[show j+4*(k+1)=(j+4*k)+1+1+1+1 by omega]
  simp only[List.getElem?_cons_succ]
 rw[e2]
 match j,h with
 | 0,_=>rfl
 | 1,_=>rfl
 | 2,_=>rfl
 | 3,_=>rfl
structure Fours (es:List Edge) (r:List Int):Prop where
 s:stepL r 0 4=es.map fun d=>(d.src:Int)
 d:stepL r 1 4=es.map fun d=>(d.dst:Int)
 c:stepL r 2 4=es.map fun d=>(d.cost:Int)
 m:stepL r 3 4=es.map fun d=>(d.most:Int)
 len:r.length=4*es.length
def foursOk (n:Nat) (r:List Int):Bool:=(stepL r 0 4).all (fun z=>inRange z 0 ((n:Int) - 1))&&(stepL r 1 4).all (fun z=>inRange z 0 ((n:Int) - 1))&&(stepL r 2 4).all (fun z=>inRange z 0 1000)&&(stepL r 3 4).all (fun z=>inRange z 0 9)
theorem foursOk_four (n:Nat) (a b c m:Int) (r:List Int):foursOk n (a::b::c::m::r)=((inRange a 0 ((n:Int) - 1)&&inRange b 0 ((n:Int) - 1)&&inRange c 0 1000&&inRange m 0 9)&&foursOk n r):=by
 unfold foursOk
 rw[stepL_four _ _ _ _ _ 0 (by omega),stepL_four _ _ _ _ _ 1 (by omega),stepL_four _ _ _ _ _ 2 (by omega),stepL_four _ _ _ _ _ 3 (by omega)]
 simp only[List.all_cons]
 show (inRange a _ _&&_&&(inRange b _ _&&_)&&(inRange c _ _&&_)&&(inRange m _ _&&_))=_
 generalize inRange a 0 ((n:Int) - 1)=x1
 generalize inRange b 0 ((n:Int) - 1)=x2
 generalize inRange c 0 1000=x3
 generalize inRange m 0 9=x4
 generalize (stepL r 0 4).all (fun z=>inRange z 0 ((n:Int) - 1))=y1
 generalize (stepL r 1 4).all (fun z=>inRange z 0 ((n:Int) - 1))=y2
 generalize (stepL r 2 4).all (fun z=>inRange z 0 1000)=y3
 generalize (stepL r 3 4).all (fun z=>inRange z 0 9)=y4
 revert x1 x2 x3 x4 y1 y2 y3 y4
 decide
theorem k1j {n lo hi:Int} (h:inRange n lo hi=true):lo≤n∧n≤hi:=by
 unfold inRange at h
 simpa using h
theorem readEdges_four (n:Nat) (a b c m:Int) (r:List Int):readEdges n (a::b::c::m::r)=if inRange a 0 ((n:Int) - 1)&&inRange b 0 ((n:Int) - 1)&&inRange c 0 1000&&inRange m 0 9 then (readEdges n r).map fun l=>{ src:=a.toNat,dst:=b.toNat,cost:=c.toNat,most:=m.toNat }::l else none:=by
 rw[readEdges]
 rfl
theorem readEdges_some:∀ (n:Nat) (q:Nat) (r:List Int),r.length=4*q->foursOk n r=true->∃ es,readEdges n r=some es∧Fours es r∧es.length=q∧∀ d∈es,d.src < n∧d.dst < n∧d.cost≤1000∧d.most≤9
 | n,0,[],_,_=>⟨[],rfl,⟨rfl,rfl,rfl,rfl,rfl⟩,rfl,by simp⟩
 | n,0,a::r,h,_=>by simp at h
 | n,q+1,r,h,hk=>by
  match r,h,hk with
  | a::b::c::m::r,h,hk =>
   rw[foursOk_four,Bool.and_eq_true] at hk
   obtain⟨h1,h2⟩:=hk
   obtain⟨es,e,F,hl,hw⟩:=readEdges_some n q r (by simp at h;omega) h2
   refine⟨{ src:=a.toNat,dst:=b.toNat,cost:=c.toNat,most:=m.toNat }::es,?_,?_,by simp[hl],?_⟩
   ·rw[readEdges_four,h1,e];rfl
   ·simp only[Bool.and_eq_true] at h1
    obtain⟨⟨⟨ha,hb⟩,hc⟩,hm⟩:=h1
    have ha:=k1j ha
    have hb:=k1j hb
    have hc:=k1j hc
    have hm:=k1j hm
    refine⟨?_,?_,?_,?_,by simp[F.len];omega⟩
    ·rw[stepL_four _ _ _ _ _ 0 (by omega),F.s];show a::_=((a.toNat:Nat):Int)::_;rw[Int.toNat_of_nonneg ha.1]
    ·rw[stepL_four _ _ _ _ _ 1 (by omega),F.d];show b::_=((b.toNat:Nat):Int)::_;rw[Int.toNat_of_nonneg hb.1]
    ·rw[stepL_four _ _ _ _ _ 2 (by omega),F.c];show c::_=((c.toNat:Nat):Int)::_;rw[Int.toNat_of_nonneg hc.1]
    ·rw[stepL_four _ _ _ _ _ 3 (by omega),F.m];show m::_=((m.toNat:Nat):Int)::_;rw[Int.toNat_of_nonneg hm.1]
   ·simp only[Bool.and_eq_true] at h1
    obtain⟨⟨⟨ha,hb⟩,hc⟩,hm⟩:=h1
    have ha:=k1j ha
    have hb:=k1j hb
    have hc:=k1j hc
    have hm:=k1j hm
    intro d hd
    rcases List.mem_cons.mp hd with e|hd
    ·subst e
     dsimp only
     omega
    ·exact hw d hd
theorem readEdges_none:∀ (n:Nat) (q:Nat) (r:List Int),r.length=4*q->foursOk n r=false->readEdges n r=none
 | n,0,[],_,h=>by
  have:foursOk n []=true:=rfl
  rw[this] at h;cases h
 | n,0,a::r,h,_=>by simp at h
 | n,q+1,r,h,hk=>by
  match r,h,hk with
  | a::b::c::m::r,h,hk =>
   rw[foursOk_four] at hk
   rw[readEdges_four]
   by_cases h1:(inRange a 0 ((n:Int) - 1)&&inRange b 0 ((n:Int) - 1)&&inRange c 0 1000&&inRange m 0 9)=true
   ·rw[h1,Bool.true_and] at hk
    rw[if_pos h1,readEdges_none n q r (by simp at h;omega) hk]
    rfl
   ·rw[if_neg h1]
theorem readEdges_odd:∀ (n:Nat) (r:List Int),r.length % 4≠0->readEdges n r=none
 | n,[],h=>by simp at h
 | n,[a],_=>by simp[readEdges]
 | n,[a,b],_=>by simp[readEdges]
 | n,[a,b,c],_=>by simp[readEdges]
 | n,a::b::c::m::r,h=>by
  have h':r.length % 4≠0:=by simp only[List.length_cons] at h;omega
  rw[readEdges_four,readEdges_odd n r h']
  split<;>rfl
def graphOk (l:List Int):Bool:=decide (l.length % 4=1∧1≤l.length / 4∧l.length / 4≤16)&&(match l with
 | n::r=>inRange n 2 8&&foursOk n.toNat r
 | []=>false)
theorem readGraph_some {l:List Int} (h:graphOk l=true):∃ k n r,l=n::r∧readGraph l=some k∧k.nodes=n.toNat∧2≤n∧n≤8∧Fours k.edges r∧k.facts=[]∧k.bans=[]∧1≤k.edges.length∧k.edges.length≤16∧∀ d∈k.edges,d.src < k.nodes∧d.dst < k.nodes∧d.cost≤1000∧d.most≤9:=by
 unfold graphOk at h
 cases l with
 | nil=>simp at h
 | cons n r =>
  simp only[Bool.and_eq_true,decide_eq_true_eq,List.length_cons] at h
  obtain⟨⟨h1,h2,h3⟩,h4,h5⟩:=h
  obtain⟨es,e,F,hl,hw⟩:=readEdges_some n.toNat (r.length / 4) r (by omega) h5
  have hn:=k1j h4
  refine⟨{ nodes:=n.toNat,edges:=es,facts:=[],bans:=[] },n,r,rfl,?_,rfl,hn.1,hn.2,F,rfl,rfl,?_,?_,hw⟩
  ·have e16:¬ (EDGES < es.length):=by show ¬ (16 < es.length);omega
   have en:es.isEmpty=false:=by
    cases es with
    | nil=>simp at hl;omega
    | cons _ _=>rfl
   show (if inRange n 2 NODES then (match readEdges n.toNat r with
    | none=>none
    | some es=>if es.isEmpty || decide (EDGES < es.length) then none else some { nodes:=n.toNat,edges:=es,facts:=[],bans:=[]:Known }) else none)=_
   have h4':inRange n 2 (NODES:Nat)=true:=h4
   rw[h4',e]
   simp[en,e16]
  ·show 1≤es.length;omega
  ·show es.length≤16;omega
theorem readGraph_none {l:List Int} (h:graphOk l=false):readGraph l=none:=by
 unfold graphOk at h
 cases l with
 | nil=>rfl
 | cons n r =>
  show (if inRange n 2 (NODES:Nat) then (match readEdges n.toNat r with
    | none=>none
    | some es=>if es.isEmpty || decide (EDGES < es.length) then none else some { nodes:=n.toNat,edges:=es,facts:=[],bans:=[]:Known }) else none)=none
  by_cases hn:inRange n 2 (NODES:Nat)=true
  ·rw[if_pos hn]
   have hn':inRange n 2 8=true:=hn
   simp only[hn',Bool.true_and,List.length_cons] at h
   by_cases hm:r.length % 4=0
   ·cases hf:foursOk n.toNat r with
    | false=>rw[readEdges_none n.toNat (r.length / 4) r (by omega) hf]
    | true =>
     rw[hf,Bool.and_true,decide_eq_false_iff_not] at h
     obtain⟨es,e,F,hl,hw⟩:=readEdges_some n.toNat (r.length / 4) r (by omega) hf
     rw[e]
     show (if es.isEmpty || decide (EDGES < es.length) then none else _)=none
     rw[if_pos]
     rw[Bool.or_eq_true,decide_eq_true_eq]
     rcases Nat.eq_zero_or_pos es.length with h0|h0
     ·left;rw[List.eq_nil_of_length_eq_zero h0];rfl
     ·right;show 16 < es.length;omega
   ·rw[readEdges_odd n.toNat r hm]
  ·rw[if_neg hn]
end Ww
end
section
namespace Ww
open Vawctd
theorem foldl_addI (l:List Int):∀ a:Int,l.foldl (·+·) a=a+l.foldl (·+·) 0:=by
 induction l with
 | nil=>intro a;simp
 | cons b l ih =>
  intro a
  simp only[List.foldl_cons]
  rw[ih (a+b),ih (0+b)]
  omega
theorem sumInt_eq (l:List Int):sumInt l=l.sum:=by
 unfold sumInt
 induction l with
 | nil=>rfl
 | cons a l ih=>rw[List.foldl_cons,foldl_addI,ih,List.sum_cons];omega
def dot (ms cs:List Int):Int:=((ms.zip cs).map fun z=>z.1*z.2).sum
theorem costBy_dot (ms:List Int) (x:Counts):costBy ms x=dot ms (toInts x):=by
 unfold costBy dot toInts
 rw[sumInt_eq]
 congr 1
 induction ms generalizing x with
 | nil=>simp
 | cons m ms ih =>
  cases x with
  | nil=>simp
  | cons c x=>simp only[List.zip_cons_cons,List.map_cons];rw[ih]
theorem toInts_len (x:Counts):(toInts x).length=x.length:=by unfold toInts;simp
theorem toInts_get (x:Counts) (i:Nat):(toInts x)[i]?=(x[i]?).map fun (n:Nat)=>(n:Int):=by unfold toInts;rw[List.getElem?_map]
def idxs {α:Type} (p:α->Bool) (xs:List α) (k:Nat:=0):List Nat:=(xs.zipIdx k).filterMap fun z=>if p z.1 then some z.2 else none
theorem idxs_cons {α:Type} (p:α->Bool) (a:α) (xs:List α) (k:Nat):idxs p (a::xs) k=if p a then k::idxs p xs (k+1) else idxs p xs (k+1):=by
 unfold idxs
 rw[List.zipIdx_cons,List.filterMap_cons]
 cases p a<;>rfl
theorem idxs_find {α:Type} (p:α->Bool):∀ (xs:List α) (k:Nat),(idxs p xs k).head?=(xs.findIdx? p).map (·+k)
 | [],k=>rfl
 | a::xs,k=>by
  rw[idxs_cons,List.findIdx?_cons]
  cases hp:p a with
  | true=>simp
  | false =>
   simp only[Bool.false_eq_true,if_false]
   rw[idxs_find p xs (k+1)]
   cases xs.findIdx? p with
   | none=>rfl
   | some j=>simp;omega
def goI (k:Known):Nat->List Int->Bool
 | u,[]=>u==exitOf k
 | u,e::r=>isEdge k e&&((k.edges.getD e.toNat ⟨0,0,0,0⟩).src==u&&goI k (k.edges.getD e.toNat ⟨0,0,0,0⟩).dst r)
theorem goI_eq (k:Known):∀ (ns:List Int) (u:Nat),goI k u ns=(!(ns.any fun n=>decide (n < 0))&&goesFrom k u (ns.map Int.toNat))
 | [],u=>by simp[goI,goesFrom]
 | e::r,u=>by
  rw[goI,goI_eq k r,List.any_cons,List.map_cons,goesFrom]
  by_cases h0:e < 0
  ·have:isEdge k e=false:=by unfold isEdge inRange;simp;omega
   rw[this]
   simp[h0]
  ·by_cases h1:e < k.edges.length
   ·have hi:isEdge k e=true:=by unfold isEdge inRange;simp;omega
    have hlt:e.toNat < k.edges.length:=by omega
    rw[hi,List.getElem?_eq_getElem hlt,List.getD_eq_getElem?_getD,List.getElem?_eq_getElem hlt]
    simp only[Option.getD_some,Bool.true_and,decide_eq_false h0,Bool.false_or]
    cases (k.edges[e.toNat].src==u)<;>simp
   ·have hi:isEdge k e=false:=by unfold isEdge inRange;simp;omega
    have hn:k.edges[e.toNat]?=none:=List.getElem?_eq_none (by omega)
    rw[hi,hn]
    simp
theorem goI_edges (k:Known):∀ (ns:List Int) (u:Nat),goI k u ns=true->∀ e∈ns,0≤e∧e.toNat < k.edges.length
 | [],u,_,e,h=>by cases h
 | a::r,u,h,e,he=>by
  rw[goI,Bool.and_eq_true,Bool.and_eq_true] at h
  rcases List.mem_cons.mp he with q|q
  ·subst q
   have:=h.1
   unfold isEdge inRange at this
   simp at this
   omega
  ·exact goI_edges k r _ h.2.2 e q
theorem countsOf_len (k:Known) (w:List Nat):(countsOf k w).length=k.edges.length:=by unfold countsOf;simp
theorem countsOf_nil (k:Known):countsOf k []=List.replicate k.edges.length 0:=by
 unfold countsOf
 simp
 apply List.ext_getElem?
 intro i
 rw[List.getElem?_map,List.getElem?_replicate]
 by_cases h:i < k.edges.length
 ·rw[if_pos h,List.getElem?_range h];rfl
 ·rw[if_neg h,List.getElem?_eq_none (by simp;omega)];rfl
theorem countsOf_snoc (k:Known) (w:List Nat) (e:Nat) (he:e < k.edges.length):countsOf k (w++[e])=(countsOf k w).set e ((countsOf k w).getD e 0+1):=by
 apply List.ext_getElem?
 intro i
 rw[List.getElem?_set,countsOf_len]
 by_cases hi:i < k.edges.length
 ·have g:∀ w:List Nat,(countsOf k w)[i]?=some ((w.filter fun d=>d==i).length):=fun w=>by
   unfold countsOf
   rw[List.getElem?_map,List.getElem?_range hi];rfl
  rw[g,g,List.filter_append]
  by_cases q:e=i
  ·subst q
   rw[if_pos rfl,if_pos he,List.getD_eq_getElem?_getD,g]
   simp
  ·rw[if_neg q]
   simp[q]
 ·rw[List.getElem?_eq_none (by rw[countsOf_len];omega)]
  by_cases q:e=i
  ·omega
  ·rw[if_neg q,List.getElem?_eq_none (by rw[countsOf_len];omega)]
end Ww
end
section
namespace Ww
open Vawctd
def net (es:List Edge) (x:Counts) (v:Nat):Int:=(sw es x (fun d=>d.dst==v):Int) - (sw es x (fun d=>d.src==v):Int)
def at1 (a v:Nat):Int:=if v=a then 1 else 0
def surp (k:Known) (x:Counts) (u i v:Nat):Int:=at1 u v - at1 (exitOf k) v+net (k.edges.take i) (x.take i) v
theorem sw_snoc (p:Edge->Bool):∀ (es:List Edge) (x:Counts) (d:Edge) (c:Nat),es.length=x.length->sw (es++[d]) (x++[c]) p=sw es x p+(if p d then c else 0)
 | [],[],d,c,_=>by simp[sw]
 | [],_::_,_,_,h=>by simp at h
 | _::_,[],_,_,h=>by simp at h
 | e::es,y::x,d,c,h=>by
  have ih:=sw_snoc p es x d c (by simpa using h)
  simp only[List.cons_append,sw]
  rw[ih]
  omega
theorem net_snoc (es:List Edge) (x:Counts) (d:Edge) (c:Nat) (v:Nat) (h:es.length=x.length):net (es++[d]) (x++[c]) v=net es x v+(if v=d.dst then (c:Int) else 0) - (if v=d.src then (c:Int) else 0):=by
 unfold net
 rw[sw_snoc _ _ _ _ _ h,sw_snoc _ _ _ _ _ h]
 by_cases h1:v=d.dst<;>by_cases h2:v=d.src
 ·subst h1;simp[← h2];omega
 ·have z2:¬ d.src=v:=fun q=>h2 q.symm
  subst h1;simp[z2,h2];omega
 ·have z1:¬ d.dst=v:=fun q=>h1 q.symm
  subst h2;simp[z1,h1];omega
 ·have z1:¬ d.dst=v:=fun q=>h1 q.symm
  have z2:¬ d.src=v:=fun q=>h2 q.symm
  simp[z1,z2,h1,h2]
theorem surp_succ {k:Known} {x:Counts} {u i v:Nat} {d:Edge} {c:Nat} (hd:k.edges[i]?=some d) (hc:x[i]?=some c):surp k x u (i+1) v=surp k x u i v+(if v=d.dst then (c:Int) else 0) - (if v=d.src then (c:Int) else 0):=by
 unfold surp
 have h1:=(List.getElem?_eq_some_iff.mp hd).1
 have h2:=(List.getElem?_eq_some_iff.mp hc).1
 rw[List.take_add_one,List.take_add_one,hd,hc]
 simp only[Option.toList_some]
 rw[net_snoc _ _ _ _ _ (by rw[List.length_take,List.length_take];omega)]
 omega
def surpRow (k:Known) (x:Counts) (u i:Nat):List Int:=(List.range k.nodes).map (surp k x u i)
theorem surpRow_len {k x u i}:(surpRow k x u i).length=k.nodes:=by unfold surpRow;simp
theorem surpRow_get {k x u i v} (h:v < k.nodes):(surpRow k x u i)[v]?=some (surp k x u i v):=by
 unfold surpRow
 rw[List.getElem?_map,List.getElem?_range h];rfl
theorem surpRow_succ {k:Known} {x:Counts} {u i:Nat} {d:Edge} {c:Nat} (hd:k.edges[i]?=some d) (hc:x[i]?=some c) (h1:d.dst < k.nodes) (h2:d.src < k.nodes) :
  surpRow k x u (i+1)=((surpRow k x u i).set d.dst (surp k x u i d.dst+c)).set d.src (((surpRow k x u i).set d.dst (surp k x u i d.dst+c)).getD d.src 0 - c):=by
 apply List.ext_getElem?
 intro v
 by_cases hv:v < k.nodes
 ·rw[surpRow_get hv,surp_succ hd hc,List.getElem?_set,List.length_set,surpRow_len,List.getD_eq_getElem?_getD]
  by_cases a:d.src=v
  ·subst a
   rw[if_pos rfl,if_pos hv,List.getElem?_set,surpRow_len]
   by_cases b:d.dst=d.src
   ·rw[if_pos b,if_pos h1]
    simp[b]
   ·rw[if_neg b,surpRow_get hv]
    have b':¬ d.src=d.dst:=fun q=>b q.symm
    simp[b']
  ·rw[if_neg a,List.getElem?_set,surpRow_len]
   have a':¬ v=d.src:=fun q=>a q.symm
   by_cases b:d.dst=v
   ·subst b
    rw[if_pos rfl,if_pos hv]
    simp[a']
   ·rw[if_neg b,surpRow_get hv]
    have b':¬ v=d.dst:=fun q=>b q.symm
    simp[a',b']
 ·rw[List.getElem?_eq_none (by rw[surpRow_len];omega),List.getElem?_eq_none (by rw[List.length_set,List.length_set,surpRow_len];omega)]
theorem surpRow_zero {k:Known} {x:Counts} {u:Nat} (hu:u < k.nodes) (h2:2≤k.nodes):surpRow k x u 0=((List.replicate k.nodes (0:Int)).set u 1).set (exitOf k) (((List.replicate k.nodes (0:Int)).set u 1).getD (exitOf k) 0 - 1):=by
 have hx:exitOf k < k.nodes:=by unfold exitOf;omega
 apply List.ext_getElem?
 intro v
 by_cases hv:v < k.nodes
 ·rw[surpRow_get hv,List.getElem?_set,List.length_set,List.length_replicate,List.getD_eq_getElem?_getD]
  have e:surp k x u 0 v=at1 u v - at1 (exitOf k) v:=by
   unfold surp net
   simp[sw]
  rw[e]
  unfold at1
  by_cases a:exitOf k=v
  ·rw[if_pos a,if_pos hx,List.getElem?_set,List.length_replicate]
   by_cases b:u=exitOf k
   ·rw[if_pos b,if_pos hu]
    simp[← a,b]
   ·rw[if_neg b,List.getElem?_replicate,if_pos hx]
    have b':¬ exitOf k=u:=fun q=>b q.symm
    simp[← a,b']
  ·rw[if_neg a,List.getElem?_set,List.length_replicate]
   have a':¬ v=exitOf k:=fun q=>a q.symm
   by_cases b:u=v
   ·rw[if_pos b,if_pos hu,if_pos b.symm,if_neg a']
    rfl
   ·rw[if_neg b,List.getElem?_replicate,if_pos hv]
    have b':¬ v=u:=fun q=>b q.symm
    simp[a',b']
 ·rw[List.getElem?_eq_none (by rw[surpRow_len];omega),List.getElem?_eq_none (by rw[List.length_set,List.length_set,List.length_replicate];omega)]
theorem flows_surp {k:Known} {x:Counts} {u:Nat} (hl:x.length=k.edges.length):flows k x u=!((surpRow k x u k.edges.length).any fun n=>n != 0):=by
 have key:∀ v,surp k x u k.edges.length v=0 ↔ sw k.edges x (fun d=>d.dst==v)+(if v=u then 1 else 0)=sw k.edges x (fun d=>d.src==v)+(if v=exitOf k then 1 else 0):=fun v=>by
  unfold surp net at1
  rw[List.take_length,← hl,List.take_length]
  generalize sw k.edges x (fun d=>d.dst==v)=A
  generalize sw k.edges x (fun d=>d.src==v)=B
  by_cases a:v=u<;>by_cases b:v=exitOf k
  ·simp only[if_pos a,if_pos b];omega
  ·simp only[if_pos a,if_neg b];omega
  ·simp only[if_neg a,if_pos b];omega
  ·simp only[if_neg a,if_neg b];omega
 rw[Bool.eq_iff_iff,flows_iff]
 constructor
 ·intro h
  rw[Bool.not_eq_true',List.any_eq_false]
  intro n hn
  obtain⟨v,hv,e⟩:=List.mem_map.mp hn
  have:=(key v).mpr (h v (List.mem_range.mp hv))
  rw[← e,this]
  simp
 ·intro h v hv
  rw[Bool.not_eq_true',List.any_eq_false] at h
  have:=h _ (List.mem_map.mpr ⟨v,List.mem_range.mpr hv,rfl⟩)
  exact (key v).mp (by simpa using this)
structure Dfs (k:Known) (x:Counts) (u:Nat) (bs:List Bool) (wt:List Nat):Prop where
 len:bs.length=k.nodes
 start:bs.getD u false=true
 sound:∀ v,bs.getD v false=true->Reach k x u v
 wait:∀ v∈wt,bs.getD v false=true∧v < k.nodes
 closed:∀ d,Pos k x d->bs.getD d.src false=true->d.src∉wt->bs.getD d.dst false=true
structure DfsIn (k:Known) (x:Counts) (u n i:Nat) (bs:List Bool) (wt:List Nat):Prop where
 len:bs.length=k.nodes
 start:bs.getD u false=true
 sound:∀ v,bs.getD v false=true->Reach k x u v
 wait:∀ v∈wt,bs.getD v false=true∧v < k.nodes
 here:bs.getD n false=true
 closed:∀ d,Pos k x d->bs.getD d.src false=true->d.src∉wt->d.src≠n->bs.getD d.dst false=true
 done:∀ (j:Nat) (d:Edge),j < i->k.edges[j]?=some d->0 < x.getD j 0->d.src=n->bs.getD d.dst false=true
def unseen (bs:List Bool):Nat:=(bs.filter fun b=>!b).length
theorem getD_set_self {α:Type} {l:List α} {i:Nat} {a d:α} (h:i < l.length):(l.set i a).getD i d=a:=by
 rw[List.getD_eq_getElem?_getD,List.getElem?_set_self h];rfl
theorem getD_set_ne {α:Type} {l:List α} {i j:Nat} {a d:α} (h:i≠j):(l.set i a).getD j d=l.getD j d:=by
 rw[List.getD_eq_getElem?_getD,List.getD_eq_getElem?_getD,List.getElem?_set_ne h]
theorem set_true_mono {bs:List Bool} {i v:Nat} (h:bs.getD v false=true):(bs.set i true).getD v false=true:=by
 by_cases e:i=v
 ·subst e
  by_cases hl:i < bs.length
  ·exact getD_set_self hl
  ·rw[List.getD_eq_getElem?_getD,List.getElem?_eq_none (by omega)] at h
   cases h
 ·rw[getD_set_ne e];exact h
theorem unseen_set:∀ {bs:List Bool} {i:Nat},bs[i]?=some false->unseen (bs.set i true)+1=unseen bs
 | [],i,h=>by simp at h
 | b::bs,0,h=>by
  have e:b=false:=by simpa using h
  subst e
  simp[unseen]
 | b::bs,i+1,h=>by
  have ih:=unseen_set (bs:=bs) (i:=i) (by simpa using h)
  unfold unseen at ih ⊢
  rw[List.set_cons_succ,List.filter_cons,List.filter_cons]
  cases b<;>simp<;>omega
theorem Dfs.init {k x u} (hu:u < k.nodes):Dfs k x u ((List.replicate k.nodes false).set u true) [u]:=by
 have g:∀ v,((List.replicate k.nodes false).set u true).getD v false=true->v=u:=fun v h=>by
  apply Classical.byContradiction
  intro ne
  rw[getD_set_ne (fun z=>ne z.symm),List.getD_eq_getElem?_getD,List.getElem?_replicate] at h
  split at h<;>cases h
 have su:((List.replicate k.nodes false).set u true).getD u false=true:=getD_set_self (by simpa using hu)
 refine⟨by simp,su,fun v h=>by rw[g v h];exact .refl,fun v hv=>?_,fun d p h hn=>?_⟩
 ·have e:v=u:=by simpa using hv
  subst e
  exact⟨su,hu⟩
 ·exact absurd (by rw[g _ h];simp) hn
theorem Dfs.take {k x u bs wt n} (D:Dfs k x u bs (wt++[n])):DfsIn k x u n 0 bs wt :=
 ⟨D.len,D.start,D.sound,fun v hv=>D.wait v (List.mem_append_left _ hv),(D.wait n (by simp)).1,fun d p h h1 h2=>D.closed d p h (by simp[h1,h2]),fun j d h=>absurd h (Nat.not_lt_zero _)⟩
theorem DfsIn.give {k x u n bs wt} (D:DfsIn k x u n k.edges.length bs wt):Dfs k x u bs wt :=
 ⟨D.len,D.start,D.sound,D.wait,fun d p h h1=>by
  by_cases e:d.src=n
  ·obtain⟨j,hj,hp⟩:=p
   exact D.done j d (List.getElem?_eq_some_iff.mp hj).1 hj hp e
  ·exact D.closed d p h h1 e⟩
theorem DfsIn.skip {k x u n i bs wt} (D:DfsIn k x u n i bs wt) (h:∀ d,k.edges[i]?=some d->0 < x.getD i 0->d.src=n->bs.getD d.dst false=true):DfsIn k x u n (i+1) bs wt :=
 ⟨D.len,D.start,D.sound,D.wait,D.here,D.closed,fun j d hj e hp hs=>by
  by_cases q:j=i
  ·subst q;exact h d e hp hs
  ·exact D.done j d (by omega) e hp hs⟩
theorem DfsIn.add {k x u n i bs wt} {d:Edge} (D:DfsIn k x u n i bs wt) (he:k.edges[i]?=some d) (hp:0 < x.getD i 0) (hs:d.src=n) (hd:d.dst < k.nodes) (hb:bs.getD d.dst false=false):DfsIn k x u n (i+1) (bs.set d.dst true) (wt++[d.dst]):=by
 have hlt:d.dst < bs.length:=by rw[D.len];exact hd
 have new:(bs.set d.dst true).getD d.dst false=true:=getD_set_self hlt
 have old:∀ v,(bs.set d.dst true).getD v false=true->v=d.dst∨bs.getD v false=true:=fun v h=>by
  by_cases e:d.dst=v
  ·exact .inl e.symm
  ·rw[getD_set_ne e] at h;exact .inr h
 refine⟨by simp[D.len],set_true_mono D.start,fun v h=>?_,fun v hv=>?_,set_true_mono D.here,fun g p h h1 h2=>?_,fun j g hj e hpj hsj=>?_⟩
 ·rcases old v h with e|h
  ·rw[e];exact .step (hs▸D.sound n D.here) ⟨i,he,hp⟩
  ·exact D.sound v h
 ·rcases List.mem_append.mp hv with hv|hv
  ·exact⟨set_true_mono (D.wait v hv).1,(D.wait v hv).2⟩
  ·have e:v=d.dst:=by simpa using hv
   rw[e];exact⟨new,hd⟩
 ·have h1':g.src∉wt∧g.src≠d.dst:=by simpa using h1
  rcases old _ h with e|h
  ·exact absurd e h1'.2
  ·exact set_true_mono (D.closed g p h h1'.1 h2)
 ·by_cases q:j=i
  ·subst q
   rw[he] at e
   cases e
   exact new
  ·exact set_true_mono (D.done j g (by omega) e hpj hsj)
theorem Dfs.iff {k x u bs} (D:Dfs k x u bs []) (v:Nat):bs.getD v false=true ↔ Reach k x u v :=
 ⟨D.sound v,fun h=>reach_sub (S:=fun v=>bs.getD v false=true) (fun d p hs=>D.closed d p hs (by simp)) D.start h⟩
theorem hangs_all {k x u bs} (w:WfG k) (hu:u < k.nodes) (hl:x.length=k.edges.length) (D:Dfs k x u bs []):hangs k x u=((k.edges.zip x).filterMap fun z=>if decide ((0:Int) < (z.2:Int)) then some (bs.getD z.1.src false) else none).all id:=by
 rw[Bool.eq_iff_iff,hangs_iff w hu,List.all_eq_true]
 constructor
 ·intro h b hb
  obtain⟨z,hz,e⟩:=List.mem_filterMap.mp hb
  by_cases h0:0 < z.2
  ·rw[decide_eq_true (by omega)] at e
   simp at e
   have:=(D.iff z.1.src).mpr (h z.1 (pos_zip.mpr ⟨z.2,hz,h0⟩))
   rw[List.getD_eq_getElem?_getD] at this
   rw[← e]
   exact this
  ·rw[decide_eq_false (by omega)] at e
   simp at e
 ·intro h d p
  obtain⟨c,hz,hc⟩:=pos_zip.mp p
  have:=h (bs.getD d.src false) (List.mem_filterMap.mpr ⟨(d,c),hz,by
   show (if decide ((0:Int) < (c:Int))=true then _ else _)=_
   rw[decide_eq_true (by omega)];rfl⟩)
  exact (D.iff d.src).mp this
end Ww
end
section
namespace Ww
open Vawctd
structure BoxOk (n:Nat) (b:Box):Prop where
 len:b.length=n
 lo:∀ z∈b,0≤z.1
 hi:∀ z∈b,z.2≤9
theorem BoxOk.get {n:Nat} {b:Box} (h:BoxOk n b) {i:Nat} {z:Int × Int} (e:b[i]?=some z):0≤z.1∧z.2≤9:=⟨h.lo z (List.mem_of_getElem? e),h.hi z (List.mem_of_getElem? e)⟩
theorem BoxOk.of {n:Nat} {b:Box} (hl:b.length=n) (h:∀ (i:Nat) z,b[i]?=some z->0≤z.1∧z.2≤9):BoxOk n b :=
 ⟨hl,fun z hz=>by obtain⟨i,e⟩:=List.getElem?_of_mem hz;exact (h i z e).1,fun z hz=>by obtain⟨i,e⟩:=List.getElem?_of_mem hz;exact (h i z e).2⟩
theorem BoxOk.set {n:Nat} {b:Box} (h:BoxOk n b) (i:Nat) (z:Int × Int) (h0:0≤z.1) (h9:z.2≤9):BoxOk n (b.set i z):=by
 refine BoxOk.of (by rw[List.length_set];exact h.len) fun j y e=>?_
 rw[List.getElem?_set] at e
 split at e
 ·split at e
  ·cases e;exact⟨h0,h9⟩
  ·cases e
 ·exact h.get e
theorem whole_ok {k:Known} (h:∀ d∈k.edges,d.most≤9):BoxOk k.edges.length (wholeBox k):=by
 unfold wholeBox
 refine⟨by simp,fun z hz=>?_,fun z hz=>?_⟩
 ·obtain⟨d,hd,rfl⟩:=List.mem_map.mp hz
  exact Int.le_refl _
 ·obtain⟨d,hd,rfl⟩:=List.mem_map.mp hz
  have:=h d hd
  show ((d.most:Nat):Int)≤9
  omega
theorem zip_get {α β:Type} {l:List α} {m:List β} {i:Nat} {a:α} {b:β} (ha:l[i]?=some a) (hb:m[i]?=some b):(l.zip m)[i]?=some (a,b):=List.getElem?_zip_eq_some.mpr ⟨ha,hb⟩
theorem fm_congr {α β:Type} {f g:α->Option β}:∀ {l:List α},(∀ a∈l,f a=g a)->l.filterMap f=l.filterMap g
 | [],_=>rfl
 | a::l,h=>by
  rw[List.filterMap_cons,List.filterMap_cons,h a (by simp),fm_congr fun b hb=>h b (List.mem_cons_of_mem _ hb)]
def nar1 (a:Int) (z:Int × Int) (c:Int):Int × Int:=if 0 < a then (z.1,min z.2 (c / a)) else if a < 0 then (max z.1 (-(c / (-a))),z.2) else z
def allParts (f:Fact) (b:Box):Int:=sumInt ((f.mults.zip b).map fun z=>leastPart z.1 z.2)
theorem narrow_get {f:Fact} {b:Box} {i:Nat} {a:Int} {z:Int × Int} (ha:f.mults[i]?=some a) (hz:b[i]?=some z):(narrow f b)[i]?=some (nar1 a z (f.bound - (allParts f b - leastPart a z))):=by
 have hp:((f.mults.zip b).map fun z=>leastPart z.1 z.2)[i]?=some (leastPart a z):=by
  rw[List.getElem?_map,zip_get ha hz];rfl
 show ((f.mults.zip (b.zip ((f.mults.zip b).map fun z=>leastPart z.1 z.2))).map _)[i]?=_
 rw[List.getElem?_map,zip_get ha (zip_get hz hp)]
 rfl
theorem narrow_len {f:Fact} {b:Box} (h:f.mults.length=b.length):(narrow f b).length=b.length:=by
 show ((f.mults.zip (b.zip ((f.mults.zip b).map fun z=>leastPart z.1 z.2))).map _).length=_
 simp[h]
theorem nar1_ok {a:Int} {z:Int × Int} {c:Int} (h0:0≤z.1) (h9:z.2≤9):0≤(nar1 a z c).1∧(nar1 a z c).2≤9:=by
 unfold nar1
 split
 ·dsimp only;omega
 ·split
  ·dsimp only;omega
  ·exact⟨h0,h9⟩
theorem narrow_ok {n:Nat} {f:Fact} {b:Box} (h:BoxOk n b) (hf:f.mults.length=n):BoxOk n (narrow f b):=by
 have hl:(narrow f b).length=n:=by rw[narrow_len (by rw[hf,h.len]),h.len]
 refine BoxOk.of hl fun i z e=>?_
 have hi:i < n:=by rw[← hl];exact (List.getElem?_eq_some_iff.mp e).1
 have ha:=List.getElem?_eq_getElem (l:=f.mults) (i:=i) (by omega)
 have hz:=List.getElem?_eq_getElem (l:=b) (i:=i) (by rw[h.len];exact hi)
 rw[narrow_get ha hz] at e
 cases e
 have:=h.get hz
 exact nar1_ok this.1 this.2
theorem cutTo0_ok {n:Nat} {b:Box} (h:BoxOk n b) (e:Nat):BoxOk n (cutTo0 b e):=by
 unfold cutTo0
 cases q:b[e]? with
 | none=>exact h
 | some z =>
  have:=h.get q
  exact h.set e _ this.1 (by dsimp only;omega)
theorem narrowBan_ok {n:Nat} {b:Box} (h:BoxOk n b) (p:Nat × Nat):BoxOk n (narrowBan b p):=by
 unfold narrowBan
 dsimp only
 split
 ·split
  ·exact cutTo0_ok (cutTo0_ok h _) _
  ·exact cutTo0_ok h _
 ·split
  ·exact cutTo0_ok h _
  ·exact h
theorem foldl_ok {α β:Type} {P:β->Prop} {f:β->α->β}:∀ (l:List α) (b:β),P b->(∀ b a,a∈l->P b->P (f b a))->P (l.foldl f b)
 | [],b,h,_=>h
 | a::l,b,h,hf=>foldl_ok l (f b a) (hf b a (by simp) h) fun b c hc=>hf b c (List.mem_cons_of_mem _ hc)
theorem conditions_len {k:Known} (hf:∀ f∈k.facts,f.mults.length=k.edges.length):∀ f∈conditions k,f.mults.length=k.edges.length:=by
 intro f h
 unfold conditions at h
 rcases List.mem_append.mp h with h|h
 ·exact hf f h
 ·obtain⟨v,_,h⟩:=List.mem_flatMap.mp h
  have h:f=flowFact k v∨f=otherSign (flowFact k v):=by simpa using h
  rcases h with rfl|rfl
  ·simp[flowFact]
  ·simp[otherSign,flowFact]
theorem round_ok {k:Known} {b:Box} (hf:∀ f∈k.facts,f.mults.length=k.edges.length) (h:BoxOk k.edges.length b):BoxOk k.edges.length (round k b):=by
 unfold round
 refine foldl_ok (P:=BoxOk k.edges.length) _ _ (foldl_ok (P:=BoxOk k.edges.length) _ _ h fun b f hm hb=>narrow_ok hb (conditions_len hf f hm)) fun b p _ hb=>narrowBan_ok hb p
theorem tightenIn_ok {k:Known} (hf:∀ f∈k.facts,f.mults.length=k.edges.length):∀ (n:Nat) {b:Box},BoxOk k.edges.length b->BoxOk k.edges.length (tightenIn k n b)
 | 0,b,h=>h
 | n+1,b,h=>by
  have hr:=round_ok hf h
  unfold tightenIn
  dsimp only
  split
  ·exact hr
  ·exact tightenIn_ok hf n hr
theorem tighten_ok {k:Known} {b:Box} (hf:∀ f∈k.facts,f.mults.length=k.edges.length) (h:BoxOk k.edges.length b):BoxOk k.edges.length (tighten k b):=tightenIn_ok hf _ h
theorem greatest_mem:∀ {l:List Int},l≠[]->greatestOf l∈l∧∀ y∈l,y≤greatestOf l
 | [],h=>(h rfl).elim
 | a::r,_=>by
  have key:∀ (r:List Int) (a:Int),(r.foldl max a=a∨r.foldl max a∈r)∧a≤r.foldl max a∧∀ y∈r,y≤r.foldl max a:=by
   intro r
   induction r with
   | nil=>intro a;exact⟨.inl rfl,Int.le_refl _,fun y h=>by cases h⟩
   | cons b r ih =>
    intro a
    rw[List.foldl_cons]
    obtain⟨h1,h2,h3⟩:=ih (max a b)
    refine⟨?_,by omega,fun y hy=>?_⟩
    ·rcases h1 with h1|h1
     ·rw[h1]
      rcases Int.le_total a b with q|q
      ·right;rw[Int.max_eq_right q];simp
      ·left;rw[Int.max_eq_left q]
     ·right;exact List.mem_cons_of_mem _ h1
    ·rcases List.mem_cons.mp hy with e|hy
     ·rw[e];omega
     ·exact h3 y hy
  obtain⟨h1,h2,h3⟩:=key r a
  show r.foldl max a∈a::r∧∀ y∈a::r,y≤r.foldl max a
  refine⟨?_,fun y hy=>?_⟩
  ·rcases h1 with h1|h1
   ·rw[h1];simp
   ·exact List.mem_cons_of_mem _ h1
  ·rcases List.mem_cons.mp hy with e|hy
   ·rw[e];exact h2
   ·exact h3 y hy
theorem greatest_unique {l:List Int} {m:Int} (h:m∈l) (hm:∀ y∈l,y≤m):m=greatestOf l:=by
 have ne:l≠[]:=fun q=>by rw[q] at h;cases h
 obtain⟨h1,h2⟩:=greatest_mem ne
 have:=hm _ h1
 have:=h2 _ h
 omega
def onward (k:Known) (cs:List Int) (v:Nat) (p:Nat->Int):List Int:=(k.edges.zip cs).filterMap fun z=>if z.1.src=v∧v < z.1.dst∧0 < z.1.most then some (z.2+p z.1.dst) else none
def potFrom (k:Known) (cs:List Int) (v:Nat):List Int:=((List.range' v (k.nodes - v)).reverse).foldl (fun l v=>potentialOf k cs v l::l) []
theorem potFrom_step {k:Known} {cs:List Int} {v:Nat} (h:v < k.nodes):potFrom k cs v=potentialOf k cs v (potFrom k cs (v+1))::potFrom k cs (v+1):=by
 unfold potFrom
 have e:k.nodes - v=(k.nodes - (v+1))+1:=by omega
 rw[e,List.range'_succ,List.reverse_cons,List.foldl_append]
 rfl
theorem potFrom_end {k:Known} {cs:List Int}:potFrom k cs k.nodes=[]:=by
 unfold potFrom
 rw[Nat.sub_self]
 rfl
theorem potentials_from {k:Known} {cs:List Int}:potentials k cs=potFrom k cs 0:=by
 unfold potentials potFrom
 rw[Nat.sub_zero,List.range_eq_range']
theorem potFrom_len {k:Known} {cs:List Int}:∀ (m v:Nat),v+m=k.nodes->(potFrom k cs v).length=m
 | 0,v,h=>by
  have e:v=k.nodes:=by omega
  rw[e,potFrom_end];rfl
 | m+1,v,h=>by rw[potFrom_step (by omega),List.length_cons,potFrom_len m (v+1) (by omega)]
theorem potentials_len {k:Known} {cs:List Int}:(potentials k cs).length=k.nodes:=by rw[potentials_from];exact potFrom_len _ _ (by omega)
theorem potFrom_drop {k:Known} {cs:List Int}:∀ (v:Nat),v≤k.nodes->(potentials k cs).drop v=potFrom k cs v
 | 0,_=>by rw[List.drop_zero,potentials_from]
 | v+1,h=>by
  have ih:=potFrom_drop (k:=k) (cs:=cs) v (by omega)
  rw[potFrom_step (by omega)] at ih
  have:(potentials k cs).drop (v+1)=((potentials k cs).drop v).drop 1:=by rw[List.drop_drop]
  rw[this,ih]
  rfl
theorem potentials_get {k:Known} {cs:List Int} {v:Nat} (hv:v < k.nodes):(potentials k cs).getD v 0=greatestOf (onward k cs v fun d=>(potentials k cs).getD d 0):=by
 have hd:=potFrom_drop (k:=k) (cs:=cs) v (by omega)
 have h1:(potentials k cs).getD v 0=potentialOf k cs v (potFrom k cs (v+1)):=by
  have:(potentials k cs)[v]?=((potentials k cs).drop v)[0]?:=by rw[List.getElem?_drop];rfl
  rw[List.getD_eq_getElem?_getD,this,hd,potFrom_step hv]
  rfl
 rw[h1]
 unfold potentialOf onward
 congr 1
 refine fm_congr fun z hz=>?_
 by_cases c:z.1.src=v∧v < z.1.dst∧0 < z.1.most
 ·rw[if_pos c,if_pos c,← potFrom_drop (v+1) (by omega)]
  congr 2
  show _=(potentials k cs).getD z.1.dst 0
  rw[List.getD_eq_getElem?_getD,List.getD_eq_getElem?_getD,List.getElem?_drop]
  congr 2
  omega
 ·rw[if_neg c,if_neg c]
end Ww
end
section
namespace Ww
open Vawctd
theorem idxs_nil {α:Type} (p:α->Bool):∀ (xs:List α) (k:Nat),idxs p xs k=[] ↔ ∀ x∈xs,p x=false
 | [],k=>by simp[idxs]
 | a::xs,k=>by
  rw[idxs_cons]
  cases hp:p a with
  | true=>simp[hp]
  | false =>
   simp only[Bool.false_eq_true,if_false]
   rw[idxs_nil p xs (k+1)]
   simp[hp]
theorem isLet_iff (k:Known) (x:Counts):isLet k x=true ↔ idxs (fun z:Edge × Nat=>decide (z.1.most < z.2)) (k.edges.zip x)=[]∧idxs (fun f=>!keepsFact x f) k.facts=[]∧idxs (fun b=>!keepsBan x b) k.bans=[]:=by
 unfold isLet withinMosts
 rw[Bool.and_eq_true,Bool.and_eq_true,List.all_eq_true,List.all_eq_true,List.all_eq_true,idxs_nil,idxs_nil,idxs_nil,and_assoc]
 refine and_congr ⟨fun h z hz=>?_,fun h z hz=>?_⟩ (and_congr ⟨fun h f hf=>by rw[h f hf];rfl,fun h f hf=>by simpa using h f hf⟩ ⟨fun h b hb=>by rw[h b hb];rfl,fun h b hb=>by simpa using h b hb⟩)
 ·have:=h z hz
  simp only[decide_eq_true_eq] at this
  exact decide_eq_false (by omega)
 ·have:=h z hz
  simp only[decide_eq_false_iff_not] at this
  exact decide_eq_true (by omega)
theorem greatest_bound {l:List Int} {b:Int} (h0:0≤b) (h:∀ y∈l,-b≤y∧y≤b):-b≤greatestOf l∧greatestOf l≤b:=by
 cases l with
 | nil=>show -b≤0∧0≤b;omega
 | cons a r=>exact h _ (greatest_mem (by simp)).1
theorem pot_bound {k:Known} {cs:List Int} {B:Int} (hB:0≤B) (hc:∀ z∈cs,-B≤z∧z≤B):∀ (m v:Nat),v+m=k.nodes->-(B*m)≤(potentials k cs).getD v 0∧(potentials k cs).getD v 0≤B*m
 | 0,v,h=>by
  rw[List.getD_eq_getElem?_getD,List.getElem?_eq_none (by rw[potentials_len];omega)]
  simp
 | m+1,v,h=>by
  rw[potentials_get (by omega)]
  have step:∀ d:Nat,v < d->-(B*m)≤(potentials k cs).getD d 0∧(potentials k cs).getD d 0≤B*m:=fun d hd=>by
   by_cases hn:d≤k.nodes
   ·have ih:=pot_bound (k:=k) hB hc (k.nodes - d) d (by omega)
    have le:B*((k.nodes - d:Nat):Int)≤B*(m:Int):=Int.mul_le_mul_of_nonneg_left (by omega) hB
    omega
   ·rw[List.getD_eq_getElem?_getD,List.getElem?_eq_none (by rw[potentials_len];omega)]
    have:0≤B*(m:Int):=Int.mul_nonneg hB (by omega)
    simp
    omega
  have e:B*((m+1:Nat):Int)=B*(m:Int)+B:=by
   rw[show ((m+1:Nat):Int)=(m:Int)+1 by omega,Int.mul_add,Int.mul_one]
  rw[e]
  have nn:0≤B*(m:Int):=Int.mul_nonneg hB (by omega)
  refine greatest_bound (by omega) fun y hy=>?_
  unfold onward at hy
  obtain⟨z,hz,q⟩:=List.mem_filterMap.mp hy
  by_cases c:z.1.src=v∧v < z.1.dst∧0 < z.1.most
  ·rw[if_pos c] at q
   have q:z.2+(potentials k cs).getD z.1.dst 0=y:=Option.some.inj q
   have h1:=hc z.2 (List.of_mem_zip hz).2
   have h2:=step z.1.dst c.2.1
   omega
  ·rw[if_neg c] at q;cases q
theorem pot_small {k:Known} {cs:List Int} (h8:k.nodes≤8) (hc:∀ z∈cs,-1000≤z∧z≤1000) (v:Nat):-8000≤(potentials k cs).getD v 0∧(potentials k cs).getD v 0≤8000:=by
 by_cases hv:v≤k.nodes
 ·have:=pot_bound (k:=k) (B:=1000) (by omega) hc (k.nodes - v) v (by omega)
  omega
 ·rw[List.getD_eq_getElem?_getD,List.getElem?_eq_none (by rw[potentials_len];omega)]
  simp
theorem surpluses_len {k:Known} {cs:List Int} (h:cs.length=k.edges.length):(surpluses k cs).length=k.edges.length:=by
 unfold surpluses
 simp[h]
theorem surpluses_get {k:Known} {cs:List Int} {e:Nat} {d:Edge} {c:Int} (hd:k.edges[e]?=some d) (hc:cs[e]?=some c):(surpluses k cs)[e]?=some (c - (potentials k cs).getD d.src 0+(potentials k cs).getD d.dst 0):=by
 show ((k.edges.zip cs).map _)[e]?=_
 rw[List.getElem?_map,zip_get hd hc]
 rfl
theorem costs_small {k:Known} (h:∀ d∈k.edges,d.cost≤1000):∀ z∈costsOf k,-1000≤z∧z≤1000:=by
 intro z hz
 obtain⟨d,hd,rfl⟩:=List.mem_map.mp hz
 have:=h d hd
 show -1000≤((d.cost:Nat):Int)∧((d.cost:Nat):Int)≤1000
 omega
end Ww
end
section
namespace Ww
open Vawctd
def termsFrom:Nat->List Int->List (Nat × Int)
 | _,[]=>[]
 | k,a::r=>if a=0 then termsFrom (k+1) r else (k,a)::termsFrom (k+1) r
def terms (ms:List Int):List (Nat × Int):=termsFrom 0 ms
theorem termsFrom_snoc:∀ (ms:List Int) (k:Nat) (a:Int),termsFrom k (ms++[a])=termsFrom k ms++(if a=0 then [] else [(k+ms.length,a)])
 | [],k,a=>by
  show termsFrom k [a]=_
  unfold termsFrom
  by_cases h:a=0<;>simp[h,termsFrom]
 | b::ms,k,a=>by
  show termsFrom k (b::(ms++[a]))=_
  rw[termsFrom,termsFrom,termsFrom_snoc ms (k+1) a,List.length_cons,show k+1+ms.length=k+(ms.length+1) by omega]
  by_cases h:b=0
  ·rw[if_pos h,if_pos h]
  ·rw[if_neg h,if_neg h];rfl
theorem terms_take {ms:List Int} {i:Nat} {a:Int} (h:ms[i]?=some a):terms (ms.take (i+1))=terms (ms.take i)++(if a=0 then [] else [(i,a)]):=by
 obtain⟨hi,_⟩:=List.getElem?_eq_some_iff.mp h
 unfold terms
 rw[List.take_add_one,h,Option.toList_some,termsFrom_snoc,List.length_take,Nat.min_eq_left (by omega),Nat.zero_add]
theorem termsFrom_mem:∀ (ms:List Int) (k:Nat) (t:Nat × Int),t∈termsFrom k ms->k≤t.1∧ms[t.1 - k]?=some t.2∧t.2≠0
 | [],k,t,h=>by cases h
 | a::r,k,t,h=>by
  have up:t∈termsFrom (k+1) r->k≤t.1∧(a::r)[t.1 - k]?=some t.2∧t.2≠0:=fun h=>by
   obtain⟨h1,h2,h3⟩:=termsFrom_mem r (k+1) t h
   refine⟨by omega,?_,h3⟩
   rw[show t.1 - k=(t.1 - (k+1))+1 by omega,List.getElem?_cons_succ]
   exact h2
  rw[termsFrom] at h
  by_cases h0:a=0
  ·rw[if_pos h0] at h;exact up h
  ·rw[if_neg h0] at h
   rcases List.mem_cons.mp h with e|h
   ·subst e
    exact⟨Nat.le_refl _,by simp,h0⟩
   ·exact up h
theorem terms_mem {ms:List Int} {t:Nat × Int} (h:t∈terms ms):t.1 < ms.length∧ms[t.1]?=some t.2∧t.2≠0:=by
 obtain⟨_,h2,h3⟩:=termsFrom_mem ms 0 t h
 rw[Nat.sub_zero] at h2
 exact⟨(List.getElem?_eq_some_iff.mp h2).1,h2,h3⟩
def partSum (b:Box):List (Nat × Int)->Int
 | []=>0
 | t::r=>leastPart t.2 (b.getD t.1 (0,0))+partSum b r
theorem partSum_snoc (b:Box):∀ (l:List (Nat × Int)) (t:Nat × Int),partSum b (l++[t])=partSum b l+leastPart t.2 (b.getD t.1 (0,0))
 | [],t=>by simp[partSum]
 | a::l,t=>by
  show _+partSum b (l++[t])=_+partSum b l+_
  rw[partSum_snoc b l t]
  omega
theorem leastPart_zero (z:Int × Int):leastPart 0 z=0:=by unfold leastPart;simp
theorem partSum_from:∀ (ms:List Int) (pre b:Box),ms.length=b.length->partSum (pre++b) (termsFrom pre.length ms)=((ms.zip b).map fun z=>leastPart z.1 z.2).sum
 | [],pre,b,h=>by simp[termsFrom,partSum]
 | a::r,pre,[],h=>by simp at h
 | a::r,pre,z::b,h=>by
  have ih:=partSum_from r (pre++[z]) b (by simpa using h)
  rw[List.append_assoc,List.length_append] at ih
  have ih:partSum (pre++z::b) (termsFrom (pre.length+1) r)=((r.zip b).map fun z=>leastPart z.1 z.2).sum:=ih
  rw[termsFrom,List.zip_cons_cons,List.map_cons,List.sum_cons]
  by_cases h0:a=0
  ·subst h0
   rw[if_pos rfl,ih,leastPart_zero]
   omega
  ·rw[if_neg h0,partSum,ih]
   have:(pre++z::b).getD pre.length (0,0)=z:=by rw[List.getD_eq_getElem?_getD];simp
   rw[this]
theorem partSum_all {f:Fact} {b:Box} (h:f.mults.length=b.length):partSum b (terms f.mults)=allParts f b:=by
 have:=partSum_from f.mults [] b h
 unfold allParts
 rw[sumInt_eq]
 exact this
def narP (room a:Int) (z:Int × Int):Int × Int:=if 0 < a then (z.1,min z.2 (z.1+room / a)) else (max z.1 (z.2 - room / (-a)),z.2)
def narStep (room:Int) (B:Box) (t:Nat × Int):Box:=B.set t.1 (narP room t.2 (B.getD t.1 (0,0)))
theorem narStep_len {room:Int} {B:Box} {t:Nat × Int}:(narStep room B t).length=B.length:=by unfold narStep;rw[List.length_set]
theorem narFold_len {room:Int}:∀ (l:List (Nat × Int)) (B:Box),(l.foldl (narStep room) B).length=B.length
 | [],B=>rfl
 | t::l,B=>by rw[List.foldl_cons,narFold_len l,narStep_len]
theorem nar_fold (room:Int):∀ (ms:List Int) (pre b:Box),ms.length=b.length->(termsFrom pre.length ms).foldl (narStep room) (pre++b)=pre++List.zipWith (fun a z=>if a=0 then z else narP room a z) ms b
 | [],pre,b,h=>by
  have:b=[]:=List.eq_nil_of_length_eq_zero h.symm
  subst this
  simp[termsFrom]
 | a::r,pre,[],h=>by simp at h
 | a::r,pre,z::b,h=>by
  have ih:=fun z'=>nar_fold room r (pre++[z']) b (by simpa using h)
  have ih:∀ z',(termsFrom (pre.length+1) r).foldl (narStep room) (pre++z'::b)=pre++z'::List.zipWith (fun a z=>if a=0 then z else narP room a z) r b:=fun z'=>by
   have:=ih z'
   rw[List.append_assoc,List.length_append,List.append_assoc] at this
   exact this
  rw[termsFrom,List.zipWith_cons_cons]
  by_cases h0:a=0
  ·rw[if_pos h0,if_pos h0];exact ih z
  ·rw[if_neg h0,if_neg h0,List.foldl_cons]
   have e:narStep room (pre++z::b) (pre.length,a)=pre++narP room a z::b:=by
    unfold narStep
    have:(pre++z::b).getD pre.length (0,0)=z:=by rw[List.getD_eq_getElem?_getD];simp
    dsimp only
    rw[this,List.set_append_right _ _ (Nat.le_refl _),Nat.sub_self]
    rfl
   rw[e]
   exact ih _
theorem nar_same (bound all a:Int) (z:Int × Int):nar1 a z (bound - (all - leastPart a z))=if a=0 then z else narP (bound - all) a z:=by
 unfold nar1 narP leastPart
 by_cases h1:0 < a
 ·have h0:a≠0:=by omega
  simp only[h1,h0,if_true,if_false]
  have e:bound - (all - a*z.1)=(bound - all)+a*z.1:=by omega
  rw[e,Int.add_mul_ediv_left _ _ h0,Int.add_comm]
 ·by_cases h2:a < 0
  ·have h0:a≠0:=by omega
   simp only[h1,h2,h0,if_true,if_false]
   have e:bound - (all - a*z.2)=(bound - all)+(-a)*(-z.2):=by rw[Int.neg_mul_neg];omega
   rw[e,Int.add_mul_ediv_left _ _ (by omega)]
   have:-((bound - all) / -a+-z.2)=z.2 - (bound - all) / -a:=by omega
   rw[this]
  ·have h0:a=0:=by omega
   subst h0
   simp
theorem narrow_eq {f:Fact} {b:Box} (h:f.mults.length=b.length):(terms f.mults).foldl (narStep (f.bound - partSum b (terms f.mults))) b=narrow f b:=by
 have:=nar_fold (f.bound - partSum b (terms f.mults)) f.mults [] b h
 rw[List.nil_append,List.nil_append] at this
 show (termsFrom 0 f.mults).foldl _ b=_
 have this:(termsFrom 0 f.mults).foldl (narStep (f.bound - partSum b (terms f.mults))) b=_:=this
 rw[this,partSum_all h]
 apply List.ext_getElem?
 intro i
 by_cases hi:i < b.length
 ·have ha:=List.getElem?_eq_getElem (l:=f.mults) (i:=i) (by omega)
  have hz:=List.getElem?_eq_getElem (l:=b) (i:=i) hi
  rw[narrow_get ha hz,List.getElem?_zipWith,ha,hz,nar_same]
 ·rw[List.getElem?_eq_none (by rw[List.length_zipWith];omega),List.getElem?_eq_none (by rw[narrow_len h];omega)]
theorem foldl_take {α β:Type} (f:β->α->β) (b:β) {l:List α} {i:Nat} {a:α} (h:l[i]?=some a):(l.take (i+1)).foldl f b=f ((l.take i).foldl f b) a:=by
 rw[List.take_add_one,h,Option.toList_some,List.foldl_append]
 rfl
def lows (b:Box):List Int:=b.map (·.1)
def highs (b:Box):List Int:=b.map (·.2)
theorem lows_len (b:Box):(lows b).length=b.length:=by unfold lows;simp
theorem highs_len (b:Box):(highs b).length=b.length:=by unfold highs;simp
theorem lows_get {b:Box} {i:Nat} {z:Int × Int} (h:b[i]?=some z):(lows b)[i]?=some z.1:=by unfold lows;rw[List.getElem?_map,h];rfl
theorem highs_get {b:Box} {i:Nat} {z:Int × Int} (h:b[i]?=some z):(highs b)[i]?=some z.2:=by unfold highs;rw[List.getElem?_map,h];rfl
theorem lows_set (b:Box) (i:Nat) (z:Int × Int):lows (b.set i z)=(lows b).set i z.1:=by unfold lows;rw[List.map_set]
theorem highs_set (b:Box) (i:Nat) (z:Int × Int):highs (b.set i z)=(highs b).set i z.2:=by unfold highs;rw[List.map_set]
theorem set_self {α:Type} {l:List α} {i:Nat} {a:α} (h:l[i]?=some a):l.set i a=l:=by
 apply List.ext_getElem?
 intro j
 rw[List.getElem?_set]
 by_cases e:i=j
 ·subst e
  rw[if_pos rfl,if_pos (List.getElem?_eq_some_iff.mp h).1,h]
 ·rw[if_neg e]
theorem box_ext {b c:Box} (h1:lows b=lows c) (h2:highs b=highs c):b=c:=by
 have hl:b.length=c.length:=by rw[← lows_len b,h1,lows_len]
 apply List.ext_getElem?
 intro i
 by_cases hi:i < b.length
 ·have hb:=List.getElem?_eq_getElem hi
  have hc:=List.getElem?_eq_getElem (l:=c) (i:=i) (by omega)
  have e1:=lows_get hb
  have e2:=highs_get hb
  rw[h1,lows_get hc] at e1
  rw[h2,highs_get hc] at e2
  rw[hb,hc]
  congr 1
  exact Prod.ext (Option.some.inj e1).symm (Option.some.inj e2).symm
 ·rw[List.getElem?_eq_none (by omega),List.getElem?_eq_none (by omega)]
theorem box_beq (c b:Box):(c==b)=(decide (lows c=lows b)&&decide (highs c=highs b)):=by
 by_cases h:c=b
 ·subst h;simp
 ·have e:(c==b)=false:=by rw[beq_eq_false_iff_ne];exact h
  rw[e]
  symm
  rw[Bool.and_eq_false_iff]
  by_cases h1:lows c=lows b
  ·right;exact decide_eq_false fun h2=>h (box_ext h1 h2)
  ·left;exact decide_eq_false h1
theorem empty_zip (b:Box):isEmptyBox b=((lows b).zip (highs b)).any fun z=>decide (z.2 < z.1):=by
 unfold isEmptyBox lows highs
 induction b with
 | nil=>rfl
 | cons z b ih=>rw[List.any_cons,ih];rfl
theorem fixed_eq (b:Box):isFixed b=decide (lows b=highs b):=by
 unfold isFixed lows highs
 induction b with
 | nil=>rfl
 | cons z b ih =>
  rw[List.all_cons,ih,List.map_cons,List.map_cons]
  by_cases h:z.1=z.2
  ·rw[beq_iff_eq.mpr h,Bool.true_and]
   congr 1
   simp[h]
  ·have:(z.1==z.2)=false:=by rw[beq_eq_false_iff_ne];exact h
   rw[this,Bool.false_and]
   symm
   exact decide_eq_false fun q=>h (List.cons.inj q).1
theorem fixed_counts {n:Nat} {b:Box} (h:BoxOk n b):toInts (fixedCounts b)=lows b:=by
 unfold toInts fixedCounts lows
 rw[List.map_map]
 refine List.map_congr_left fun z hz=>?_
 have:=h.lo z hz
 show ((z.1.toNat:Nat):Int)=z.1
 omega
theorem fixed_len {n:Nat} {b:Box} (h:BoxOk n b):(fixedCounts b).length=n:=by unfold fixedCounts;rw[List.length_map];exact h.len
theorem fixed_nine {n:Nat} {b:Box} (h:BoxOk n b) (hf:isFixed b=true):∀ c∈fixedCounts b,c≤9:=by
 intro c hc
 unfold fixedCounts at hc
 obtain⟨z,hz,rfl⟩:=List.mem_map.mp hc
 have h1:=h.hi z hz
 have h2:=List.all_eq_true.mp hf z hz
 have h2:z.1=z.2:=by simpa using h2
 omega
end Ww
end
section
namespace Ww
open Vawctd
def comeRow (k:Known) (v:Nat):List Int:=k.edges.map fun d=>if (d.dst:Int)=(v:Int) then 1 else 0
def leaveRow (k:Known) (v:Nat):List Int:=k.edges.map fun d=>if (d.src:Int)=(v:Int) then 1 else 0
theorem flow_mults (k:Known) (v:Nat):(((comeRow k v).zip (leaveRow k v)).map fun z=>z.1 - z.2)=(flowFact k v).mults:=by
 unfold comeRow leaveRow flowFact
 dsimp only
 induction k.edges with
 | nil=>rfl
 | cons d es ih =>
  rw[List.map_cons,List.map_cons,List.zip_cons_cons,List.map_cons,ih,List.map_cons]
  congr 1
  dsimp only
  by_cases h1:d.dst=v<;>by_cases h2:d.src=v
  ·have:d.src=d.dst:=by omega
   simp[h1,h2]
  ·have:¬ (d.src=d.dst):=by omega
   rw[if_pos (by omega),if_neg (by omega),if_neg this,if_pos h1];rfl
  ·have:¬ (d.src=d.dst):=by omega
   rw[if_neg (by omega),if_pos (by omega),if_neg this,if_neg h1,if_pos h2];rfl
  ·rw[if_neg (by omega),if_neg (by omega)]
   simp[h1,h2]
theorem flow_bound {k:Known} (h2:2≤k.nodes) (v:Nat):(flowFact k v).bound=if v=0 then -1 else if v=k.nodes - 1 then 1 else 0:=by
 unfold flowFact exitOf
 dsimp only
 by_cases h0:v=0
 ·rw[if_neg (by omega),if_pos h0,if_pos h0];rfl
 ·rw[if_neg h0,if_neg h0];simp
def condRows (k:Known) (i:Nat):List Fact:=k.facts++(List.range i).flatMap fun v=>[flowFact k v,otherSign (flowFact k v)]
theorem condRows_zero (k:Known):condRows k 0=k.facts:=by unfold condRows;simp
theorem condRows_succ (k:Known) (i:Nat):condRows k (i+1)=condRows k i++[flowFact k i]++[otherSign (flowFact k i)]:=by
 unfold condRows
 rw[List.range_succ,List.flatMap_append]
 simp
theorem condRows_len (k:Known) (i:Nat):(condRows k i).length=k.facts.length+2*i:=by
 induction i with
 | zero=>rw[condRows_zero];omega
 | succ i ih=>rw[condRows_succ,List.length_append,List.length_append,ih];simp;omega
theorem conditions_small {k:Known} (hf:∀ f∈k.facts,∀ a∈f.mults,-20≤a∧a≤20):∀ f∈conditions k,∀ a∈f.mults,-20≤a∧a≤20:=by
 intro f h a ha
 have flow:∀ v,∀ a∈(flowFact k v).mults,-1≤a∧a≤1:=fun v a ha=>by
  unfold flowFact at ha
  obtain⟨d,_,rfl⟩:=List.mem_map.mp ha
  repeat' split
  all_goals omega
 unfold conditions at h
 rcases List.mem_append.mp h with h|h
 ·exact hf f h a ha
 ·obtain⟨v,_,h⟩:=List.mem_flatMap.mp h
  have h:f=flowFact k v∨f=otherSign (flowFact k v):=by simpa using h
  rcases h with rfl|rfl
  ·have:=flow v a ha
   omega
  ·unfold otherSign at ha
   obtain⟨c,hc,rfl⟩:=List.mem_map.mp ha
   have:=flow v c hc
   omega
def upEdges (k:Known) (v:Nat):List Nat:=idxs (fun d:Edge=>decide (d.src=v)&&(decide (v < d.dst)&&decide (0 < d.most))) k.edges
theorem idxs_mem {α:Type} (p:α->Bool):∀ (xs:List α) (k i:Nat),i∈idxs p xs k->k≤i∧∃ a,xs[i - k]?=some a∧p a=true
 | [],k,i,h=>by cases h
 | a::xs,k,i,h=>by
  have up:i∈idxs p xs (k+1)->k≤i∧∃ b,(a::xs)[i - k]?=some b∧p b=true:=fun h=>by
   obtain⟨h1,b,h2,h3⟩:=idxs_mem p xs (k+1) i h
   refine⟨by omega,b,?_,h3⟩
   rw[show i - k=(i - (k+1))+1 by omega,List.getElem?_cons_succ]
   exact h2
  rw[idxs_cons] at h
  cases hp:p a with
  | true =>
   rw[hp] at h
   rcases List.mem_cons.mp h with e|h
   ·subst e
    exact⟨Nat.le_refl _,a,by simp,hp⟩
   ·exact up h
  | false =>
   rw[hp] at h
   exact up h
theorem idxs_filter {α:Type} (p q:α->Bool) (d:α):∀ (xs:List α) (k:Nat) (g:Nat->Bool),(∀ (i:Nat) a,xs[i]?=some a->g (k+i)=q a)->(idxs p xs k).filter g=idxs (fun a=>p a&&q a) xs k
 | [],k,g,_=>rfl
 | a::xs,k,g,h=>by
  have ih:=idxs_filter p q d xs (k+1) g fun i b hb=>by rw[show k+1+i=k+(i+1) by omega];exact h (i+1) b (by simpa using hb)
  have h0:g k=q a:=h 0 a rfl
  rw[idxs_cons,idxs_cons]
  cases hp:p a with
  | true =>
   simp only[if_true,Bool.true_and]
   rw[List.filter_cons,h0,ih]
  | false =>
   simp only[Bool.false_eq_true,if_false,Bool.false_and]
   exact ih
theorem idxs_len {α:Type} (p:α->Bool) (xs:List α) (k:Nat):(idxs p xs k).length≤xs.length:=by
 unfold idxs
 refine Nat.le_trans (List.length_filterMap_le _ _) ?_
 rw[List.length_zipIdx]
 exact Nat.le_refl _
theorem onward_map {k:Known} {cs:List Int} {v:Nat} {p:Nat->Int} (hc:cs.length=k.edges.length) :
  (upEdges k v).map (fun e=>cs.getD e 0+p (k.edges.getD e ⟨0,0,0,0⟩).dst)=onward k cs v p:=by
 unfold upEdges onward
 have key:∀ (es:List Edge) (c pre:List Int) (pe:List Edge),c.length=es.length->pre.length=pe.length ->
   (idxs (fun d:Edge=>decide (d.src=v)&&(decide (v < d.dst)&&decide (0 < d.most))) es pre.length).map (fun e=>(pre++c).getD e 0+p ((pe++es).getD e ⟨0,0,0,0⟩).dst) =
   (es.zip c).filterMap fun z=>if z.1.src=v∧v < z.1.dst∧0 < z.1.most then some (z.2+p z.1.dst) else none:=by
  intro es
  induction es with
  | nil=>intro c pre pe _ _;simp[idxs]
  | cons d es ih =>
   intro c pre pe hl hp
   match c,hl with
   | x::c,hl =>
    have ih:=ih c (pre++[x]) (pe++[d]) (by simpa using hl) (by simp[hp])
    rw[List.append_assoc,List.append_assoc,List.length_append] at ih
    have ih:(idxs (fun d:Edge=>decide (d.src=v)&&(decide (v < d.dst)&&decide (0 < d.most))) es (pre.length+1)).map (fun e=>(pre++x::c).getD e 0+p ((pe++d::es).getD e ⟨0,0,0,0⟩).dst)=_:=ih
    rw[idxs_cons,List.zip_cons_cons,List.filterMap_cons,← ih]
    by_cases hd:d.src=v∧v < d.dst∧0 < d.most
    ·rw[if_pos hd,if_pos (by simp[hd.1,hd.2.1,hd.2.2]),List.map_cons]
     congr 1
     have e1:(pre++x::c).getD pre.length 0=x:=by rw[List.getD_eq_getElem?_getD];simp
     have e2:(pe++d::es).getD pre.length ⟨0,0,0,0⟩=d:=by rw[List.getD_eq_getElem?_getD,hp];simp
     rw[e1,e2]
    ·rw[if_neg hd,if_neg (by simpa using hd)]
 exact key k.edges cs [] [] hc rfl
def hRow (k:Known) (cs:List Int) (i:Nat):List Int:=(List.range k.nodes).map fun v=>if k.nodes - i≤v then (potentials k cs).getD v 0 else 0
theorem hRow_len {k:Known} {cs:List Int} {i:Nat}:(hRow k cs i).length=k.nodes:=by unfold hRow;simp
theorem hRow_get {k:Known} {cs:List Int} {i v:Nat} (h:v < k.nodes):(hRow k cs i)[v]?=some (if k.nodes - i≤v then (potentials k cs).getD v 0 else 0):=by
 unfold hRow
 rw[List.getElem?_map,List.getElem?_range h]
 rfl
theorem hRow_zero {k:Known} {cs:List Int}:hRow k cs 0=List.replicate k.nodes 0:=by
 apply List.ext_getElem?
 intro v
 by_cases h:v < k.nodes
 ·rw[hRow_get h,if_neg (by omega),List.getElem?_replicate,if_pos h]
 ·rw[List.getElem?_eq_none (by rw[hRow_len];omega),List.getElem?_eq_none (by simp;omega)]
theorem hRow_all {k:Known} {cs:List Int}:hRow k cs k.nodes=potentials k cs:=by
 apply List.ext_getElem?
 intro v
 by_cases h:v < k.nodes
 ·rw[hRow_get h,if_pos (by omega),List.getD_eq_getElem?_getD,List.getElem?_eq_getElem (by rw[potentials_len];exact h)]
  rfl
 ·rw[List.getElem?_eq_none (by rw[hRow_len];omega),List.getElem?_eq_none (by rw[potentials_len];omega)]
theorem hRow_succ {k:Known} {cs:List Int} {i:Nat} (h:i < k.nodes):(hRow k cs i).set (k.nodes - 1 - i) ((potentials k cs).getD (k.nodes - 1 - i) 0)=hRow k cs (i+1):=by
 apply List.ext_getElem?
 intro v
 rw[List.getElem?_set,hRow_len]
 by_cases hv:v < k.nodes
 ·rw[hRow_get hv,hRow_get hv]
  by_cases e:k.nodes - 1 - i=v
  ·rw[if_pos e,if_pos (by omega),if_pos (by omega),e]
  ·rw[if_neg e]
   by_cases q:k.nodes - i≤v
   ·rw[if_pos q,if_pos (by omega)]
   ·rw[if_neg q,if_neg (by omega)]
 ·rw[if_neg (by omega),List.getElem?_eq_none (by rw[hRow_len];omega),List.getElem?_eq_none (by rw[hRow_len];omega)]
theorem pot_row {k:Known} {cs:List Int} {v:Nat} (hv:v < k.nodes) (hd:∀ d∈k.edges,d.dst < k.nodes) (hc:cs.length=k.edges.length) :
  (potentials k cs).getD v 0=greatestOf ((upEdges k v).map fun e=>cs.getD e 0+(hRow k cs (k.nodes - 1 - v)).getD (k.edges.getD e ⟨0,0,0,0⟩).dst 0):=by
 rw[potentials_get hv,← onward_map hc]
 congr 1
 refine List.map_congr_left fun e he=>?_
 obtain⟨_,d,h1,h2⟩:=idxs_mem _ _ _ _ he
 rw[Nat.sub_zero] at h1
 rw[getD_of h1]
 simp only[Bool.and_eq_true,decide_eq_true_eq] at h2
 have hn:=hd d (List.mem_of_getElem? h1)
 rw[List.getD_eq_getElem?_getD (l:=hRow _ _ _),hRow_get hn,if_pos (by omega)]
 rfl
def bpart (z:Int × Int × Int):Int:=if 0 < z.1 then z.1*z.2.2 else z.1*z.2.1
def boundTo (k:Known) (cs:List Int) (b:Box) (i:Nat):Int:=(potentials k cs).getD 0 0+((((surpluses k cs).zip b).take i).map bpart).sum
theorem boundTo_zero {k:Known} {cs:List Int} {b:Box}:boundTo k cs b 0=(potentials k cs).getD 0 0:=by unfold boundTo;simp
theorem boundTo_succ {k:Known} {cs:List Int} {b:Box} {i:Nat} {s:Int} {z:Int × Int} (hs:(surpluses k cs)[i]?=some s) (hz:b[i]?=some z):boundTo k cs b (i+1)=boundTo k cs b i+bpart (s,z):=by
 unfold boundTo
 rw[List.take_add_one,zip_get hs hz]
 simp
 omega
theorem boundTo_all {k:Known} {cs:List Int} {b:Box} (hc:cs.length=k.edges.length) (hb:b.length=k.edges.length):boundTo k cs b k.edges.length=boundOf k cs b:=by
 unfold boundTo boundOf
 rw[sumInt_eq,List.take_of_length_le (by rw[List.length_zip,surpluses_len hc];omega)]
 rfl
theorem widest_spec {b:Box} {m:Int} (h1:m∈b.map fun z=>z.2 - z.1) (h2:∀ y∈b.map (fun z=>z.2 - z.1),y≤m) :
  (b.map fun z=>z.2 - z.1)[widest b]?=some m∧(∀ (i:Nat) y,i < widest b->(b.map fun z=>z.2 - z.1)[i]?=some y->y≠m)∧widest b < b.length:=by
 have e:m=greatestOf (b.map fun z=>z.2 - z.1):=greatest_unique h1 h2
 have ew:widest b=(b.map fun z=>z.2 - z.1).findIdx fun a=>a==m:=by unfold widest;rw[e]
 have hlt:(b.map fun z=>z.2 - z.1).findIdx (fun a=>a==m) < (b.map fun z=>z.2 - z.1).length:=List.findIdx_lt_length_of_exists ⟨m,h1,by simp⟩
 rw[ew]
 refine⟨?_,fun i y hi hy=>?_,by simpa using hlt⟩
 ·have:=List.findIdx_getElem (w:=hlt)
  rw[List.getElem?_eq_getElem hlt]
  congr 1
  simpa using this
 ·have hi':i < (b.map fun z=>z.2 - z.1).length:=by omega
  have:=List.not_of_lt_findIdx hi
  rw[List.getElem?_eq_getElem hi'] at hy
  cases hy
  simpa using this
theorem withLow_lows {b:Box} {e:Nat} {n:Int}:lows (withLow b e n)=(lows b).set e n:=by unfold withLow;rw[lows_set]
theorem withLow_highs {b:Box} {e:Nat} {n:Int} (h:e < b.length):highs (withLow b e n)=highs b:=by
 unfold withLow
 rw[highs_set]
 refine set_self ?_
 rw[List.getD_eq_getElem?_getD,List.getElem?_eq_getElem h]
 exact highs_get (z:=b[e]) (List.getElem?_eq_getElem h)
theorem withHigh_highs {b:Box} {e:Nat} {n:Int}:highs (withHigh b e n)=(highs b).set e n:=by unfold withHigh;rw[highs_set]
theorem withHigh_lows {b:Box} {e:Nat} {n:Int} (h:e < b.length):lows (withHigh b e n)=lows b:=by
 unfold withHigh
 rw[lows_set]
 refine set_self ?_
 rw[List.getD_eq_getElem?_getD,List.getElem?_eq_getElem h]
 exact lows_get (z:=b[e]) (List.getElem?_eq_getElem h)
theorem parts_ok {k:Known} {cs:List Int} {b:Box} {n e:Nat} {m:Int} (h:BoxOk n b) (he:e < n) (h0:(b.getD e (0,0)).1≤m) (h9:m < (b.getD e (0,0)).2):∀ c∈parts k cs b e m,BoxOk n c:=by
 have hz:b[e]?=some (b.getD e (0,0)):=by rw[List.getD_eq_getElem?_getD,List.getElem?_eq_getElem (by rw[h.len];exact he)];rfl
 have hb:=h.get hz
 have l:BoxOk n (withLow b e (m+1)):=h.set _ _ (by dsimp only;omega) (by dsimp only;omega)
 have r:BoxOk n (withHigh b e m):=h.set _ _ (by dsimp only;omega) (by dsimp only;omega)
 intro c hc
 unfold parts at hc
 split at hc
 ·rcases List.mem_cons.mp hc with e|hc
  ·rw[e];exact r
  ·rw[List.mem_singleton.mp hc];exact l
 ·rcases List.mem_cons.mp hc with e|hc
  ·rw[e];exact l
  ·rw[List.mem_singleton.mp hc];exact r
end Ww
end
section
namespace Ww
open Vawctd
def bounded (k:Known) (cs:List Int) (best:Option Found) (b:Box):Bool:=best.any fun x=>decide (boundOf k cs b≤x.cost)
def isParted (k:Known) (cs:List Int) (best:Option Found) (b:Box):Bool:=!isEmptyBox b&&(!bounded k cs best b&&!isFixed b)
def mid (b:Box):Int:=middle (b.getD (widest b) (0,0))
def stepRow (k:Known) (cs:List Int) (best:Option Found) (b:Box):List Int :=
 if isEmptyBox b then [0] else if bounded k cs best b then [1] else if isFixed b then (if isGood k (fixedCounts b) then [1] else [2]) else [3,(widest b:Int),mid b]
def settles (k:Known) (cs:List Int) (best:Option Found) (b:Box):Bool:=!isEmptyBox b&&(!bounded k cs best b&&(isFixed b&&isGood k (fixedCounts b)))
def bestAfter (k:Known) (cs:List Int) (best:Option Found) (b:Box):Option Found:=if settles k cs best b then some { cost:=costBy cs (fixedCounts b),counts:=fixedCounts b } else best
def newBoxes (k:Known) (cs:List Int) (best:Option Found) (b:Box):List Box:=if isParted k cs best b then parts k cs b (widest b) (mid b) else []
theorem search_step (k:Known) (cs:List Int) (f:Nat) (a:Box) (r:List Box) (best:Option Found) (pf:List Int) (n:Nat) :
  searchFrom k cs (f+1) (a::r) best pf n=searchFrom k cs f (newBoxes k cs best (tighten k a)++r) (bestAfter k cs best (tighten k a)) ((stepRow k cs best (tighten k a)).reverse++pf) (n+1):=by
 rw[searchFrom]
 generalize tighten k a=b
 dsimp only
 unfold newBoxes bestAfter stepRow isParted settles
 by_cases h1:isEmptyBox b=true
 ·simp[h1]
 ·by_cases h2:bounded k cs best b=true
  ·have h2':(best.any fun x=>decide (boundOf k cs b≤x.cost))=true:=h2
   simp[h1,h2,h2']
  ·have h2':(best.any fun x=>decide (boundOf k cs b≤x.cost))=false:=eq_false_of_ne_true h2
   by_cases h3:isFixed b=true
   ·by_cases h4:isGood k (fixedCounts b)=true
    ·simp[h1,h2,h2',h3,h4]
    ·simp[h1,h2,h2',h3,h4]
   ·simp[h1,h2,h2',h3,mid]
theorem search_stop (k:Known) (cs:List Int) (f:Nat) (best:Option Found) (pf:List Int) (n:Nat):searchFrom k cs f [] best pf n={ best:=best,proof:=pf.reverse,taken:=n,broken:=false }:=by
 cases f<;>rfl
theorem search_end (k:Known) (cs:List Int) (f:Nat) (bs:List Box) (best:Option Found) (pf:List Int) (n:Nat) (h:bs=[]∨f=0) :
  searchFrom k cs f bs best pf n={ best:=best,proof:=pf.reverse,taken:=n,broken:=decide (0 < bs.length) }:=by
 cases bs with
 | nil=>rw[search_stop];rfl
 | cons a r =>
  rcases h with h|h
  ·cases h
  ·subst h;rfl
theorem step_parted {k:Known} {cs:List Int} {best:Option Found} {b:Box} (h:isParted k cs best b=true):stepRow k cs best b=[3,(widest b:Int),mid b]:=by
 unfold isParted at h
 simp only[Bool.and_eq_true,Bool.not_eq_true'] at h
 unfold stepRow
 rw[h.1,h.2.1,h.2.2]
 rfl
theorem step_whole {k:Known} {cs:List Int} {best:Option Found} {b:Box} (h:isParted k cs best b=false):∃ c,stepRow k cs best b=[c]∧c≠3:=by
 unfold isParted at h
 unfold stepRow
 cases h1:isEmptyBox b with
 | true=>exact⟨0,rfl,by decide⟩
 | false =>
  cases h2:bounded k cs best b with
  | true=>exact⟨1,rfl,by decide⟩
  | false =>
   cases h3:isFixed b with
   | true =>
    cases h4:isGood k (fixedCounts b) with
    | true=>exact⟨1,rfl,by decide⟩
    | false=>exact⟨2,rfl,by decide⟩
   | false=>rw[h1,h2,h3] at h;cases h
theorem step_len (k:Known) (cs:List Int) (best:Option Found) (b:Box):(stepRow k cs best b).length≤3:=by
 cases h:isParted k cs best b with
 | true=>rw[step_parted h];exact Nat.le_refl _
 | false=>obtain⟨c,e,_⟩:=step_whole h;rw[e];show 1≤3;decide
structure GoodBest (k:Known) (best:Option Found):Prop where
 good:∀ f,best=some f->isGood k f.counts=true∧f.counts.length=k.edges.length∧∀ c∈f.counts,c≤9
theorem best_good {k:Known} {cs:List Int} {best:Option Found} {b:Box} (g:GoodBest k best) (h:BoxOk k.edges.length b):GoodBest k (bestAfter k cs best b):=by
 refine⟨fun f hf=>?_⟩
 unfold bestAfter at hf
 cases hs:settles k cs best b with
 | true =>
  rw[hs] at hf
  have hf:some _=some f:=hf
  cases hf
  unfold settles at hs
  simp only[Bool.and_eq_true,Bool.not_eq_true'] at hs
  exact⟨hs.2.2.2,fixed_len h,fixed_nine h hs.2.2.1⟩
 | false =>
  rw[hs] at hf
  exact g.good f hf
theorem not_empty {b:Box} (h:isEmptyBox b=false) {z:Int × Int} (hz:z∈b):z.1≤z.2:=by
 unfold isEmptyBox at h
 have:=List.any_eq_false.mp h z hz
 simpa using this
theorem fixed_not_empty {b:Box} (h:isFixed b=true):isEmptyBox b=false:=by
 unfold isEmptyBox
 rw[List.any_eq_false]
 intro z hz
 have:=List.all_eq_true.mp h z hz
 have:z.1=z.2:=by simpa using this
 simp[this]
theorem wide_ok {n:Nat} {b:Box} (h:BoxOk n b) (hn:0 < n) (he:isEmptyBox b=false) (hf:isFixed b=false):widest b < n∧(b.getD (widest b) (0,0)).1≤mid b∧mid b < (b.getD (widest b) (0,0)).2:=by
 have hne:(b.map fun z=>z.2 - z.1)≠[]:=fun q=>by
  have:=congrArg List.length q
  rw[List.length_map,h.len] at this
  simp at this
  omega
 obtain⟨g1,g2⟩:=greatest_mem hne
 obtain⟨w1,_,w3⟩:=widest_spec g1 g2
 have hw:b[widest b]?=some (b.getD (widest b) (0,0)):=by rw[List.getD_eq_getElem?_getD,List.getElem?_eq_getElem w3];rfl
 rw[List.getElem?_map,hw] at w1
 have w1:(b.getD (widest b) (0,0)).2 - (b.getD (widest b) (0,0)).1=greatestOf (b.map fun z=>z.2 - z.1):=Option.some.inj w1
 have pos:0 < greatestOf (b.map fun z=>z.2 - z.1):=by
  apply Classical.byContradiction
  intro no
  have:isFixed b=true:=by
   unfold isFixed
   rw[List.all_eq_true]
   intro z hz
   have h1:=not_empty he hz
   have h2:=g2 _ (List.mem_map.mpr ⟨z,hz,rfl⟩)
   have:z.1=z.2:=by omega
   simpa using this
  rw[this] at hf
  cases hf
 refine⟨by rw[← h.len];exact w3,?_,?_⟩
 ·unfold mid middle;omega
 ·unfold mid middle;omega
theorem new_ok {k:Known} {cs:List Int} {best:Option Found} {b:Box} (h:BoxOk k.edges.length b) (hn:0 < k.edges.length):∀ c∈newBoxes k cs best b,BoxOk k.edges.length c:=by
 intro c hc
 unfold newBoxes at hc
 cases hp:isParted k cs best b with
 | true =>
  rw[hp] at hc
  unfold isParted at hp
  simp only[Bool.and_eq_true,Bool.not_eq_true'] at hp
  obtain⟨w1,w2,w3⟩:=wide_ok h hn hp.1 hp.2.2
  exact parts_ok h w1 w2 w3 c hc
 | false =>
  rw[hp] at hc
  cases hc
def mayPart (k:Known) (b:Box) (e m:Int):Bool:=isEdge k e&&(!isEmptyBox b&&(decide ((b.getD e.toNat (0,0)).1≤m)&&decide (m < (b.getD e.toNat (0,0)).2)))
def mayLeave (k:Known) (cs:List Int) (limit:Int) (b:Box) (c:Int):Bool :=
 if c=0 then isEmptyBox b else if c=1 then (isEmptyBox b || decide (boundOf k cs b≤limit)) else if c=2 then (isFixed b&&!isGood k (fixedCounts b)) else false
theorem isEdge_iff (k:Known) (e:Int):isEdge k e=true ↔ 0≤e∧e < k.edges.length:=by
 unfold isEdge inRange
 simp
 omega
theorem check_three (k:Known) (cs:List Int) (limit:Int) (f:Nat) (a:Box) (r:List Box) (e m:Int) (q:List Int) :
  checkFrom k cs limit (f+1) (a::r) (3::e::m::q)=(mayPart k (tighten k a) e m&&checkFrom k cs limit f (parts k cs (tighten k a) e.toNat m++r) q):=by
 rw[checkFrom]
 generalize tighten k a=b
 dsimp only
 unfold mayPart
 cases h1:isEdge k e with
 | false =>
  have:e < 0∨(k.edges.length:Int)≤e:=by
   apply Classical.byContradiction
   intro no
   have:=(isEdge_iff k e).mpr (by omega)
   rw[h1] at this
   cases this
  rw[if_pos (.inr this)]
  rfl
 | true =>
  have h1:=(isEdge_iff k e).mp h1
  cases h2:isEmptyBox b with
  | true=>simp
  | false =>
   rw[if_neg (by simp;omega)]
   simp[Bool.and_assoc]
theorem check_short (k:Known) (cs:List Int) (limit:Int) (f:Nat) (a:Box) (r:List Box) (q:List Int) (h:q.length < 2):checkFrom k cs limit (f+1) (a::r) (3::q)=false:=by
 match q,h with
 | [],_=>rfl
 | [e],_=>rfl
theorem check_one (k:Known) (cs:List Int) (limit:Int) (f:Nat) (a:Box) (r:List Box) (c:Int) (q:List Int) (h:c≠3) :
  checkFrom k cs limit (f+1) (a::r) (c::q)=(mayLeave k cs limit (tighten k a) c&&checkFrom k cs limit f r q):=by
 unfold mayLeave
 by_cases h0:c=0
 ·subst h0
  show (isEmptyBox (tighten k a)&&checkFrom k cs limit f r q)=_
  rw[if_pos rfl]
 by_cases h1:c=1
 ·subst h1
  show ((isEmptyBox (tighten k a) || decide (boundOf k cs (tighten k a)≤limit))&&checkFrom k cs limit f r q)=_
  rw[if_neg (by decide),if_pos rfl]
 by_cases h2:c=2
 ·subst h2
  show (!isEmptyBox (tighten k a)&&isFixed (tighten k a)&&!isGood k (fixedCounts (tighten k a))&&checkFrom k cs limit f r q)=_
  rw[if_neg (by decide),if_neg (by decide),if_pos rfl]
  cases h3:isFixed (tighten k a) with
  | true=>rw[fixed_not_empty h3];rfl
  | false=>simp
 ·rw[if_neg h0,if_neg h1,if_neg h2,Bool.false_and,checkFrom]
  ·intro q' e;injection e with e1 e2;exact absurd e1 h0
  ·intro q' e;injection e with e1 e2;exact absurd e1 h1
  ·intro q' e;injection e with e1 e2;exact absurd e1 h2
  ·intro e' m' q' e;injection e with e1 e2;exact absurd e1 h
theorem check_nil (k:Known) (cs:List Int) (limit:Int) (f:Nat) (a:Box) (r:List Box):checkFrom k cs limit f (a::r) []=false:=by
 cases f<;>rfl
theorem check_stop (k:Known) (cs:List Int) (limit:Int) (f:Nat) (l:List Int):checkFrom k cs limit f [] l=l.isEmpty:=by
 cases f<;>rfl
end Ww
end
section
namespace Ww
inductive Row {α β:Type} (P:α->β->Prop):List α->List β->Prop
 | nil:Row P [] []
 | cons {a:α} {b:β} {as:List α} {bs:List β}:P a b->Row P as bs->Row P (a::as) (b::bs)
section
variable {α β:Type} {P Q:α->β->Prop} {as as':List α} {bs bs':List β}
theorem Row.length (r:Row P as bs):as.length=bs.length:=by
 induction r with
 | nil=>rfl
 | cons _ _ ih=>rw[List.length_cons,List.length_cons,ih]
theorem Row.mono (r:Row P as bs) (h:∀ a b,a∈as->P a b->Q a b):Row Q as bs:=by
 induction r with
 | nil=>exact .nil
 | cons p _ ih=>exact .cons (h _ _ (by simp) p) (ih fun a b m=>h a b (List.mem_cons_of_mem _ m))
theorem Row.append (r:Row P as bs) (s:Row P as' bs'):Row P (as++as') (bs++bs'):=by
 induction r with
 | nil=>exact s
 | cons p _ ih=>exact .cons p ih
theorem Row.snoc {a:α} {b:β} (r:Row P as bs) (p:P a b):Row P (as++[a]) (bs++[b]):=r.append (.cons p .nil)
theorem Row.get {i:Nat} {a:α} (r:Row P as bs) (h:as[i]?=some a):∃ b,bs[i]?=some b∧P a b:=by
 induction r generalizing i with
 | nil=>simp at h
 | cons p _ ih =>
  cases i with
  | zero=>exact⟨_,rfl,by simpa using (show _=a by simpa using h)▸p⟩
  | succ i=>exact ih (by simpa using h)
theorem Row.of (hl:as.length=bs.length) (h:∀ (i:Nat) a b,as[i]?=some a->bs[i]?=some b->P a b):Row P as bs:=by
 induction as generalizing bs with
 | nil =>
  cases bs with
  | nil=>exact .nil
  | cons b bs=>simp at hl
 | cons a as ih =>
  cases bs with
  | nil=>simp at hl
  | cons b bs=>exact .cons (h 0 a b rfl rfl) (ih (by simpa using hl) fun i x y hx hy=>h (i+1) x y (by simpa using hx) (by simpa using hy))
theorem Row.last {a:α} (r:Row P (as++[a]) bs):∃ bs' b,bs=bs'++[b]∧Row P as bs'∧P a b:=by
 induction as generalizing bs with
 | nil =>
  cases r with
  | cons p q=>cases q;exact⟨[],_,rfl,.nil,p⟩
 | cons x as ih =>
  cases r with
  | cons p q =>
   obtain⟨bs',b,e,r',p'⟩:=ih q
   exact⟨_::bs',b,by rw[e];rfl,.cons p r',p'⟩
end
end Ww
end
section
namespace Ww
open PySem PySem.Spec PyProof.Rows L2
open Vawctd (Known Edge Fact inRange)
def top (i:Nat):Stmt:=PySem.Challenge.pw_worstways_s01_answers.main.body.getD i (.Pass ⟨0,0,0,0⟩)
structure Txt (K:PySem.W.Frag) (mg:Str->Option Value):Prop where
 n_len:mg "len"=none
 n_sum:mg "sum"=none
 n_all:mg "all"=none
 n_any:mg "any"=none
 n_min:mg "min"=none
 n_max:mg "max"=none
 n_list:mg "list"=none
 n_range:mg "range"=none
 n_enumerate:mg "enumerate"=none
 n_zip:mg "zip"=none
 n_reversed:mg "reversed"=none
 c_MOST_ROUNDS:∃ t,mg "MOST_ROUNDS"=some (.int (6) t)
 c_MOST_FACTS:∃ t,mg "MOST_FACTS"=some (.int (6) t)
 c_MOST_BANS:∃ t,mg "MOST_BANS"=some (.int (4) t)
 c_LEAST_NODES:∃ t,mg "LEAST_NODES"=some (.int (2) t)
 c_MOST_NODES:∃ t,mg "MOST_NODES"=some (.int (8) t)
 c_MOST_EDGES:∃ t,mg "MOST_EDGES"=some (.int (16) t)
 c_EDGE_NUMBERS:∃ t,mg "EDGE_NUMBERS"=some (.int (4) t)
 c_HIGHEST_COST:∃ t,mg "HIGHEST_COST"=some (.int (1000) t)
 c_HIGHEST_MOST:∃ t,mg "HIGHEST_MOST"=some (.int (9) t)
 c_FARTHEST_MULTIPLE:∃ t,mg "FARTHEST_MULTIPLE"=some (.int (20) t)
 c_FARTHEST_BOUND:∃ t,mg "FARTHEST_BOUND"=some (.int (1000) t)
 c_NO_SUCH_NUMBER:∃ t,mg "NO_SUCH_NUMBER"=some (.int (-3) t)
 c_OUT_OF_RANGE:∃ t,mg "OUT_OF_RANGE"=some (.int (-7) t)
 c_NO_ROOM:∃ t,mg "NO_ROOM"=some (.int (-9) t)
 c_NO_WAY:∃ t,mg "NO_WAY"=some (.int (-10) t)
 c_WRONG_ROW:∃ t,mg "WRONG_ROW"=some (.int (-12) t)
 c_MOST_TAKEN:∃ t,mg "MOST_TAKEN"=some (.int (400) t)
 c_EMPTY:∃ t,mg "EMPTY"=some (.int (0) t)
 c_BOUNDED:∃ t,mg "BOUNDED"=some (.int (1) t)
 c_NO_WAY_THERE:∃ t,mg "NO_WAY_THERE"=some (.int (2) t)
 c_PARTED:∃ t,mg "PARTED"=some (.int (3) t)
 c_PARTED_NUMBERS:∃ t,mg "PARTED_NUMBERS"=some (.int (3) t)
 c_FOUND:∃ t,mg "FOUND"=some (.int (0) t)
 c_NONE_LET:∃ t,mg "NONE_LET"=some (.int (1) t)
 c_BROKEN_OFF:∃ t,mg "BROKEN_OFF"=some (.int (2) t)
 c_GRAPH:∃ t,mg "GRAPH"=some (.int (0) t)
 c_FACT:∃ t,mg "FACT"=some (.int (1) t)
 c_BAN:∃ t,mg "BAN"=some (.int (2) t)
 c_UNFACT:∃ t,mg "UNFACT"=some (.int (3) t)
 c_UNBAN:∃ t,mg "UNBAN"=some (.int (4) t)
 c_RECOST:∃ t,mg "RECOST"=some (.int (5) t)
 c_WAY:∃ t,mg "WAY"=some (.int (7) t)
 c_FITS:∃ t,mg "FITS"=some (.int (8) t)
 c_BOX:∃ t,mg "BOX"=some (.int (10) t)
 c_BOUND:∃ t,mg "BOUND"=some (.int (11) t)
 c_WORST:∃ t,mg "WORST"=some (.int (12) t)
 c_GONE:∃ t,mg "GONE"=some (.int (13) t)
 c_LEAST:∃ t,mg "LEAST"=some (.int (14) t)
 c_MOST:∃ t,mg "MOST"=some (.int (15) t)
 c_PROOF:∃ t,mg "PROOF"=some (.int (17) t)
 c_CHECK:∃ t,mg "CHECK"=some (.int (18) t)
 c_NUMBERS:∃ a:Addr,mg "NUMBERS"=some (.ref a)∧∀ H:Hp,SqT K H a (([0,0,2,1,1,2,2,0,0,0,0,0,0,0,0,1,1,0,1,0]:List Int).map V.int)
 c_WITH_ROW:∃ a:Addr,mg "WITH_ROW"=some (.ref a)∧∀ H:Hp,SqT K H a (([0,1,7,8,9,18]:List Int).map V.int)
def hf (n:Int) (aL aC aK aM aF aB:Addr):List (Str × V):=[("nodes",.int n),("leaves",.ref aL),("comes",.ref aC),("costs",.ref aK),("mosts",.ref aM),("facts",.ref aF),("bans",.ref aB)]
section
variable {n:Int} {aL aC aK aM aF aB:Addr}
theorem lk_hit {f:Str} {v:V} {r:List (Str × V)}:((f,v)::r).lookup f=some v:=by rw[List.lookup_cons_self]
theorem lk_miss {f g:Str} {v:V} {r:List (Str × V)} (h:(g==f)=false):((f,v)::r).lookup g=r.lookup g:=by rw[List.lookup_cons,h]
theorem hf_nodes:(hf n aL aC aK aM aF aB).lookup ("nodes":Str)=some (V.int n):= lk_hit
theorem hf_leaves:(hf n aL aC aK aM aF aB).lookup ("leaves":Str)=some (V.ref aL):=(lk_miss (by decide +kernel)).trans <| lk_hit
theorem hf_comes:(hf n aL aC aK aM aF aB).lookup ("comes":Str)=some (V.ref aC):=(lk_miss (by decide +kernel)).trans <| (lk_miss (by decide +kernel)).trans <| lk_hit
theorem hf_costs:(hf n aL aC aK aM aF aB).lookup ("costs":Str)=some (V.ref aK):=(lk_miss (by decide +kernel)).trans <| (lk_miss (by decide +kernel)).trans <| (lk_miss (by decide +kernel)).trans <| lk_hit
theorem hf_mosts:(hf n aL aC aK aM aF aB).lookup ("mosts":Str)=some (V.ref aM):=(lk_miss (by decide +kernel)).trans <| (lk_miss (by decide +kernel)).trans <| (lk_miss (by decide +kernel)).trans <| (lk_miss (by decide +kernel)).trans <| lk_hit
theorem hf_facts:(hf n aL aC aK aM aF aB).lookup ("facts":Str)=some (V.ref aF):=(lk_miss (by decide +kernel)).trans <| (lk_miss (by decide +kernel)).trans <| (lk_miss (by decide +kernel)).trans <| (lk_miss (by decide +kernel)).trans <| (lk_miss (by decide +kernel)).trans <| lk_hit
theorem hf_bans:(hf n aL aC aK aM aF aB).lookup ("bans":Str)=some (V.ref aB):=(lk_miss (by decide +kernel)).trans <| (lk_miss (by decide +kernel)).trans <| (lk_miss (by decide +kernel)).trans <| (lk_miss (by decide +kernel)).trans <| (lk_miss (by decide +kernel)).trans <| (lk_miss (by decide +kernel)).trans <| lk_hit
end
structure HA where
 dx:Addr
 aL:Addr
 aC:Addr
 aK:Addr
 aM:Addr
 aF:Addr
 aB:Addr
 fts:List (Addr × Addr)
 bts:List Addr
structure HeldAt (C:Addr) (H:Hp) (p:Addr) (k:Known) (h:HA):Prop where
 obj:H p=some (.ins C h.dx (hf k.nodes h.aL h.aC h.aK h.aM h.aF h.aB))
 lv:H h.aL=some (.lst ((k.edges.map fun d=>(d.src:Int)).map V.int))
 cm:H h.aC=some (.lst ((k.edges.map fun d=>(d.dst:Int)).map V.int))
 co:H h.aK=some (.lst ((k.edges.map fun d=>(d.cost:Int)).map V.int))
 mo:H h.aM=some (.lst ((k.edges.map fun d=>(d.most:Int)).map V.int))
 fa:H h.aF=some (.lst (h.fts.map fun z=>V.ref z.1))
 ba:H h.aB=some (.lst (h.bts.map V.ref))
 flen:h.fts.length=k.facts.length
 blen:h.bts.length=k.bans.length
 fats:∀ (i:Nat) (z:Addr × Addr) (f:Fact),h.fts[i]?=some z->k.facts[i]?=some f->H z.1=some (.tup [.ref z.2,.int f.bound])∧H z.2=some (.lst (f.mults.map V.int))
 bats:∀ (i:Nat) (z:Addr) (b:Nat × Nat),h.bts[i]?=some z->k.bans[i]?=some b->H z=some (.tup [.int b.1,.int b.2])
 nd:[h.aL,h.aC,h.aK,h.aM,h.aF,h.aB].Nodup
 fnd:∀ z∈h.fts,z.2≠h.aK∧z.2≠h.aM∧z.2≠h.aF∧z.2≠h.aB
theorem HeldAt.same {C:Addr} {H H':Hp} {p:Addr} {k:Known} {h:HA} (s:Same H H') (x:HeldAt C H p k h):HeldAt C H' p k h :=
 ⟨s _ _ x.obj,s _ _ x.lv,s _ _ x.cm,s _ _ x.co,s _ _ x.mo,s _ _ x.fa,s _ _ x.ba,x.flen,x.blen,fun i z f a b=>⟨s _ _ (x.fats i z f a b).1,s _ _ (x.fats i z f a b).2⟩,fun i z f a b=>s _ _ (x.bats i z f a b),x.nd,x.fnd⟩
structure HeldR (C:Addr) (H:Hp) (p:Addr) (k:Known) (h:HA):Prop where
 obj:H p=some (.ins C h.dx (hf k.nodes h.aL h.aC h.aK h.aM h.aF h.aB))
 lv:H h.aL=some (.lst ((k.edges.map fun d=>(d.src:Int)).map V.int))
 cm:H h.aC=some (.lst ((k.edges.map fun d=>(d.dst:Int)).map V.int))
 mo:H h.aM=some (.lst ((k.edges.map fun d=>(d.most:Int)).map V.int))
 fa:H h.aF=some (.lst (h.fts.map fun z=>V.ref z.1))
 ba:H h.aB=some (.lst (h.bts.map V.ref))
 flen:h.fts.length=k.facts.length
 blen:h.bts.length=k.bans.length
 fats:∀ (i:Nat) (z:Addr × Addr) (f:Fact),h.fts[i]?=some z->k.facts[i]?=some f->H z.1=some (.tup [.ref z.2,.int f.bound])∧H z.2=some (.lst (f.mults.map V.int))
 bats:∀ (i:Nat) (z:Addr) (b:Nat × Nat),h.bts[i]?=some z->k.bans[i]?=some b->H z=some (.tup [.int b.1,.int b.2])
theorem HeldR.same {C:Addr} {H H':Hp} {p:Addr} {k:Known} {h:HA} (s:Same H H') (x:HeldR C H p k h):HeldR C H' p k h :=
 ⟨s _ _ x.obj,s _ _ x.lv,s _ _ x.cm,s _ _ x.mo,s _ _ x.fa,s _ _ x.ba,x.flen,x.blen,fun i z f a b=>⟨s _ _ (x.fats i z f a b).1,s _ _ (x.fats i z f a b).2⟩,fun i z f a b=>s _ _ (x.bats i z f a b)⟩
theorem HeldAt.r {C:Addr} {H:Hp} {p:Addr} {k:Known} {h:HA} (x:HeldAt C H p k h):HeldR C H p k h:=⟨x.obj,x.lv,x.cm,x.mo,x.fa,x.ba,x.flen,x.blen,x.fats,x.bats⟩
structure HeldC (C:Addr) (H:Hp) (p:Addr) (k:Known) (cs:List Int) (h:HA):Prop where
 r:HeldR C H p k h
 co:H h.aK=some (.lst (cs.map V.int))
 clen:cs.length=k.edges.length
theorem HeldC.same {C:Addr} {H H':Hp} {p:Addr} {k:Known} {cs:List Int} {h:HA} (s:Same H H') (x:HeldC C H p k cs h):HeldC C H' p k cs h:=⟨x.r.same s,s _ _ x.co,x.clen⟩
theorem HeldAt.c {C:Addr} {H:Hp} {p:Addr} {k:Known} {h:HA} (x:HeldAt C H p k h):HeldC C H p k (Vawctd.costsOf k) h:=⟨x.r,x.co,by unfold Vawctd.costsOf;rw[List.length_map]⟩
structure Wf (k:Known):Prop where
 n2:2≤k.nodes
 n8:k.nodes≤8
 e1:1≤k.edges.length
 e16:k.edges.length≤16
 ed:∀ d∈k.edges,d.src < k.nodes∧d.dst < k.nodes∧d.cost≤1000∧d.most≤9
 f6:k.facts.length≤6
 b4:k.bans.length≤4
 fm:∀ f∈k.facts,f.mults.length=k.edges.length∧(∀ a∈f.mults,-20≤a∧a≤20)∧-1000≤f.bound∧f.bound≤1000
 bm:∀ b∈k.bans,b.1 < k.edges.length∧b.2 < k.edges.length∧b.1≠b.2
structure Cl (K:PySem.W.Frag) (C:Addr):Prop where
 cl:Cls K C
 nodes:NoAttr K C "nodes"
 leaves:NoAttr K C "leaves"
 comes:NoAttr K C "comes"
 costs:NoAttr K C "costs"
 mosts:NoAttr K C "mosts"
 facts:NoAttr K C "facts"
 bans:NoAttr K C "bans"
section
variable {P:Program} {w:World} {K:PySem.W.Frag} {mg:Str->Option Value} {base:Heap} {C:Addr}
local macro_rules | `(tactic| walk_at "rd") => `(tactic| simp only [cx_K, rLen, tTru, tSeq, tNext, tRet, tIfS, tVar, tC, tOp, tChain, tTest, tCB, tCons, tNil, tCall, tB, tNot, tAnd, tOr, tAndV, tOrV, tNotV, tIf, tUn, rU, rI0, rI, rEq, rNe, scal, L2.start, List.map_cons, List.map_nil, List.length_cons, List.length_nil, List.replicate, List.cons_append, List.nil_append, List.append_nil, List.getElem?_cons_zero, List.getElem?_cons_succ, Option.some.injEq, V.int.injEq, V.bl.injEq, V.ref.injEq, exists_eq_left, exists_eq_left', exists_and_left, exists_eq', and_true, true_and, exists_eq_right, List.cons.injEq, reduceCtorEq, if_true, if_false, TruV])
abbrev s_is_place:Stmt:=top 25
theorem sc_is_place:FnScope ["number","things"] ["number","things"] (k0m s_is_place):=⟨rfl,rfl,rfl,by decide +kernel,rfl,by decide +kernel,by decide +kernel⟩
def sp_is_place (K:PySem.W.Frag):Sp:=fun vs H Q _=>∃ (n:Int) (a:Addr) (xs:List V),vs=[.int n,.ref a]∧SqL K H a xs∧Q (.bl (inRange n 0 ((xs.length:Int) - 1))) H
theorem ok_is_place (T:Txt K mg) (D:Dfn K mg "is_place" s_is_place ["number","things"]):Prom P w K mg base 1 "is_place" ["number","things"] (sp_is_place K):=by
 refine D.prom sc_is_place (fun vs H Q E h=>?_) (fun f cdv A outer s H vs Q E hr h=>?_)
 ·obtain⟨_,_,_,rfl,_⟩:=h
  rfl
 ·obtain⟨n,a,xs,rfl,hx,k⟩:=h
  refine⟨_,(k0j (k0q (pe_chain op_le op_lt k0n (pv 0) (k1a (lenK K rfl) (by rfl) T.n_len PySem.boot_len (k0a (pv 1) k0g))))),?_⟩
  walk_at "rd"
  unfold inRange at k
  refine ite2 (fun h1=>⟨xs,.inl hx,?_⟩) (fun h1=>?_)
  ·rw[h1,Bool.true_and] at k
   have e:decide (n≤(xs.length:Int) - 1)=decide (n < (xs.length:Int)):=by
    by_cases h:n < (xs.length:Int)
    ·rw[decide_eq_true h,decide_eq_true (by omega)]
    ·rw[decide_eq_false h,decide_eq_false (by omega)]
   rw[e] at k
   exact k
  ·rw[eq_false_of_ne_true h1,Bool.false_and] at k
   exact k
abbrev s_is_edge:Stmt:=top 26
theorem sc_is_edge:FnScope ["held","edge"] ["held","edge"] (k0m s_is_edge):=⟨rfl,rfl,rfl,by decide +kernel,rfl,by decide +kernel,by decide +kernel⟩
def sp_is_edge (K:PySem.W.Frag) (C:Addr):Sp:=fun vs H Q _=>∃ (p:Addr) (n:Int) (k:Known) (h:HA),vs=[.ref p,.int n]∧HeldAt C H p k h∧Q (.bl (Vawctd.isEdge k n)) H
theorem ok_is_edge (c:Cl K C) (D:Dfn K mg "is_edge" s_is_edge ["held","edge"]) (p_is_place:Prom P w K mg base 1 "is_place" ["number","things"] (sp_is_place K)):Prom P w K mg base 2 "is_edge" ["held","edge"] (sp_is_edge K C):=by
 refine D.prom sc_is_edge (fun vs H Q E h=>?_) (fun f cdv A outer s H vs Q E hr h=>?_)
 ·obtain⟨_,_,_,_,rfl,_⟩:=h
  rfl
 ·obtain⟨p,n,k,h,rfl,x,q⟩:=h
  refine⟨_,(k0j (k0q (k0u p_is_place (hr.mono (by decide)) rfl (k0a (pv 1) (k0a (k0v K rfl (pv 0) rfl) k0g))))),?_⟩
  refine⟨_,rfl,_,rfl,p,C,_,_,_,rfl,x.obj,c.cl,c.costs,hf_costs,n,_,_,rfl,SqL.of x.co,?_⟩
  unfold Vawctd.isEdge at q
  rw[List.length_map,List.length_map]
  exact q
abbrev s_is_cost:Stmt:=top 27
theorem sc_is_cost:FnScope ["number"] ["number"] (k0m s_is_cost):=⟨rfl,rfl,rfl,by decide +kernel,rfl,by decide +kernel,by decide +kernel⟩
def sp_in (lo hi:Int):Sp:=fun vs H Q _=>∃ (n:Int),vs=[.int n]∧Q (.bl (inRange n lo hi)) H
theorem ok_is_cost (T:Txt K mg) (D:Dfn K mg "is_cost" s_is_cost ["number"]):Prom P w K mg base 1 "is_cost" ["number"] (sp_in 0 1000):=by
 refine D.prom sc_is_cost (fun vs H Q E h=>?_) (fun f cdv A outer s H vs Q E hr h=>?_)
 ·obtain⟨_,rfl,_⟩:=h
  rfl
 ·obtain⟨n,rfl,k⟩:=h
  refine⟨_,(k0j (k0q (pe_chain op_le op_le k0n (pv 0) (k0y rfl T.c_HIGHEST_COST)))),?_⟩
  walk_at "rd"
  unfold inRange at k
  refine ite2 (fun h1=>?_) (fun h1=>?_)
  ·rw[h1,Bool.true_and] at k
   exact k
  ·rw[eq_false_of_ne_true h1,Bool.false_and] at k
   exact k
abbrev s_is_most:Stmt:=top 28
theorem sc_is_most:FnScope ["number"] ["number"] (k0m s_is_most):=⟨rfl,rfl,rfl,by decide +kernel,rfl,by decide +kernel,by decide +kernel⟩
theorem ok_is_most (T:Txt K mg) (D:Dfn K mg "is_most" s_is_most ["number"]):Prom P w K mg base 1 "is_most" ["number"] (sp_in 0 9):=by
 refine D.prom sc_is_most (fun vs H Q E h=>?_) (fun f cdv A outer s H vs Q E hr h=>?_)
 ·obtain⟨_,rfl,_⟩:=h
  rfl
 ·obtain⟨n,rfl,k⟩:=h
  refine⟨_,(k0j (k0q (pe_chain op_le op_le k0n (pv 0) (k0y rfl T.c_HIGHEST_MOST)))),?_⟩
  walk_at "rd"
  unfold inRange at k
  refine ite2 (fun h1=>?_) (fun h1=>?_)
  ·rw[h1,Bool.true_and] at k
   exact k
  ·rw[eq_false_of_ne_true h1,Bool.false_and] at k
   exact k
abbrev s_all_between:Stmt:=top 24
theorem sc_all_between:FnScope ["numbers","least","greatest","number"] ["numbers","least","greatest"] (k0m s_all_between):=⟨rfl,rfl,rfl,by decide +kernel,rfl,by decide +kernel,by decide +kernel⟩
def sp_all_between (K:PySem.W.Frag):Sp:=fun vs H Q _=>∃ (a:Addr) (ns:List Int) (lo hi:Int),vs=[.ref a,.int lo,.int hi]∧SqL K H a (ns.map V.int)∧ns.length≤sizeLine∧∀ H',Same H H'->Q (.bl (ns.all fun n=>inRange n lo hi)) H'
def onI (f:Int->Option V):V->Option V
 | .int n=>f n
 | _=>none
theorem fm_onI (ns:List Int) (f:Int->Option V):(ns.map V.int).filterMap (onI f)=ns.filterMap f:=by
 rw[List.filterMap_map]
 rfl
theorem fm_bls (ns:List Int) (f:Int->Bool):(ns.map V.int).filterMap (onI fun n=>some (V.bl (f n)))=(ns.map f).map V.bl:=by
 rw[fm_onI]
 induction ns with
 | nil=>rfl
 | cons n ns ih=>rw[List.filterMap_cons,ih];rfl
theorem ok_all_between (T:Txt K mg) (D:Dfn K mg "all_between" s_all_between ["numbers","least","greatest"]):Prom P w K mg base 1 "all_between" ["numbers","least","greatest"] (sp_all_between K):=by
 refine D.prom sc_all_between (fun vs H Q E h=>?_) (fun f cdv A outer s H vs Q E hr h=>?_)
 ·obtain⟨_,_,_,_,rfl,_⟩:=h
  rfl
 ·obtain⟨a,ns,lo,hi,rfl,hx,hn,k⟩:=h
  refine⟨_,(k0j (k0q (k1a (allK K rfl rfl) (by rfl) T.n_all b_all (k0a (pe_lc (own:=[("number",3)]) rfl sc_all_between.nd (pi_listK K rfl (pv 0)) (blkOk_by (by exact (show blkC ["numbers","least","greatest","number"] (k0m s_all_between) _ _=true by decide +kernel))) (fun _ _ _ _ _=>(k1f (i:=3) sc_all_between.nd rfl (by first|exact Or.inl rfl|exact Or.inr rfl))) (fun _ _ _ _ _=>pts_nil) (fun _ _ _ _ _=>(pe_chain op_le op_le (pv 1) (pv 3) (pv 2)))) k0g)))),?_⟩
  refine⟨_,rfl,a,rfl,⟨_,hx⟩,fun D hD=>lc_L (xs:=ns.map V.int) (onI fun n=>some (V.bl (inRange n lo hi))) hD (by rw[List.length_map];exact hn) hx (fun i x H2 Y N e hS hY hN=>?_) (fun H2 hS hD2=>?_)⟩
  ·rw[List.getElem?_map] at e
   obtain⟨n,hn',rfl⟩:=Option.map_eq_some_iff.mp e
   refine⟨rfl,?_⟩
   have hY':=fun H4=>hY (V.bl (inRange n lo hi)) H4 rfl
   unfold inRange at hY'
   refine⟨_,rfl,_,rfl,_,_,rfl,rfl,_,rfl,ite2 (fun h1=>?_) (fun h1=>?_)⟩
   ·rw[h1] at hY'
    simp only[Bool.true_and] at hY'
    exact⟨_,rfl,_,_,rfl,rfl,hY' _ Same.rfl'⟩
   ·rw[eq_false_of_ne_true h1] at hY'
    simp only[Bool.false_and] at hY'
    exact hY' _ Same.rfl'
  ·rw[fm_bls ns (fun n=>inRange n lo hi)] at hD2
   refine⟨D,_,rfl,SqL.of hD2,?_⟩
   rw[List.all_map]
   exact k _ hS
end
end Ww
end
section
namespace Ww
open PySem PySem.Spec PyProof.Rows L2
open Vawctd (Known Edge Fact inRange)
section
variable {P:Program} {w:World} {K:PySem.W.Frag} {mg:Str->Option Value} {base:Heap} {C:Addr}
local macro_rules | `(tactic| walk_at "rd") => `(tactic| simp only [cx_K, rLen, tTru, tSeq, tNext, tRet, tIfS, tVar, tC, tOp, tChain, tTest, tCB, tCons, tNil, tCall, tB, tNot, tAnd, tOr, tAndV, tOrV, tNotV, tIf, tUn, rU, rI0, rI, rEq, rNe, scal, L2.start, List.map_cons, List.map_nil, List.length_cons, List.length_nil, List.replicate, List.cons_append, List.nil_append, List.append_nil, List.getElem?_cons_zero, List.getElem?_cons_succ, Option.some.injEq, V.int.injEq, V.bl.injEq, V.ref.injEq, exists_eq_left, exists_eq_left', exists_and_left, exists_eq', and_true, true_and, exists_eq_right, List.cons.injEq, reduceCtorEq, if_true, if_false, TruV])
theorem cut_front (xs:List V) (h:0 < xs.length):cutV xs none (some (-1))=xs.dropLast:=by
 unfold cutV
 have e:HT.sIx xs.length xs.length (some (-1))=xs.length - 1:=by
  show (if (-1:Int) < 0 then ((-1:Int)+(xs.length:Int)).toNat else min (-1:Int).toNat xs.length)=_
  rw[if_pos (by decide)]
  omega
 rw[HT.sIx_none,e,List.drop_zero,Nat.sub_zero,List.dropLast_eq_take]
theorem at_last (ns:List Int) (h:0 < ns.length):atI (ns.map V.int) (-1)=some (V.int (ns.getLastD 0)):=by
 have e:ixN (ns.map V.int).length (-1)=some (ns.length - 1):=by
  unfold ixN
  rw[if_neg (by decide),List.length_map,if_pos (by omega)]
  congr 1
  omega
 unfold atI
 rw[e]
 show (ns.map V.int)[ns.length - 1]?=_
 rw[List.getElem?_map,← List.getLast?_eq_getElem?]
 cases hq:ns.getLast? with
 | none=>rw[List.getLast?_eq_none_iff.mp hq] at h;simp at h
 | some v=>rw[List.getLastD_eq_getLast?,hq];rfl
theorem stepV_int (ns:List Int) (j st:Nat):stepV (ns.map V.int) j st=(stepL ns j st).map V.int:=by
 unfold stepV stepL
 rw[List.length_map,List.map_filterMap]
 congr 1
 funext k
 rw[List.getElem?_map]
theorem stepL_len {α:Type} (xs:List α) (j st:Nat) (h:0 < st):(stepL xs j st).length≤xs.length:=stepV_len xs j st h
abbrev s_is_counts_row:Stmt:=top 31
theorem sc_is_counts_row:FnScope ["held","row"] ["held","row"] (k0m s_is_counts_row):=⟨rfl,rfl,rfl,by decide +kernel,rfl,by decide +kernel,by decide +kernel⟩
def sp_is_counts_row (K:PySem.W.Frag) (C:Addr):Sp:=fun vs H Q _=>∃ (p a:Addr) (ns:List Int) (k:Known) (h:HA),vs=[.ref p,.ref a]∧HeldAt C H p k h∧SqL K H a (ns.map V.int)∧ns.length≤sizeLine∧∀ H',Same H H'->Q (.bl (Vawctd.readCounts k ns).isSome) H'
theorem readCounts_is (k:Known) (ns:List Int):(Vawctd.readCounts k ns).isSome=(decide ((ns.length:Int)=(k.edges.length:Int))&&ns.all fun n=>inRange n 0 9):=by
 unfold Vawctd.readCounts
 by_cases h:ns.length=k.edges.length∧ns.all (fun a=>inRange a 0 (Vawctd.MOST:Nat))=true
 ·rw[if_pos h]
  have h2:ns.all (fun n=>inRange n 0 9)=true:=h.2
  rw[h2,decide_eq_true (by omega)]
  rfl
 ·rw[if_neg h]
  symm
  rw[Option.isSome_none,Bool.and_eq_false_iff]
  by_cases h1:ns.length=k.edges.length
  ·right
   cases q:ns.all (fun n=>inRange n 0 9) with
   | false=>rfl
   | true=>exact (h ⟨h1,q⟩).elim
  ·left
   exact decide_eq_false (by omega)
theorem k1u {i j:Int}:decide (V.int i=V.int j)=decide (i=j):=by
 by_cases h:i=j
 ·subst h;simp
 ·rw[decide_eq_false h,decide_eq_false (fun q=>h (by injection q))]
theorem ok_is_counts_row (T:Txt K mg) (c:Cl K C) (D:Dfn K mg "is_counts_row" s_is_counts_row ["held","row"]) (p_all_between:Prom P w K mg base 1 "all_between" ["numbers","least","greatest"] (sp_all_between K)):Prom P w K mg base 2 "is_counts_row" ["held","row"] (sp_is_counts_row K C):=by
 refine D.prom sc_is_counts_row (fun vs H Q E h=>?_) (fun f cdv A outer s H vs Q E hr h=>?_)
 ·obtain⟨_,_,_,_,_,rfl,_⟩:=h
  rfl
 ·obtain⟨p,a,ns,k,h,rfl,x,hx,hn,q⟩:=h
  refine⟨_,(k0j (k0q (pe_and (pe_cmpR op_eq (k1a (lenK K rfl) (by rfl) T.n_len PySem.boot_len (k0a (pv 1) k0g)) (k1a (lenK K rfl) (by rfl) T.n_len PySem.boot_len (k0a (k0v K rfl (pv 0) rfl) k0g)) (k1e _)) (pe_one (k0u p_all_between (hr.mono (by decide)) rfl (k0a (pv 1) (k0a k0n (k0a (k0y rfl T.c_HIGHEST_MOST) k0g)))))))),?_⟩
  rw[readCounts_is] at q
  refine⟨_,rfl,a,_,rfl,.inl hx,_,rfl,p,C,_,_,_,rfl,x.obj,c.cl,c.costs,hf_costs,_,_,rfl,.inl (SqL.of x.co),rfl,_,rfl,?_⟩
  rw[k1u,List.length_map,List.length_map,List.length_map]
  refine ite2 (fun h1=>?_) (fun h1=>?_)
  ·rw[h1] at q
   simp only[Bool.true_and] at q
   exact⟨_,rfl,a,ns,0,9,rfl,hx,hn,q⟩
  ·rw[eq_false_of_ne_true h1] at q
   simp only[Bool.false_and] at q
   exact q _ Same.rfl'
abbrev s_is_fact_row:Stmt:=top 30
theorem sc_is_fact_row:FnScope ["held","row"] ["held","row"] (k0m s_is_fact_row):=⟨rfl,rfl,rfl,by decide +kernel,rfl,by decide +kernel,by decide +kernel⟩
def sp_is_fact_row (K:PySem.W.Frag) (C:Addr):Sp:=fun vs H Q _=>∃ (p a:Addr) (ns:List Int) (k:Known) (h:HA),vs=[.ref p,.ref a]∧HeldAt C H p k h∧SqL K H a (ns.map V.int)∧ns.length≤sizeLine∧∀ H',Same H H'->Q (.bl (Vawctd.readFact k ns).isSome) H'
theorem readFact_is (k:Known) (ns:List Int):(Vawctd.readFact k ns).isSome=(decide (ns.length=k.edges.length+1)&&(inRange (ns.getLastD 0) (-1000) 1000&&ns.dropLast.all fun n=>inRange n (-20) 20)):=by
 unfold Vawctd.readFact
 by_cases h1:ns.length=k.edges.length+1
 ·cases h2:ns.dropLast.all (fun n=>inRange n (-20) 20)<;>cases h3:inRange (ns.getLastD 0) (-1000) 1000<;>simp[h1,h2,h3]
 ·simp[h1]
theorem ok_is_fact_row (T:Txt K mg) (c:Cl K C) (D:Dfn K mg "is_fact_row" s_is_fact_row ["held","row"]) (p_all_between:Prom P w K mg base 1 "all_between" ["numbers","least","greatest"] (sp_all_between K)):Prom P w K mg base 2 "is_fact_row" ["held","row"] (sp_is_fact_row K C):=by
 refine D.prom sc_is_fact_row (fun vs H Q E h=>?_) (fun f cdv A outer s H vs Q E hr h=>?_)
 ·obtain⟨_,_,_,_,_,rfl,_⟩:=h
  rfl
 ·obtain⟨p,a,ns,k,h,rfl,x,hx,hn,q⟩:=h
  refine⟨_,(k0e (ps_if (k0x op_ne (k1a (lenK K rfl) (by rfl) T.n_len PySem.boot_len (k0a (pv 1) k0g)) (pe_op op_add (k1a (lenK K rfl) (by rfl) T.n_len PySem.boot_len (k0a (k0v K rfl (pv 0) rfl) k0g)) k0n) (k1e _)) (k0j (k0q pe_bl)) k0z) (k0e (ps_if (pt_not (pt_chain op_le op_le (pe_un un_neg (k0y rfl T.c_FARTHEST_BOUND)) (pe_ix (k0w K rfl) (pv 1) (pe_un un_neg k0n) (fun _ _=>rfl)) (k0y rfl T.c_FARTHEST_BOUND))) (k0j (k0q pe_bl)) k0z) (k0j (k0q (k0u p_all_between (hr.mono (by decide)) rfl (k0a (pe_slice (slK_list K rfl) (pv 1) po_none (po_some (pe_un un_neg k0n))) (k0a (pe_un un_neg (k0y rfl T.c_FARTHEST_MULTIPLE)) (k0a (k0y rfl T.c_FARTHEST_MULTIPLE) k0g)))))))),?_⟩
  rw[readFact_is] at q
  refine⟨_,rfl,a,_,rfl,.inl hx,_,rfl,p,C,_,_,_,rfl,x.obj,c.cl,c.costs,hf_costs,_,_,rfl,.inl (SqL.of x.co),_,_,rfl,rfl,rfl,_,rfl,?_⟩
  rw[k1u,List.length_map,List.length_map,List.length_map]
  by_cases h1:ns.length=k.edges.length+1
  ·rw[decide_eq_true (p:=ns.length=k.edges.length+1) h1] at q
   simp only[Bool.true_and] at q
   rw[decide_eq_true (p:=(ns.length:Int)=(k.edges.length:Int)+1) (by omega)]
   refine iteF ?_
   have hp:0 < ns.length:=by omega
   refine⟨_,rfl,_,rfl,_,rfl,a,_,_,_,rfl,rfl,hx,at_last ns hp,_,_,rfl,rfl,_,rfl,?_⟩
   unfold inRange at q
   by_cases h2:(-1000:Int)≤ns.getLastD 0
   ·rw[decide_eq_true (p:=(-1000:Int)≤ns.getLastD 0) h2] at q ⊢
    refine iteT ⟨_,_,rfl,rfl,_,rfl,?_⟩
    by_cases h3:ns.getLastD 0≤(1000:Int)
    ·rw[decide_eq_true (p:=ns.getLastD 0≤(1000:Int)) h3] at q ⊢
     simp only[Bool.true_and] at q
     refine iteF ?_
     refine⟨_,rfl,_,rfl,_,rfl,a,_,rfl,hx,fun l hl=>?_⟩
     rw[cut_front _ (by rw[List.length_map];exact hp),← List.map_dropLast]
     refine⟨_,rfl,l,ns.dropLast,-20,20,rfl,SqL.of k0f,?_,fun H' hS=>q _ ((Same.new hl).trans hS)⟩
     rw[List.length_dropLast]
     omega
    ·rw[decide_eq_false (p:=ns.getLastD 0≤(1000:Int)) h3] at q ⊢
     simp only[Bool.true_and,Bool.false_and] at q
     exact iteT (q _ Same.rfl')
   ·rw[decide_eq_false (p:=(-1000:Int)≤ns.getLastD 0) h2] at q ⊢
    simp only[Bool.true_and,Bool.false_and] at q
    refine iteF ⟨_,rfl,?_⟩
    exact iteT (q _ Same.rfl')
  ·rw[decide_eq_false (p:=ns.length=k.edges.length+1) h1] at q
   simp only[Bool.false_and] at q
   rw[decide_eq_false (p:=(ns.length:Int)=(k.edges.length:Int)+1) (by omega)]
   exact iteT (q _ Same.rfl')
abbrev s_is_graph_row:Stmt:=top 29
theorem sc_is_graph_row:FnScope ["row","last_node","number"] ["row"] (k0m s_is_graph_row):=⟨rfl,rfl,rfl,by decide +kernel,rfl,by decide +kernel,by decide +kernel⟩
def sp_is_graph_row (K:PySem.W.Frag):Sp:=fun vs H Q _=>∃ (a:Addr) (ns:List Int),vs=[.ref a]∧SqL K H a (ns.map V.int)∧ns.length≤100000∧∀ H',Same H H'->Q (.bl (graphOk ns)) H'
theorem ok_is_graph_row (T:Txt K mg) (D:Dfn K mg "is_graph_row" s_is_graph_row ["row"]) (p_all_between:Prom P w K mg base 1 "all_between" ["numbers","least","greatest"] (sp_all_between K))
  (p_is_cost:Prom P w K mg base 1 "is_cost" ["number"] (sp_in 0 1000)) (p_is_most:Prom P w K mg base 1 "is_most" ["number"] (sp_in 0 9)):Prom P w K mg base 2 "is_graph_row" ["row"] (sp_is_graph_row K):=by
 refine D.prom sc_is_graph_row (fun vs H Q E h=>?_) (fun f cdv A outer s H vs Q E hr h=>?_)
 ·obtain⟨_,_,rfl,_⟩:=h
  rfl
 ·obtain⟨a,ns,rfl,hx,hn,q⟩:=h
  refine⟨_,(k0e (ps_if (PW.pt (pw_or (k0x op_ne (pe_op op_mod (k1a (lenK K rfl) (by rfl) T.n_len PySem.boot_len (k0a (pv 0) k0g)) (k0y rfl T.c_EDGE_NUMBERS)) k0n (k1e _)) (pw_or1 (pt_not (pt_chain op_le op_le k0n (pe_op op_fdiv (k1a (lenK K rfl) (by rfl) T.n_len PySem.boot_len (k0a (pv 0) k0g)) (k0y rfl T.c_EDGE_NUMBERS)) (k0y rfl T.c_MOST_EDGES)))))) (k0j (k0q pe_bl)) k0z) (k0e (ps_if (pt_not (pt_chain op_le op_le (k0y rfl T.c_LEAST_NODES) (pe_ix (k0w K rfl) (pv 0) k0n (fun _ _=>rfl)) (k0y rfl T.c_MOST_NODES))) (k0j (k0q pe_bl)) k0z) (k0e (k1m (i:=1) sc_is_graph_row.nd rfl (Or.inl rfl) (pe_op op_sub (pe_ix (k0w K rfl) (pv 0) k0n (fun _ _=>rfl)) k0n)) (k0j (k0q (pe_and (k0u p_all_between (hr.mono (by decide)) rfl (k0a (pe_slice3K K rfl (pv 0) (po_some k0n) po_none (k0y rfl T.c_EDGE_NUMBERS)) (k0a k0n (k0a (pv 1) k0g)))) (pe_and (k0u p_all_between (hr.mono (by decide)) rfl (k0a (pe_slice3K K rfl (pv 0) (po_some k0n) po_none (k0y rfl T.c_EDGE_NUMBERS)) (k0a k0n (k0a (pv 1) k0g)))) (pe_and (k1a (allK K rfl rfl) (by rfl) T.n_all b_all (k0a (pe_lc (own:=[("number",2)]) rfl sc_is_graph_row.nd (pi_listK K rfl (pe_slice3K K rfl (pv 0) (po_some k0n) po_none (k0y rfl T.c_EDGE_NUMBERS))) (blkOk_by (by exact (show blkC ["row","last_node","number"] (k0m s_is_graph_row) _ _=true by decide +kernel))) (fun _ _ _ _ _=>(k1f (i:=2) sc_is_graph_row.nd rfl (by first|exact Or.inl rfl|exact Or.inr rfl))) (fun _ _ _ _ _=>pts_nil) (fun _ _ _ _ _=>(k0u p_is_cost (hr.mono (by decide)) rfl (k0a (pv 2) k0g)))) k0g)) (pe_one (k1a (allK K rfl rfl) (by rfl) T.n_all b_all (k0a (pe_lc (own:=[("number",2)]) rfl sc_is_graph_row.nd (pi_listK K rfl (pe_slice3K K rfl (pv 0) (po_some k0n) po_none (k0y rfl T.c_EDGE_NUMBERS))) (blkOk_by (by exact (show blkC ["row","last_node","number"] (k0m s_is_graph_row) _ _=true by decide +kernel))) (fun _ _ _ _ _=>(k1f (i:=2) sc_is_graph_row.nd rfl (by first|exact Or.inl rfl|exact Or.inr rfl))) (fun _ _ _ _ _=>pts_nil) (fun _ _ _ _ _=>(k0u p_is_most (hr.mono (by decide)) rfl (k0a (pv 2) k0g)))) k0g))))))))))),?_⟩
  have len4:((ns.map V.int).length:Int)=(ns.length:Int):=by rw[List.length_map]
  refine⟨_,rfl,a,_,rfl,.inl hx,_,_,rfl,rfl,(by show (0:Int) < 4;decide),rfl,_,rfl,?_⟩
  rw[k1u,len4]
  by_cases h1:ns.length % 4=1
  ·rw[decide_eq_true (p:=(ns.length:Int) % 4=1) (by omega)]
   refine iteF ?_
   refine⟨_,rfl,a,_,rfl,.inl hx,_,_,rfl,rfl,⟨by decide,by decide⟩,_,_,rfl,rfl,_,rfl,?_⟩
   rw[len4]
   by_cases h2:1≤ns.length / 4
   ·rw[decide_eq_true (p:=(1:Int)≤(ns.length:Int) / 4) (by omega)]
    refine iteT ⟨_,_,rfl,rfl,_,rfl,?_⟩
    by_cases h3:ns.length / 4≤16
    ·rw[decide_eq_true (p:=(ns.length:Int) / 4≤16) (by omega)]
     refine iteF ?_
     cases ns with
     | nil=>simp at h1
     | cons n r =>
      unfold graphOk at q
      rw[decide_eq_true (p:=(n::r).length % 4=1∧1≤(n::r).length / 4∧(n::r).length / 4≤16) ⟨h1,h2,h3⟩] at q
      simp only[Bool.true_and] at q
      have hat:atI ((n::r).map V.int) 0=some (V.int n):=k1n (j:=0) rfl
      refine⟨_,rfl,a,_,_,_,rfl,rfl,hx,hat,_,_,rfl,rfl,_,rfl,?_⟩
      unfold inRange at q
      by_cases h4:(2:Int)≤n
      ·rw[decide_eq_true h4] at q ⊢
       refine iteT ⟨_,_,rfl,rfl,_,rfl,?_⟩
       by_cases h5:n≤(8:Int)
       ·rw[decide_eq_true h5] at q ⊢
        simp only[Bool.true_and] at q
        refine iteF ?_
        refine⟨_,rfl,a,_,_,_,rfl,rfl,hx,hat,_,_,rfl,rfl,?_⟩
        have en:(n:Int) - 1=((n.toNat:Nat):Int) - 1:=by omega
        have sl:(n::r).length≤sizeLine:=Nat.le_trans hn (by decide)
        have rl:r.length≤sizeLine:=by simp at sl;omega
        unfold foursOk at q
        refine⟨_,rfl,_,rfl,a,_,1,4,rfl,rfl,rfl,rfl,(by decide),hx,fun l1 hl1=>?_⟩
        rw[stepV_int,stepL_cons _ _ 0 4 (by decide)]
        refine⟨_,rfl,l1,_,0,_,rfl,SqL.of k0f,Nat.le_trans (stepL_len r 0 4 (by decide)) rl,fun H1 s1=>⟨_,rfl,?_⟩⟩
        have S1:Same H H1:=(Same.new hl1).trans s1
        rw[en]
        by_cases b1:(stepL r 0 4).all (fun z=>inRange z 0 (((n.toNat:Nat):Int) - 1))=true
        case neg =>
         rw[eq_false_of_ne_true b1] at q ⊢
         simp only[Bool.false_and] at q
         exact iteF (q _ S1)
        rw[b1] at q ⊢
        simp only[Bool.true_and] at q
        refine iteT ?_
        refine⟨_,rfl,_,rfl,a,_,2,4,rfl,rfl,rfl,rfl,(by decide),S1.seq hx,fun l2 hl2=>?_⟩
        rw[stepV_int,stepL_cons _ _ 1 4 (by decide)]
        refine⟨_,rfl,l2,_,0,_,rfl,SqL.of k0f,Nat.le_trans (stepL_len r 1 4 (by decide)) rl,fun H2 s2=>⟨_,rfl,?_⟩⟩
        have S2:Same H H2:=S1.trans ((Same.new hl2).trans s2)
        rw[en]
        by_cases b2:(stepL r 1 4).all (fun z=>inRange z 0 (((n.toNat:Nat):Int) - 1))=true
        case neg =>
         rw[eq_false_of_ne_true b2] at q ⊢
         simp only[Bool.false_and] at q
         exact iteF (q _ S2)
        rw[b2] at q ⊢
        simp only[Bool.true_and] at q
        refine iteT ?_
        refine⟨_,rfl,_,rfl,a,_,3,4,rfl,rfl,rfl,rfl,(by decide),S2.seq hx,fun l3 hl3=>?_⟩
        rw[stepV_int,stepL_cons _ _ 2 4 (by decide)]
        refine⟨l3,rfl,⟨_,SqL.of k0f⟩,fun D3 hD3=>lc_L (xs:=(stepL r 2 4).map V.int) (onI fun n=>some (V.bl (inRange n 0 1000))) hD3 (by rw[List.length_map];exact Nat.le_trans (stepL_len r 2 4 (by decide)) rl) (SqL.of k0f) (fun i x H3 Y N e hS hY hN=>?_) (fun H3 s3 hD=>?_)⟩
        ·rw[List.getElem?_map] at e
         obtain⟨z,hz,rfl⟩:=Option.map_eq_some_iff.mp e
         exact⟨rfl,_,rfl,z,rfl,hY _ _ rfl Same.rfl'⟩
        rw[fm_bls (stepL r 2 4) (fun n=>inRange n 0 1000)] at hD
        have S3:Same H H3:=S2.trans ((Same.new hl3).trans s3)
        refine⟨D3,_,rfl,SqL.of hD,_,rfl,?_⟩
        rw[List.all_map]
        show if ((stepL r 2 4).all fun n=>inRange n 0 1000)=true then _ else _
        by_cases b3:(stepL r 2 4).all (fun z=>inRange z 0 1000)=true
        case neg =>
         rw[eq_false_of_ne_true b3] at q ⊢
         simp only[Bool.false_and] at q
         exact iteF (q _ S3)
        rw[b3] at q ⊢
        simp only[Bool.true_and] at q
        refine iteT ?_
        refine⟨_,rfl,_,rfl,a,_,4,4,rfl,rfl,rfl,rfl,(by decide),S3.seq hx,fun l4 hl4=>?_⟩
        rw[stepV_int,stepL_cons _ _ 3 4 (by decide)]
        refine⟨l4,rfl,⟨_,SqL.of k0f⟩,fun D4 hD4=>lc_L (xs:=(stepL r 3 4).map V.int) (onI fun n=>some (V.bl (inRange n 0 9))) hD4 (by rw[List.length_map];exact Nat.le_trans (stepL_len r 3 4 (by decide)) rl) (SqL.of k0f) (fun i x H4 Y N e hS hY hN=>?_) (fun H4 s4 hD'=>?_)⟩
        ·rw[List.getElem?_map] at e
         obtain⟨z,hz,rfl⟩:=Option.map_eq_some_iff.mp e
         exact⟨rfl,_,rfl,z,rfl,hY _ _ rfl Same.rfl'⟩
        rw[fm_bls (stepL r 3 4) (fun n=>inRange n 0 9)] at hD'
        refine⟨D4,_,rfl,SqL.of hD',?_⟩
        rw[List.all_map]
        exact q _ (S3.trans ((Same.new hl4).trans s4))
       ·rw[decide_eq_false h5] at q ⊢
        simp only[Bool.true_and,Bool.false_and] at q
        exact iteT (q _ Same.rfl')
      ·rw[decide_eq_false h4] at q ⊢
       simp only[Bool.false_and] at q
       exact iteF ⟨_,rfl,iteT (q _ Same.rfl')⟩
    ·rw[decide_eq_false (p:=(ns.length:Int) / 4≤16) (by omega)]
     have e0:graphOk ns=false:=by unfold graphOk;rw[decide_eq_false (by omega),Bool.false_and]
     rw[e0] at q
     exact iteT (q _ Same.rfl')
   ·rw[decide_eq_false (p:=(1:Int)≤(ns.length:Int) / 4) (by omega)]
    have e0:graphOk ns=false:=by unfold graphOk;rw[decide_eq_false (by omega),Bool.false_and]
    rw[e0] at q
    exact iteF ⟨_,rfl,iteT (q _ Same.rfl')⟩
  ·rw[decide_eq_false (p:=(ns.length:Int) % 4=1) (by omega)]
   have e0:graphOk ns=false:=by unfold graphOk;rw[decide_eq_false (by omega),Bool.false_and]
   rw[e0] at q
   exact iteT (iteT (q _ Same.rfl'))
end
end Ww
end
section
namespace Ww
open PySem PySem.Spec PyProof.Rows L2
open Vawctd (Known Edge Fact inRange)
def Own (h:HA):List Addr:=[h.aL,h.aC,h.aK,h.aM,h.aF,h.aB]++h.fts.map (·.2)
structure Aft (C p:Addr) (H H':Hp) (h h':HA) (k':Known):Prop where
 held:HeldAt C H' p k' h'
 keep:∀ b o,H b=some o->b≠p->b∉Own h->H' b=some o
 own:∀ x∈Own h',x∈Own h∨H x=none
def Ans (C p:Addr) (H:Hp) (h:HA) (r:Known × List Int) (Q:VK):Prop:=∀ (H':Hp) (l:Addr) (h':HA),Aft C p H H' h h' r.1->H l=none->H' l=some (.lst (r.2.map V.int))->Q (.ref l) H'
theorem Aft.ask {C p:Addr} {H H':Hp} {h:HA} {k:Known} (x:HeldAt C H p k h) (s:Same H H'):Aft C p H H' h h k:=⟨x.same s,fun b o e _ _=>s b o e,fun x hx=>.inl hx⟩
theorem Ans.ask {C p r:Addr} {H H1:Hp} {h:HA} {k:Known} {a:List Int} {Q:VK} (q:Ans C p H h (k,a) Q) (x:HeldAt C H p k h) (s:Same H H1) (hr:H1 r=none):Q (.ref r) (upd H1 r (.lst (a.map V.int))) :=
 q _ r h (Aft.ask x (s.grow hr)) (s.free hr) k0f
theorem putF_hit {f:Str} {v w:V} {r:List (Str × V)}:putF f v ((f,w)::r)=(f,v)::r:=by
 unfold putF
 rw[if_pos rfl]
theorem k0r {f g:Str} {v w:V} {r:List (Str × V)} (h:¬ g=f):putF f v ((g,w)::r)=(g,w)::putF f v r:=by
 rw[putF,if_neg h]
section
variable {n n':Int} {aL aC aK aM aF aB b:Addr}
theorem pf_nodes:putF ("nodes":Str) (.int n') (hf n aL aC aK aM aF aB)=hf n' aL aC aK aM aF aB:=putF_hit
theorem pf_leaves:putF ("leaves":Str) (.ref b) (hf n aL aC aK aM aF aB)=hf n b aC aK aM aF aB:=by
 unfold hf;rw[k0r (by decide +kernel),putF_hit]
theorem pf_comes:putF ("comes":Str) (.ref b) (hf n aL aC aK aM aF aB)=hf n aL b aK aM aF aB:=by
 unfold hf;rw[k0r (by decide +kernel),k0r (by decide +kernel),putF_hit]
theorem pf_costs:putF ("costs":Str) (.ref b) (hf n aL aC aK aM aF aB)=hf n aL aC b aM aF aB:=by
 unfold hf;rw[k0r (by decide +kernel),k0r (by decide +kernel),k0r (by decide +kernel),putF_hit]
theorem pf_mosts:putF ("mosts":Str) (.ref b) (hf n aL aC aK aM aF aB)=hf n aL aC aK b aF aB:=by
 unfold hf;rw[k0r (by decide +kernel),k0r (by decide +kernel),k0r (by decide +kernel),k0r (by decide +kernel),putF_hit]
theorem pf_facts:putF ("facts":Str) (.ref b) (hf n aL aC aK aM aF aB)=hf n aL aC aK aM b aB:=by
 unfold hf;rw[k0r (by decide +kernel),k0r (by decide +kernel),k0r (by decide +kernel),k0r (by decide +kernel),k0r (by decide +kernel),putF_hit]
theorem pf_bans:putF ("bans":Str) (.ref b) (hf n aL aC aK aM aF aB)=hf n aL aC aK aM aF b:=by
 unfold hf;rw[k0r (by decide +kernel),k0r (by decide +kernel),k0r (by decide +kernel),k0r (by decide +kernel),k0r (by decide +kernel),k0r (by decide +kernel),putF_hit]
theorem hf_len:(hf n aL aC aK aM aF aB).length < 1000:=by show 7 < 1000;decide
end
theorem HeldAt.ne {C:Addr} {H:Hp} {p:Addr} {k:Known} {h:HA} (x:HeldAt C H p k h) {l:Addr} {xs:List V} (hl:H l=some (.lst xs)):p≠l∧(∀ z∈h.fts,z.1≠l)∧∀ z∈h.bts,z≠l:=by
 refine⟨ne_of x.obj hl (by intro q;cases q),fun z hz=>?_,fun z hz=>?_⟩
 ·obtain⟨i,hi⟩:=List.getElem?_of_mem hz
  have hlt:i < k.facts.length:=by rw[← x.flen];exact (List.getElem?_eq_some_iff.mp hi).1
  exact ne_of (x.fats i z _ hi (List.getElem?_eq_getElem hlt)).1 hl (by intro q;cases q)
 ·obtain⟨i,hi⟩:=List.getElem?_of_mem hz
  have hlt:i < k.bans.length:=by rw[← x.blen];exact (List.getElem?_eq_some_iff.mp hi).1
  exact ne_of (x.bats i z _ hi (List.getElem?_eq_getElem hlt)) hl (by intro q;cases q)
section
variable {P:Program} {w:World} {K:PySem.W.Frag} {mg:Str->Option Value} {base:Heap} {C:Addr}
abbrev s_recost:Stmt:=top 103
theorem sc_recost:FnScope ["held","e","c"] ["held","e","c"] (k0m s_recost):=⟨rfl,rfl,rfl,by decide +kernel,rfl,by decide +kernel,by decide +kernel⟩
def sp_recost (C:Addr):Sp:=fun vs H Q _=>∃ (p:Addr) (e c:Int) (k:Known) (h:HA),vs=[.ref p,.int e,.int c]∧HeldAt C H p k h∧Ans C p H h (Vawctd.step k (.recost e c)) Q
theorem setEdge_map {α:Type} (k:Known) (e:Int) (f:Edge->Edge) (g:Edge->α) (he:Vawctd.isEdge k e=true):(Vawctd.setEdge k e f).edges.map g=(k.edges.map g).set e.toNat (g (f (k.edges.getD e.toNat ⟨0,0,0,0⟩))):=by
 have hr:=k1j he
 unfold Vawctd.setEdge
 apply List.ext_getElem?
 intro i
 rw[List.getElem?_map,List.getElem?_map,List.getElem?_set,List.getElem?_zipIdx,List.getElem?_map]
 by_cases hi:e.toNat=i
 ·subst hi
  have hlt:e.toNat < k.edges.length:=by omega
  rw[List.getElem?_eq_getElem hlt]
  simp[hlt,List.getD_eq_getElem?_getD,Int.toNat_of_nonneg hr.1]
 ·rw[if_neg hi]
  cases k.edges[i]? with
  | none=>rfl
  | some d =>
   have:¬ ((i:Int)=e):=by omega
   simp[this]
theorem set_same {α:Type} (l:List α) (i:Nat) (a:α) (h:l[i]?=some a∨l.length≤i):l.set i a=l:=by
 apply List.ext_getElem?
 intro j
 rw[List.getElem?_set]
 by_cases e:i=j
 ·subst e
  rw[if_pos rfl]
  rcases h with h|h
  ·obtain⟨h1,h2⟩:=List.getElem?_eq_some_iff.mp h
   rw[if_pos h1,h]
  ·rw[if_neg (by omega),List.getElem?_eq_none h]
 ·rw[if_neg e]
theorem ok_recost (T:Txt K mg) (c:Cl K C) (D:Dfn K mg "recost" s_recost ["held","e","c"]) (p_is_edge:Prom P w K mg base 2 "is_edge" ["held","edge"] (sp_is_edge K C)) (p_is_cost:Prom P w K mg base 1 "is_cost" ["number"] (sp_in 0 1000)) :
  Prom P w K mg base 3 "recost" ["held","e","c"] (sp_recost C):=by
 refine D.prom sc_recost (fun vs H Q E h=>?_) (fun f cdv A outer s H vs Q E hr h=>?_)
 ·obtain⟨_,_,_,_,_,rfl,_⟩:=h
  rfl
 ·obtain⟨p,e,cc,k,h,rfl,x,q⟩:=h
  refine⟨_,(k0e (ps_if (pt_not (k1r K rfl (k0u p_is_edge (hr.mono (by decide)) rfl (k0a (pv 0) (k0a (pv 1) k0g))) (fun _=>rfl))) (k0j (k0q (k1g (k0a (k0y rfl T.c_NO_SUCH_NUMBER) k0g)))) k0z) (k0e (ps_if (pt_not (k1r K rfl (k0u p_is_cost (hr.mono (by decide)) rfl (k0a (pv 2) k0g)) (fun _=>rfl))) (k0j (k0q (k1g (k0a (k0y rfl T.c_OUT_OF_RANGE) k0g)))) k0z) (k0e (ps_asg (pv 2) (pg_sub (k0v K rfl (pv 0) rfl) (pv 1) set_list)) (k0j (k0q (k1g (k0a k0n k0g))))))),?_⟩
  refine⟨_,rfl,_,rfl,p,e,k,h,rfl,x,_,rfl,?_⟩
  by_cases h1:Vawctd.isEdge k e=true
  case neg =>
   rw[eq_false_of_ne_true h1]
   have e0:Vawctd.step k (.recost e cc)=(k,[-3]):=by simp[Vawctd.step,eq_false_of_ne_true h1]
   rw[e0] at q
   refine iteT ⟨(by show 1≤sizeLine;decide),fun r hr=>?_⟩
   exact q.ask x Same.rfl' hr
  rw[h1]
  refine iteF ?_
  refine⟨_,rfl,cc,rfl,_,rfl,?_⟩
  by_cases h2:inRange cc 0 1000=true
  case neg =>
   rw[eq_false_of_ne_true h2]
   have h2':inRange cc 0 (Vawctd.COST:Nat)=false:=eq_false_of_ne_true h2
   have e0:Vawctd.step k (.recost e cc)=(k,[-7]):=by simp[Vawctd.step,h1,h2']
   rw[e0] at q
   refine iteT ⟨(by show 1≤sizeLine;decide),fun r hr=>?_⟩
   exact q.ask x Same.rfl' hr
  rw[h2]
  refine iteF ?_
  have h2':inRange cc 0 (Vawctd.COST:Nat)=true:=h2
  have e0:Vawctd.step k (.recost e cc)=(Vawctd.setEdge k e fun d=>{ d with cost:=cc.toNat },[0]):=by simp[Vawctd.step,h1,h2']
  rw[e0] at q
  have he:=k1j h1
  have hc:=k1j h2
  have hlt:e.toNat < k.edges.length:=by omega
  have hix:ixN ((k.edges.map fun d=>(d.cost:Int)).map V.int).length e=some e.toNat:=by
   unfold ixN
   rw[if_pos he.1,List.length_map,List.length_map,if_pos (by omega)]
  refine⟨_,rfl,_,rfl,p,C,_,_,_,rfl,x.obj,c.cl,c.costs,hf_costs,_,rfl,h.aK,_,_,_,rfl,rfl,x.co,hix,(by show 1≤sizeLine;decide),fun r hr=>?_⟩
  have hrK:r≠h.aK:=fun z=>by rw[z,k0f] at hr;cases hr
  have hrn:H r=none:=by rw[k0p hrK] at hr;exact hr
  obtain⟨np,nf,nb⟩:=x.ne x.co
  have nd:=x.nd
  simp only[List.nodup_cons,List.mem_cons,not_or,List.not_mem_nil,not_false_eq_true,List.nodup_nil,and_true] at nd
  have getU:∀ b o,H b=some o->b≠h.aK->(upd (upd H h.aK (.lst (((k.edges.map fun d=>(d.cost:Int)).map V.int).set e.toNat (.int cc)))) r (.lst [.int 0])) b=some o:=fun b o eb hb=>by
   rw[k0p (k0h eb hrn),k0p hb]
   exact eb
  have mapS:∀ (g:Edge->Int),(∀ d:Edge,g { d with cost:=cc.toNat }=g d)->(Vawctd.setEdge k e fun d=>{ d with cost:=cc.toNat }).edges.map g=k.edges.map g:=fun g hg=>by
   rw[setEdge_map k e _ g h1,hg]
   refine set_same _ _ _ (.inl ?_)
   rw[List.getElem?_map,List.getElem?_eq_getElem hlt]
   simp[List.getD_eq_getElem?_getD,hlt]
  refine q _ r h ⟨⟨?_,?_,?_,?_,?_,?_,?_,x.flen,x.blen,?_,?_,x.nd,x.fnd⟩,fun b o eb hb hO=>?_,fun y hy=>.inl hy⟩ hrn k0f
  ·exact getU _ _ x.obj np
  ·rw[mapS _ fun _=>rfl];exact getU _ _ x.lv (fun z=>nd.1.2.1 z)
  ·rw[mapS _ fun _=>rfl];exact getU _ _ x.cm (fun z=>nd.2.1.1 z)
  ·rw[k0p (Ne.symm hrK),k0f,setEdge_map k e _ _ h1,List.map_set,Int.toNat_of_nonneg hc.1]
  ·rw[mapS _ fun _=>rfl];exact getU _ _ x.mo (fun z=>nd.2.2.1.1 z.symm)
  ·exact getU _ _ x.fa (fun z=>nd.2.2.1.2.1 z.symm)
  ·exact getU _ _ x.ba (fun z=>nd.2.2.1.2.2 z.symm)
  ·intro i z f hz hf'
   have hm:=List.mem_of_getElem? hz
   exact⟨getU _ _ (x.fats i z f hz hf').1 (nf z hm),getU _ _ (x.fats i z f hz hf').2 (x.fnd z hm).1⟩
  ·intro i z b hz hb
   exact getU _ _ (x.bats i z b hz hb) (nb z (List.mem_of_getElem? hz))
  ·exact getU b o eb fun z=>hO (by rw[z];simp[Own])
abbrev s_remost:Stmt:=top 104
theorem sc_remost:FnScope ["held","e","m"] ["held","e","m"] (k0m s_remost):=⟨rfl,rfl,rfl,by decide +kernel,rfl,by decide +kernel,by decide +kernel⟩
def sp_remost (C:Addr):Sp:=fun vs H Q _=>∃ (p:Addr) (e c:Int) (k:Known) (h:HA),vs=[.ref p,.int e,.int c]∧HeldAt C H p k h∧Ans C p H h (Vawctd.step k (.remost e c)) Q
theorem ok_remost (T:Txt K mg) (c:Cl K C) (D:Dfn K mg "remost" s_remost ["held","e","m"]) (p_is_edge:Prom P w K mg base 2 "is_edge" ["held","edge"] (sp_is_edge K C)) (p_is_most:Prom P w K mg base 1 "is_most" ["number"] (sp_in 0 9)) :
  Prom P w K mg base 3 "remost" ["held","e","m"] (sp_remost C):=by
 refine D.prom sc_remost (fun vs H Q E h=>?_) (fun f cdv A outer s H vs Q E hr h=>?_)
 ·obtain⟨_,_,_,_,_,rfl,_⟩:=h
  rfl
 ·obtain⟨p,e,cc,k,h,rfl,x,q⟩:=h
  refine⟨_,(k0e (ps_if (pt_not (k1r K rfl (k0u p_is_edge (hr.mono (by decide)) rfl (k0a (pv 0) (k0a (pv 1) k0g))) (fun _=>rfl))) (k0j (k0q (k1g (k0a (k0y rfl T.c_NO_SUCH_NUMBER) k0g)))) k0z) (k0e (ps_if (pt_not (k1r K rfl (k0u p_is_most (hr.mono (by decide)) rfl (k0a (pv 2) k0g)) (fun _=>rfl))) (k0j (k0q (k1g (k0a (k0y rfl T.c_OUT_OF_RANGE) k0g)))) k0z) (k0e (ps_asg (pv 2) (pg_sub (k0v K rfl (pv 0) rfl) (pv 1) set_list)) (k0j (k0q (k1g (k0a k0n k0g))))))),?_⟩
  refine⟨_,rfl,_,rfl,p,e,k,h,rfl,x,_,rfl,?_⟩
  by_cases h1:Vawctd.isEdge k e=true
  case neg =>
   rw[eq_false_of_ne_true h1]
   have e0:Vawctd.step k (.remost e cc)=(k,[-3]):=by simp[Vawctd.step,eq_false_of_ne_true h1]
   rw[e0] at q
   refine iteT ⟨(by show 1≤sizeLine;decide),fun r hr=>?_⟩
   exact q.ask x Same.rfl' hr
  rw[h1]
  refine iteF ?_
  refine⟨_,rfl,cc,rfl,_,rfl,?_⟩
  by_cases h2:inRange cc 0 9=true
  case neg =>
   rw[eq_false_of_ne_true h2]
   have h2':inRange cc 0 (Vawctd.MOST:Nat)=false:=eq_false_of_ne_true h2
   have e0:Vawctd.step k (.remost e cc)=(k,[-7]):=by simp[Vawctd.step,h1,h2']
   rw[e0] at q
   refine iteT ⟨(by show 1≤sizeLine;decide),fun r hr=>?_⟩
   exact q.ask x Same.rfl' hr
  rw[h2]
  refine iteF ?_
  have h2':inRange cc 0 (Vawctd.MOST:Nat)=true:=h2
  have e0:Vawctd.step k (.remost e cc)=(Vawctd.setEdge k e fun d=>{ d with most:=cc.toNat },[0]):=by simp[Vawctd.step,h1,h2']
  rw[e0] at q
  have he:=k1j h1
  have hc:=k1j h2
  have hlt:e.toNat < k.edges.length:=by omega
  have hix:ixN ((k.edges.map fun d=>(d.most:Int)).map V.int).length e=some e.toNat:=by
   unfold ixN
   rw[if_pos he.1,List.length_map,List.length_map,if_pos (by omega)]
  refine⟨_,rfl,_,rfl,p,C,_,_,_,rfl,x.obj,c.cl,c.mosts,hf_mosts,_,rfl,h.aM,_,_,_,rfl,rfl,x.mo,hix,(by show 1≤sizeLine;decide),fun r hr=>?_⟩
  have hrM:r≠h.aM:=fun z=>by rw[z,k0f] at hr;cases hr
  have hrn:H r=none:=by rw[k0p hrM] at hr;exact hr
  obtain⟨np,nf,nb⟩:=x.ne x.mo
  have nd:=x.nd
  simp only[List.nodup_cons,List.mem_cons,not_or,List.not_mem_nil,not_false_eq_true,List.nodup_nil,and_true] at nd
  have getU:∀ b o,H b=some o->b≠h.aM->(upd (upd H h.aM (.lst (((k.edges.map fun d=>(d.most:Int)).map V.int).set e.toNat (.int cc)))) r (.lst [.int 0])) b=some o:=fun b o eb hb=>by
   rw[k0p (k0h eb hrn),k0p hb]
   exact eb
  have mapS:∀ (g:Edge->Int),(∀ d:Edge,g { d with most:=cc.toNat }=g d)->(Vawctd.setEdge k e fun d=>{ d with most:=cc.toNat }).edges.map g=k.edges.map g:=fun g hg=>by
   rw[setEdge_map k e _ g h1,hg]
   refine set_same _ _ _ (.inl ?_)
   rw[List.getElem?_map,List.getElem?_eq_getElem hlt]
   simp[List.getD_eq_getElem?_getD,hlt]
  refine q _ r h ⟨⟨?_,?_,?_,?_,?_,?_,?_,x.flen,x.blen,?_,?_,x.nd,x.fnd⟩,fun b o eb hb hO=>?_,fun y hy=>.inl hy⟩ hrn k0f
  ·exact getU _ _ x.obj np
  ·rw[mapS _ fun _=>rfl];exact getU _ _ x.lv (fun z=>nd.1.2.2.1 z)
  ·rw[mapS _ fun _=>rfl];exact getU _ _ x.cm (fun z=>nd.2.1.2.1 z)
  ·rw[mapS _ fun _=>rfl];exact getU _ _ x.co (fun z=>nd.2.2.1.1 z)
  ·rw[k0p (Ne.symm hrM),k0f,setEdge_map k e _ _ h1,List.map_set,Int.toNat_of_nonneg hc.1]
  ·exact getU _ _ x.fa (fun z=>nd.2.2.2.1.1 z.symm)
  ·exact getU _ _ x.ba (fun z=>nd.2.2.2.1.2 z.symm)
  ·intro i z f hz hf'
   have hm:=List.mem_of_getElem? hz
   exact⟨getU _ _ (x.fats i z f hz hf').1 (nf z hm),getU _ _ (x.fats i z f hz hf').2 (x.fnd z hm).2.1⟩
  ·intro i z b hz hb
   exact getU _ _ (x.bats i z b hz hb) (nb z (List.mem_of_getElem? hz))
  ·exact getU b o eb fun z=>hO (by rw[z];simp[Own])
abbrev s_ban:Stmt:=top 99
theorem sc_ban:FnScope ["held","e","f"] ["held","e","f"] (k0m s_ban):=⟨rfl,rfl,rfl,by decide +kernel,rfl,by decide +kernel,by decide +kernel⟩
def sp_ban (C:Addr):Sp:=fun vs H Q _=>∃ (p:Addr) (e f:Int) (k:Known) (h:HA),vs=[.ref p,.int e,.int f]∧HeldAt C H p k h∧Wf k∧Ans C p H h (Vawctd.step k (.ban e f)) Q
theorem ok_ban (T:Txt K mg) (c:Cl K C) (D:Dfn K mg "ban" s_ban ["held","e","f"]) (p_is_edge:Prom P w K mg base 2 "is_edge" ["held","edge"] (sp_is_edge K C)) :
  Prom P w K mg base 3 "ban" ["held","e","f"] (sp_ban C):=by
 refine D.prom sc_ban (fun vs H Q E h=>?_) (fun f cdv A outer s H vs Q E hr h=>?_)
 ·obtain⟨_,_,_,_,_,rfl,_⟩:=h
  rfl
 ·obtain⟨p,e,g,k,h,rfl,x,wf,q⟩:=h
  refine⟨_,(k0e (ps_if (PW.pt (pw_or (pt_not (k1r K rfl (k0u p_is_edge (hr.mono (by decide)) rfl (k0a (pv 0) (k0a (pv 1) k0g))) (fun _=>rfl))) (pw_or (pt_not (k1r K rfl (k0u p_is_edge (hr.mono (by decide)) rfl (k0a (pv 0) (k0a (pv 2) k0g))) (fun _=>rfl))) (pw_or1 (k0x op_eq (pv 1) (pv 2) (k1e _)))))) (k0j (k0q (k1g (k0a (k0y rfl T.c_NO_SUCH_NUMBER) k0g)))) k0z) (k0e (ps_if (k0x op_eq (k1a (lenK K rfl) (by rfl) T.n_len PySem.boot_len (k0a (k0v K rfl (pv 0) rfl) k0g)) (k0y rfl T.c_MOST_BANS) (k1e _)) (k0j (k0q (k1g (k0a (k0y rfl T.c_NO_ROOM) k0g)))) k0z) (k0e (ps_expr (pe_bm PySem.F.plainAttrs_list PySem.F.slot_list_append PySem.F.type_list_append mt_append (k0v K rfl (pv 0) rfl) (k0a (pe_tup (k0a (pv 1) (k0a (pv 2) k0g))) k0g))) (k0j (k0q (k1g (k0a k0n (k0a (k1a (lenK K rfl) (by rfl) T.n_len PySem.boot_len (k0a (k0v K rfl (pv 0) rfl) k0g)) k0g)))))))),?_⟩
  refine⟨_,rfl,_,rfl,p,e,k,h,rfl,x,_,rfl,?_⟩
  have refuse:Vawctd.step k (.ban e g)=(k,[-3])->(tRet (tLst (tCons (tC (V.int (-3))) tNil))) { nx:=fun _ H'=>Q .non H',rt:=Q } (L2.start ["held","e","f"] [V.ref p,V.int e,V.int g]) H:=fun e0=>by
   rw[e0] at q
   exact⟨(by show 1≤sizeLine;decide),fun r hr=>q.ask x Same.rfl' hr⟩
  by_cases h1:Vawctd.isEdge k e=true
  case neg =>
   rw[eq_false_of_ne_true h1]
   exact iteT (refuse (by simp[Vawctd.step,eq_false_of_ne_true h1]))
  rw[h1]
  refine iteF ⟨_,rfl,_,rfl,p,g,k,h,rfl,x,_,rfl,?_⟩
  by_cases h2:Vawctd.isEdge k g=true
  case neg =>
   rw[eq_false_of_ne_true h2]
   exact iteT (refuse (by simp[Vawctd.step,h1,eq_false_of_ne_true h2]))
  rw[h2]
  refine iteF ⟨_,rfl,_,rfl,rfl,_,rfl,?_⟩
  rw[k1u]
  by_cases h3:e=g
  ·rw[decide_eq_true h3]
   exact iteT (refuse (by simp[Vawctd.step,h3]))
  rw[decide_eq_false h3]
  refine iteF ⟨_,rfl,p,C,_,_,_,rfl,x.obj,c.cl,c.bans,hf_bans,_,_,rfl,.inl (SqL.of x.ba),rfl,_,rfl,?_⟩
  rw[k1u,List.length_map,x.blen]
  by_cases h4:k.bans.length=4
  ·rw[decide_eq_true (p:=(k.bans.length:Int)=4) (by omega)]
   have e0:Vawctd.step k (.ban e g)=(k,[-9]):=by simp[Vawctd.step,h1,h2,h3,h4,Vawctd.BANS]
   rw[e0] at q
   exact iteT ⟨(by show 1≤sizeLine;decide),fun r hr=>q.ask x Same.rfl' hr⟩
  rw[decide_eq_false (p:=(k.bans.length:Int)=4) (by omega)]
  have hb4:=wf.b4
  have e0:Vawctd.step k (.ban e g)=({ k with bans:=k.bans++[(e.toNat,g.toNat)] },[0,((k.bans.length+1:Nat):Int)]):=by
   have:¬ (4≤k.bans.length):=by omega
   simp[Vawctd.step,h1,h2,h3,this,Vawctd.BANS,Vawctd.toInts]
  rw[e0] at q
  have he:=k1j h1
  have hg:=k1j h2
  refine iteF ⟨_,rfl,p,C,_,_,_,rfl,x.obj,c.cl,c.bans,hf_bans,.inl ⟨rfl,_,SqL.of x.ba⟩,_,rfl,_,rfl,(by show 2≤sizeLine;decide),fun t ht=>?_⟩
  have htB:h.aB≠t:=k0h x.ba ht
  refine⟨h.aB,_,_,rfl,rfl,by rw[k0p htB];exact x.ba,(by rw[List.length_map,x.blen];exact Nat.lt_of_le_of_lt hb4 (by decide)),?_⟩
  obtain⟨np,nf,nb⟩:=x.ne x.ba
  have nd:=x.nd
  simp only[List.nodup_cons,List.mem_cons,not_or,List.not_mem_nil,not_false_eq_true,List.nodup_nil,and_true] at nd
  have hpt:p≠t:=k0h x.obj ht
  refine⟨_,rfl,p,C,_,_,_,rfl,(by rw[k0p np,k0p hpt];exact x.obj),c.cl,c.bans,hf_bans,_,_,rfl,.inl (SqL.of k0f),(by show 2≤sizeLine;decide),fun r hr=>?_⟩
  have hrB:r≠h.aB:=fun z=>by rw[z,k0f] at hr;cases hr
  rw[k0p hrB] at hr
  have hrt:r≠t:=fun z=>by rw[z,k0f] at hr;cases hr
  rw[k0p hrt] at hr
  have getU:∀ b o,H b=some o->b≠h.aB->(upd (upd (upd H t (.tup [.int e,.int g])) h.aB (.lst (h.bts.map V.ref++[.ref t]))) r (.lst [.int 0,.int ((h.bts.map V.ref++[V.ref t]).length:Nat)])) b=some o:=fun b o eb hb=>by
   rw[k0p (k0h eb hr),k0p hb,k0p (k0h eb ht)]
   exact eb
  refine q _ r { h with bts:=h.bts++[t] } ⟨⟨?_,?_,?_,?_,?_,?_,?_,x.flen,?_,?_,?_,x.nd,x.fnd⟩,fun b o eb hb hO=>?_,fun y hy=>.inl hy⟩ hr ?_
  ·exact getU _ _ x.obj np
  ·exact getU _ _ x.lv (fun z=>nd.1.2.2.2.2 z)
  ·exact getU _ _ x.cm (fun z=>nd.2.1.2.2.2 z)
  ·exact getU _ _ x.co (fun z=>nd.2.2.1.2.2 z)
  ·exact getU _ _ x.mo (fun z=>nd.2.2.2.1.2 z)
  ·exact getU _ _ x.fa (fun z=>nd.2.2.2.2 z)
  ·rw[k0p (Ne.symm hrB),k0f,List.map_append];rfl
  ·simp[x.blen]
  ·intro i z f hz hf'
   have hm:=List.mem_of_getElem? hz
   exact⟨getU _ _ (x.fats i z f hz hf').1 (nf z hm),getU _ _ (x.fats i z f hz hf').2 (x.fnd z hm).2.2.2⟩
  ·intro i z b hz hb
   have hz:(h.bts++[t])[i]?=some z:=hz
   have hb:(k.bans++[(e.toNat,g.toNat)])[i]?=some b:=hb
   by_cases hi:i < h.bts.length
   ·rw[List.getElem?_append_left hi] at hz
    rw[List.getElem?_append_left (by rw[← x.blen];exact hi)] at hb
    exact getU _ _ (x.bats i z b hz hb) (nb z (List.mem_of_getElem? hz))
   ·rw[List.getElem?_append_right (by omega)] at hz
    rw[List.getElem?_append_right (by rw[← x.blen];omega)] at hb
    have ei:i - h.bts.length=0:=by
     rcases Nat.eq_zero_or_pos (i - h.bts.length) with z0|z0
     ·exact z0
     ·rw[List.getElem?_eq_none (by simp;omega)] at hz;cases hz
    have ei2:i - k.bans.length=0:=by rw[← x.blen];exact ei
    rw[ei] at hz
    rw[ei2] at hb
    have e1:t=z:=by simpa using hz
    have e2:(e.toNat,g.toNat)=b:=by simpa using hb
    subst e1 e2
    rw[k0p (Ne.symm hrt),k0p (Ne.symm htB),k0f]
    simp only[Int.toNat_of_nonneg he.1,Int.toNat_of_nonneg hg.1]
  ·exact getU b o eb fun z=>hO (by rw[z];simp[Own])
  ·rw[k0f]
   simp[x.blen]
end
end Ww
end
section
namespace Ww
open PySem PySem.Spec PyProof.Rows L2
open Vawctd (Known Edge Fact inRange)
theorem map_erase {α β:Type} (f:α->β):∀ (l:List α) (i:Nat),(l.map f).eraseIdx i=(l.eraseIdx i).map f
 | [],_=>rfl
 | _::_,0=>rfl
 | a::l,i+1=>by
  show f a::(l.map f).eraseIdx i=f a::(l.eraseIdx i).map f
  rw[map_erase f l i]
section
variable {P:Program} {w:World} {K:PySem.W.Frag} {mg:Str->Option Value} {base:Heap} {C:Addr}
abbrev s_take_out:Stmt:=top 102
theorem sc_take_out:FnScope ["things","k"] ["things","k"] (k0m s_take_out):=⟨rfl,rfl,rfl,by decide +kernel,rfl,by decide +kernel,by decide +kernel⟩
def sp_take_out:Sp:=fun vs H Q _=>∃ (l:Addr) (i:Int) (xs:List V),vs=[.ref l,.int i]∧H l=some (.lst xs)∧xs.length≤1000 ∧
 (inRange i 0 ((xs.length:Int) - 1)=false->∀ r,H r=none->Q (.ref r) (upd H r (.lst [.int (-3)]))) ∧
 (inRange i 0 ((xs.length:Int) - 1)=true->∀ r,H r=none->Q (.ref r) (upd (upd H l (.lst (xs.eraseIdx i.toNat))) r (.lst [.int 0,.int ((xs.length - 1:Nat):Int)])))
theorem ok_take_out (T:Txt K mg) (D:Dfn K mg "take_out" s_take_out ["things","k"]) (p_is_place:Prom P w K mg base 1 "is_place" ["number","things"] (sp_is_place K)):Prom P w K mg base 2 "take_out" ["things","k"] sp_take_out:=by
 refine D.prom sc_take_out (fun vs H Q E h=>?_) (fun f cdv A outer s H vs Q E hr h=>?_)
 ·obtain⟨_,_,_,rfl,_⟩:=h
  rfl
 ·obtain⟨l,i,xs,rfl,hl,hn,q1,q2⟩:=h
  refine⟨_,(k0e (ps_if (pt_not (k1r K rfl (k0u p_is_place (hr.mono (by decide)) rfl (k0a (pv 1) (k0a (pv 0) k0g))) (fun _=>rfl))) (k0j (k0q (k1g (k0a (k0y rfl T.c_NO_SUCH_NUMBER) k0g)))) k0z) (k0e (ps_expr (pe_bm PySem.F.plainAttrs_list PySem.F.slot_list_pop PySem.F.type_list_pop mt_popAt (pv 0) (k0a (pv 1) k0g))) (k0j (k0q (k1g (k0a k0n (k0a (k1a (lenK K rfl) (by rfl) T.n_len PySem.boot_len (k0a (pv 0) k0g)) k0g))))))),?_⟩
  refine⟨_,rfl,_,rfl,i,l,xs,rfl,SqL.of hl,_,rfl,?_⟩
  by_cases h1:inRange i 0 ((xs.length:Int) - 1)=true
  ·rw[h1]
   have hi:=k1j h1
   have hlt:i.toNat < xs.length:=by omega
   refine iteF ⟨_,rfl,.inl ⟨rfl,_,SqL.of hl⟩,_,rfl,l,xs,i,i.toNat,_,rfl,rfl,hl,(by omega),(by have:=hn;omega),?_,List.getElem?_eq_getElem hlt,?_⟩
   ·exact seqIndex_of hi.1 (by omega)
   ·refine⟨_,rfl,_,_,rfl,.inl (SqL.of k0f),(by show 2≤sizeLine;decide),fun r hr=>?_⟩
    have hrl:r≠l:=fun z=>by rw[z,k0f] at hr;cases hr
    rw[k0p hrl] at hr
    have e:(xs.eraseIdx i.toNat).length=xs.length - 1:=List.length_eraseIdx_of_lt hlt
    rw[e]
    exact q2 h1 r hr
  ·rw[eq_false_of_ne_true h1]
   exact iteT ⟨(by show 1≤sizeLine;decide),fun r hr=>q1 (eq_false_of_ne_true h1) r hr⟩
abbrev s_unfact:Stmt:=top 100
theorem sc_unfact:FnScope ["held","k"] ["held","k"] (k0m s_unfact):=⟨rfl,rfl,rfl,by decide +kernel,rfl,by decide +kernel,by decide +kernel⟩
def sp_unfact (C:Addr):Sp:=fun vs H Q _=>∃ (p:Addr) (i:Int) (k:Known) (h:HA),vs=[.ref p,.int i]∧HeldAt C H p k h∧Wf k∧Ans C p H h (Vawctd.step k (.unfact i)) Q
theorem ok_unfact (c:Cl K C) (D:Dfn K mg "unfact" s_unfact ["held","k"]) (p_take_out:Prom P w K mg base 2 "take_out" ["things","k"] sp_take_out):Prom P w K mg base 3 "unfact" ["held","k"] (sp_unfact C):=by
 refine D.prom sc_unfact (fun vs H Q E h=>?_) (fun f cdv A outer s H vs Q E hr h=>?_)
 ·obtain⟨_,_,_,_,rfl,_⟩:=h
  rfl
 ·obtain⟨p,i,k,h,rfl,x,wf,q⟩:=h
  refine⟨_,(k0j (k0q (k0u p_take_out (hr.mono (by decide)) rfl (k0a (k0v K rfl (pv 0) rfl) (k0a (pv 1) k0g))))),?_⟩
  have f6:=wf.f6
  refine⟨_,rfl,p,C,_,_,_,rfl,x.obj,c.cl,c.facts,hf_facts,_,rfl,h.aF,i,_,rfl,x.fa,(by rw[List.length_map,x.flen];omega),?_,?_⟩
  ·rw[List.length_map,x.flen]
   intro h1 r hr
   have e0:Vawctd.step k (.unfact i)=(k,[-3]):=by simp[Vawctd.step,h1]
   rw[e0] at q
   exact q.ask x Same.rfl' hr
  ·rw[List.length_map,x.flen]
   intro h1 r hr
   have e0:Vawctd.step k (.unfact i)=(Vawctd.withoutFact k i.toNat,[0,((k.facts.length - 1:Nat):Int)]):=by simp[Vawctd.step,h1,Vawctd.toInts]
   rw[e0] at q
   have hi:=k1j h1
   have hlt:i.toNat < k.facts.length:=by omega
   obtain⟨np,nf,nb⟩:=x.ne x.fa
   have nd:=x.nd
   simp only[List.nodup_cons,List.mem_cons,not_or,List.not_mem_nil,not_false_eq_true,List.nodup_nil,and_true] at nd
   have hrF:h.aF≠r:=k0h x.fa hr
   have getU:∀ b o,H b=some o->b≠h.aF->(upd (upd H h.aF (.lst ((h.fts.map fun z=>V.ref z.1).eraseIdx i.toNat))) r (.lst [.int 0,.int ((k.facts.length - 1:Nat):Int)])) b=some o:=fun b o eb hb=>by
    rw[k0p (k0h eb hr),k0p hb]
    exact eb
   refine q _ r { h with fts:=h.fts.eraseIdx i.toNat } ⟨⟨?_,?_,?_,?_,?_,?_,?_,?_,x.blen,?_,?_,x.nd,fun z hz=>x.fnd z (List.mem_of_mem_eraseIdx hz)⟩,fun b o eb hb hO=>?_,fun y hy=>?_⟩ hr k0f
   ·exact getU _ _ x.obj np
   ·exact getU _ _ x.lv (fun z=>nd.1.2.2.2.1 z)
   ·exact getU _ _ x.cm (fun z=>nd.2.1.2.2.1 z)
   ·exact getU _ _ x.co (fun z=>nd.2.2.1.2.1 z)
   ·exact getU _ _ x.mo (fun z=>nd.2.2.2.1.1 z)
   ·rw[k0p hrF,k0f,map_erase]
   ·exact getU _ _ x.ba (fun z=>nd.2.2.2.2 z.symm)
   ·show (h.fts.eraseIdx i.toNat).length=(k.facts.eraseIdx i.toNat).length
    rw[List.length_eraseIdx_of_lt (by rw[x.flen];exact hlt),List.length_eraseIdx_of_lt hlt,x.flen]
   ·intro j z f hz hf'
    have hz:(h.fts.eraseIdx i.toNat)[j]?=some z:=hz
    have hf':(k.facts.eraseIdx i.toNat)[j]?=some f:=hf'
    rw[List.getElem?_eraseIdx] at hz hf'
    have hm:z∈h.fts:=by split at hz<;>exact List.mem_of_getElem? hz
    have both:∃ j':Nat,h.fts[j']?=some z∧k.facts[j']?=some f:=by
     by_cases hj:j < i.toNat
     ·rw[if_pos hj] at hz hf'
      exact⟨j,hz,hf'⟩
     ·rw[if_neg hj] at hz hf'
      exact⟨j+1,hz,hf'⟩
    obtain⟨j',a1,a2⟩:=both
    exact⟨getU _ _ (x.fats j' z f a1 a2).1 (nf z hm),getU _ _ (x.fats j' z f a1 a2).2 (x.fnd z hm).2.2.1⟩
   ·intro j z b hz hb
    exact getU _ _ (x.bats j z b hz hb) (nb z (List.mem_of_getElem? hz))
   ·exact getU b o eb fun z=>hO (by rw[z];simp[Own])
   ·left
    unfold Own at hy ⊢
    rw[List.mem_append] at hy ⊢
    rcases hy with hy|hy
    ·exact .inl hy
    ·right
     obtain⟨z,hz,e⟩:=List.mem_map.mp hy
     exact List.mem_map.mpr ⟨z,List.mem_of_mem_eraseIdx hz,e⟩
abbrev s_unban:Stmt:=top 101
theorem sc_unban:FnScope ["held","k"] ["held","k"] (k0m s_unban):=⟨rfl,rfl,rfl,by decide +kernel,rfl,by decide +kernel,by decide +kernel⟩
def sp_unban (C:Addr):Sp:=fun vs H Q _=>∃ (p:Addr) (i:Int) (k:Known) (h:HA),vs=[.ref p,.int i]∧HeldAt C H p k h∧Wf k∧Ans C p H h (Vawctd.step k (.unban i)) Q
theorem ok_unban (c:Cl K C) (D:Dfn K mg "unban" s_unban ["held","k"]) (p_take_out:Prom P w K mg base 2 "take_out" ["things","k"] sp_take_out):Prom P w K mg base 3 "unban" ["held","k"] (sp_unban C):=by
 refine D.prom sc_unban (fun vs H Q E h=>?_) (fun f cdv A outer s H vs Q E hr h=>?_)
 ·obtain⟨_,_,_,_,rfl,_⟩:=h
  rfl
 ·obtain⟨p,i,k,h,rfl,x,wf,q⟩:=h
  refine⟨_,(k0j (k0q (k0u p_take_out (hr.mono (by decide)) rfl (k0a (k0v K rfl (pv 0) rfl) (k0a (pv 1) k0g))))),?_⟩
  have b4:=wf.b4
  refine⟨_,rfl,p,C,_,_,_,rfl,x.obj,c.cl,c.bans,hf_bans,_,rfl,h.aB,i,_,rfl,x.ba,(by rw[List.length_map,x.blen];omega),?_,?_⟩
  ·rw[List.length_map,x.blen]
   intro h1 r hr
   have e0:Vawctd.step k (.unban i)=(k,[-3]):=by simp[Vawctd.step,h1]
   rw[e0] at q
   exact q.ask x Same.rfl' hr
  ·rw[List.length_map,x.blen]
   intro h1 r hr
   have e0:Vawctd.step k (.unban i)=({ k with bans:=k.bans.eraseIdx i.toNat },[0,((k.bans.length - 1:Nat):Int)]):=by simp[Vawctd.step,h1,Vawctd.toInts]
   rw[e0] at q
   have hi:=k1j h1
   have hlt:i.toNat < k.bans.length:=by omega
   obtain⟨np,nf,nb⟩:=x.ne x.ba
   have nd:=x.nd
   simp only[List.nodup_cons,List.mem_cons,not_or,List.not_mem_nil,not_false_eq_true,List.nodup_nil,and_true] at nd
   have hrB:h.aB≠r:=k0h x.ba hr
   have getU:∀ b o,H b=some o->b≠h.aB->(upd (upd H h.aB (.lst ((h.bts.map V.ref).eraseIdx i.toNat))) r (.lst [.int 0,.int ((k.bans.length - 1:Nat):Int)])) b=some o:=fun b o eb hb=>by
    rw[k0p (k0h eb hr),k0p hb]
    exact eb
   refine q _ r { h with bts:=h.bts.eraseIdx i.toNat } ⟨⟨?_,?_,?_,?_,?_,?_,?_,x.flen,?_,?_,?_,x.nd,x.fnd⟩,fun b o eb hb hO=>?_,fun y hy=>.inl hy⟩ hr k0f
   ·exact getU _ _ x.obj np
   ·exact getU _ _ x.lv (fun z=>nd.1.2.2.2.2 z)
   ·exact getU _ _ x.cm (fun z=>nd.2.1.2.2.2 z)
   ·exact getU _ _ x.co (fun z=>nd.2.2.1.2.2 z)
   ·exact getU _ _ x.mo (fun z=>nd.2.2.2.1.2 z)
   ·exact getU _ _ x.fa (fun z=>nd.2.2.2.2 z)
   ·rw[k0p hrB,k0f,map_erase]
   ·show (h.bts.eraseIdx i.toNat).length=(k.bans.eraseIdx i.toNat).length
    rw[List.length_eraseIdx_of_lt (by rw[x.blen];exact hlt),List.length_eraseIdx_of_lt hlt,x.blen]
   ·intro j z f hz hf'
    have hm:=List.mem_of_getElem? hz
    exact⟨getU _ _ (x.fats j z f hz hf').1 (nf z hm),getU _ _ (x.fats j z f hz hf').2 (x.fnd z hm).2.2.2⟩
   ·intro j z b hz hb
    have hz:(h.bts.eraseIdx i.toNat)[j]?=some z:=hz
    have hb:(k.bans.eraseIdx i.toNat)[j]?=some b:=hb
    rw[List.getElem?_eraseIdx] at hz hb
    by_cases hj:j < i.toNat
    ·rw[if_pos hj] at hz hb
     exact getU _ _ (x.bats j z b hz hb) (nb z (List.mem_of_getElem? hz))
    ·rw[if_neg hj] at hz hb
     exact getU _ _ (x.bats (j+1) z b hz hb) (nb z (List.mem_of_getElem? hz))
   ·exact getU b o eb fun z=>hO (by rw[z];simp[Own])
abbrev s_fact:Stmt:=top 98
theorem sc_fact:FnScope ["held","row"] ["held","row"] (k0m s_fact):=⟨rfl,rfl,rfl,by decide +kernel,rfl,by decide +kernel,by decide +kernel⟩
def sp_fact (K:PySem.W.Frag) (C:Addr):Sp:=fun vs H Q _=>∃ (p a:Addr) (ns:List Int) (k:Known) (h:HA),vs=[.ref p,.ref a]∧HeldAt C H p k h∧Wf k∧SqL K H a (ns.map V.int)∧ns.length≤100000∧Ans C p H h (Vawctd.step k (.fact ns)) Q
theorem readFact_some {k:Known} {ns:List Int} (h:(Vawctd.readFact k ns).isSome=true):Vawctd.readFact k ns=some { mults:=ns.dropLast,bound:=ns.getLastD 0 }∧ns.length=k.edges.length+1:=by
 unfold Vawctd.readFact at h ⊢
 split at h
 ·rename_i q
  rw[if_pos q]
  exact⟨rfl,q.1⟩
 ·cases h
theorem ok_fact (T:Txt K mg) (c:Cl K C) (D:Dfn K mg "fact" s_fact ["held","row"]) (p_is_fact_row:Prom P w K mg base 2 "is_fact_row" ["held","row"] (sp_is_fact_row K C)):Prom P w K mg base 3 "fact" ["held","row"] (sp_fact K C):=by
 refine D.prom sc_fact (fun vs H Q E h=>?_) (fun f cdv A outer s H vs Q E hr h=>?_)
 ·obtain⟨_,_,_,_,_,rfl,_⟩:=h
  rfl
 ·obtain⟨p,a,ns,k,h,rfl,x,wf,hx,hn,q⟩:=h
  refine⟨_,(k0e (ps_if (pt_not (k1r K rfl (k0u p_is_fact_row (hr.mono (by decide)) rfl (k0a (pv 0) (k0a (pv 1) k0g))) (fun _=>rfl))) (k0j (k0q (k1g (k0a (k0y rfl T.c_WRONG_ROW) k0g)))) k0z) (k0e (ps_if (k0x op_eq (k1a (lenK K rfl) (by rfl) T.n_len PySem.boot_len (k0a (k0v K rfl (pv 0) rfl) k0g)) (k0y rfl T.c_MOST_FACTS) (k1e _)) (k0j (k0q (k1g (k0a (k0y rfl T.c_NO_ROOM) k0g)))) k0z) (k0e (ps_expr (pe_bm PySem.F.plainAttrs_list PySem.F.slot_list_append PySem.F.type_list_append mt_append (k0v K rfl (pv 0) rfl) (k0a (pe_tup (k0a (pe_slice (slK_list K rfl) (pv 1) po_none (po_some (pe_un un_neg k0n))) (k0a (pe_ix (k0w K rfl) (pv 1) (pe_un un_neg k0n) (fun _ _=>rfl)) k0g))) k0g))) (k0j (k0q (k1g (k0a k0n (k0a (k1a (lenK K rfl) (by rfl) T.n_len PySem.boot_len (k0a (k0v K rfl (pv 0) rfl) k0g)) k0g)))))))),?_⟩
  refine⟨_,rfl,_,rfl,p,a,ns,k,h,rfl,x,hx,Nat.le_trans hn (by decide),fun H1 s1=>⟨_,rfl,?_⟩⟩
  have x1:=x.same s1
  by_cases h1:(Vawctd.readFact k ns).isSome=true
  case neg =>
   rw[eq_false_of_ne_true h1]
   have e1:Vawctd.readFact k ns=none:=by
    cases q:Vawctd.readFact k ns with
    | none=>rfl
    | some f=>rw[q] at h1;exact (h1 rfl).elim
   have e0:Vawctd.step k (.fact ns)=(k,[-12]):=by simp[Vawctd.step,e1]
   rw[e0] at q
   exact iteT ⟨(by show 1≤sizeLine;decide),fun r hr=>q.ask x s1 hr⟩
  rw[h1]
  obtain⟨e1,hl1⟩:=readFact_some h1
  have f6:=wf.f6
  refine iteF ⟨_,rfl,p,C,_,_,_,rfl,x1.obj,c.cl,c.facts,hf_facts,_,_,rfl,.inl (SqL.of x1.fa),rfl,_,rfl,?_⟩
  rw[k1u,List.length_map,x.flen]
  by_cases h4:k.facts.length=6
  ·rw[decide_eq_true (p:=(k.facts.length:Int)=6) (by omega)]
   have e0:Vawctd.step k (.fact ns)=(k,[-9]):=by simp[Vawctd.step,e1,h4,Vawctd.FACTS]
   rw[e0] at q
   exact iteT ⟨(by show 1≤sizeLine;decide),fun r hr=>q.ask x s1 hr⟩
  rw[decide_eq_false (p:=(k.facts.length:Int)=6) (by omega)]
  have e0:Vawctd.step k (.fact ns)=({ k with facts:=k.facts++[{ mults:=ns.dropLast,bound:=ns.getLastD 0 }] },[0,((k.facts.length+1:Nat):Int)]):=by
   have:¬ (6≤k.facts.length):=by omega
   simp[Vawctd.step,e1,this,Vawctd.FACTS,Vawctd.toInts]
  rw[e0] at q
  have hp:0 < ns.length:=by omega
  refine iteF ⟨_,rfl,p,C,_,_,_,rfl,x1.obj,c.cl,c.facts,hf_facts,.inl ⟨rfl,_,SqL.of x1.fa⟩,_,rfl,_,rfl,_,rfl,a,_,rfl,s1.seq hx,fun l hl=>?_⟩
  rw[cut_front _ (by rw[List.length_map];exact hp),← List.map_dropLast]
  have s2:Same H (upd H1 l (.lst (ns.dropLast.map V.int))):=s1.grow hl
  refine⟨_,rfl,_,rfl,a,_,_,_,rfl,rfl,s2.seq hx,at_last ns hp,(by show 2≤sizeLine;decide),fun t ht=>?_⟩
  have s3:Same H (upd (upd H1 l (.lst (ns.dropLast.map V.int))) t (.tup [.ref l,.int (ns.getLastD 0)])):=s2.grow ht
  have x3:=x.same s3
  refine⟨h.aF,_,_,rfl,rfl,x3.fa,(by rw[List.length_map,x.flen];exact Nat.lt_of_le_of_lt f6 (by decide)),?_⟩
  generalize hH3:upd (upd H1 l (.lst (ns.dropLast.map V.int))) t (.tup [.ref l,.int (ns.getLastD 0)])=H3 at s3 x3
  have ht3:H3 t=some (.tup [.ref l,.int (ns.getLastD 0)]):=by rw[← hH3];exact k0f
  have hlt:l≠t:=fun z=>by rw[z] at ht;rw[k0f] at ht;cases ht
  have hl3:H3 l=some (.lst (ns.dropLast.map V.int)):=by rw[← hH3,k0p hlt,k0f]
  have hln:H l=none:=s1.free hl
  obtain⟨np,nf,nb⟩:=x3.ne x3.fa
  have nd:=x.nd
  simp only[List.nodup_cons,List.mem_cons,not_or,List.not_mem_nil,not_false_eq_true,List.nodup_nil,and_true] at nd
  refine⟨_,rfl,p,C,_,_,_,rfl,(by rw[k0p np];exact x3.obj),c.cl,c.facts,hf_facts,_,_,rfl,.inl (SqL.of k0f),(by show 2≤sizeLine;decide),fun r hr=>?_⟩
  have hrF:r≠h.aF:=fun z=>by rw[z,k0f] at hr;cases hr
  rw[k0p hrF] at hr
  have getU:∀ b o,H3 b=some o->b≠h.aF->(upd (upd H3 h.aF (.lst ((h.fts.map fun z=>V.ref z.1)++[.ref t]))) r (.lst [.int 0,.int (((h.fts.map fun z=>V.ref z.1)++[V.ref t]).length:Nat)])) b=some o:=fun b o eb hb=>by
   rw[k0p (k0h eb hr),k0p hb]
   exact eb
  have lne:∀ y o,H y=some o->l≠y:=fun y o e z=>by rw[← z,hln] at e;cases e
  refine q _ r { h with fts:=h.fts++[(t,l)] } ⟨⟨?_,?_,?_,?_,?_,?_,?_,?_,x.blen,?_,?_,x.nd,?_⟩,fun b o eb hb hO=>?_,fun y hy=>?_⟩ (s3.free hr) ?_
  ·exact getU _ _ x3.obj np
  ·exact getU _ _ x3.lv (fun z=>nd.1.2.2.2.1 z)
  ·exact getU _ _ x3.cm (fun z=>nd.2.1.2.2.1 z)
  ·exact getU _ _ x3.co (fun z=>nd.2.2.1.2.1 z)
  ·exact getU _ _ x3.mo (fun z=>nd.2.2.2.1.1 z)
  ·rw[k0p (Ne.symm hrF),k0f,List.map_append];rfl
  ·exact getU _ _ x3.ba (fun z=>nd.2.2.2.2 z.symm)
  ·simp[x.flen]
  ·intro i z f hz hf'
   have hz:(h.fts++[(t,l)])[i]?=some z:=hz
   have hf':(k.facts++[{ mults:=ns.dropLast,bound:=ns.getLastD 0 }])[i]?=some f:=hf'
   by_cases hi:i < h.fts.length
   ·rw[List.getElem?_append_left hi] at hz
    rw[List.getElem?_append_left (by rw[← x.flen];exact hi)] at hf'
    have hm:=List.mem_of_getElem? hz
    exact⟨getU _ _ (x3.fats i z f hz hf').1 (nf z hm),getU _ _ (x3.fats i z f hz hf').2 (x.fnd z hm).2.2.1⟩
   ·rw[List.getElem?_append_right (by omega)] at hz
    rw[List.getElem?_append_right (by rw[← x.flen];omega)] at hf'
    have ei:i - h.fts.length=0:=by
     rcases Nat.eq_zero_or_pos (i - h.fts.length) with z0|z0
     ·exact z0
     ·rw[List.getElem?_eq_none (by simp;omega)] at hz;cases hz
    have ei2:i - k.facts.length=0:=by rw[← x.flen];exact ei
    rw[ei] at hz
    rw[ei2] at hf'
    have e1:(t,l)=z:=by simpa using hz
    have e2:({ mults:=ns.dropLast,bound:=ns.getLastD 0 }:Fact)=f:=by simpa using hf'
    subst e1 e2
    exact⟨getU _ _ ht3 (ne_of ht3 x3.fa (by intro q;cases q)),getU _ _ hl3 (lne _ _ x.fa)⟩
  ·intro i z b hz hb
   exact getU _ _ (x3.bats i z b hz hb) (nb z (List.mem_of_getElem? hz))
  ·intro z hz
   rcases List.mem_append.mp hz with hz|hz
   ·exact x.fnd z hz
   ·have e1:z=(t,l):=by simpa using hz
    subst e1
    exact⟨lne _ _ x.co,lne _ _ x.mo,lne _ _ x.fa,lne _ _ x.ba⟩
  ·exact getU b o (s3 _ _ eb) fun z=>hO (by rw[z];simp[Own])
  ·unfold Own at hy ⊢
   rw[List.map_append,← List.append_assoc] at hy
   rcases List.mem_append.mp hy with hy|hy
   ·exact .inl hy
   ·right
    have e1:y=l:=by simpa using hy
    rw[e1];exact hln
  ·rw[k0f]
   simp[x.flen]
end
end Ww
end
section
namespace Ww
open PySem PySem.Spec PyProof.Rows L2
open Vawctd (Known Edge Fact inRange)
def But (p:Addr) (H H':Hp):Prop:=∀ b o,H b=some o->b≠p->H' b=some o
theorem But.trans {p:Addr} {H H1 H2:Hp} (a:But p H H1) (b:But p H1 H2):But p H H2:=fun c o e n=>b c o (a c o e n) n
theorem But.seq {K:PySem.W.Frag} {p a C dx:Addr} {H H':Hp} {fs:List (Str × V)} {xs:List V} (k:But p H H') (hp:H p=some (.ins C dx fs)) (h:SqL K H a xs):SqL K H' a xs:=by
 rcases h with (h|⟨o,h⟩)|h
 ·exact .inl (.inl (k _ _ h (ne_of h hp (by intro q;cases q))))
 ·exact .inl (.inr ⟨o,k _ _ h (ne_of h hp (by intro q;cases q))⟩)
 ·exact .inr h
theorem fld_new {p l C dx:Addr} {H:Hp} {fs fs':List (Str × V)} {v:List V} (hp:H p=some (.ins C dx fs)) (hl:H l=none) :
  But p H (upd (upd H l (.lst v)) p (.ins C dx fs'))∧(upd (upd H l (.lst v)) p (.ins C dx fs')) p=some (.ins C dx fs')∧(upd (upd H l (.lst v)) p (.ins C dx fs')) l=some (.lst v)∧l≠p:=by
 have hlp:l≠p:=Ne.symm (k0h hp hl)
 refine⟨fun b o e n=>?_,k0f,?_,hlp⟩
 ·rw[k0p n,k0p (k0h e hl)];exact e
 ·rw[k0p hlp,k0f]
theorem fld_put {p C dx:Addr} {H:Hp} {fs':List (Str × V)}:But p H (upd H p (.ins C dx fs')):=fun b o e n=>by rw[k0p n];exact e
section
variable {P:Program} {w:World} {K:PySem.W.Frag} {mg:Str->Option Value} {base:Heap} {C:Addr}
abbrev s_graph:Stmt:=top 97
theorem sc_graph:FnScope ["held","row"] ["held","row"] (k0m s_graph):=⟨rfl,rfl,rfl,by decide +kernel,rfl,by decide +kernel,by decide +kernel⟩
def sp_graph (K:PySem.W.Frag) (C:Addr):Sp:=fun vs H Q _=>∃ (p a:Addr) (ns:List Int) (k:Known) (h:HA),vs=[.ref p,.ref a]∧HeldAt C H p k h∧SqL K H a (ns.map V.int)∧ns.length≤100000∧Ans C p H h (Vawctd.step k (.graph ns)) Q
theorem ok_graph (T:Txt K mg) (c:Cl K C) (D:Dfn K mg "graph" s_graph ["held","row"]) (p_is_graph_row:Prom P w K mg base 2 "is_graph_row" ["row"] (sp_is_graph_row K)):Prom P w K mg base 3 "graph" ["held","row"] (sp_graph K C):=by
 refine D.prom sc_graph (fun vs H Q E h=>?_) (fun f cdv A outer s H vs Q E hr h=>?_)
 ·obtain⟨_,_,_,_,_,rfl,_⟩:=h
  rfl
 ·obtain⟨p,a,ns,k,h,rfl,x,hx,hn,q⟩:=h
  refine⟨_,(k0e (ps_if (pt_not (k1r K rfl (k0u p_is_graph_row (hr.mono (by decide)) rfl (k0a (pv 1) k0g)) (fun _=>rfl))) (k0j (k0q (k1g (k0a (k0y rfl T.c_WRONG_ROW) k0g)))) k0z) (k0e (ps_fld (pv 0) (pe_ix (k0w K rfl) (pv 1) k0n (fun _ _=>rfl)) rfl) (k0e (ps_fld (pv 0) (pe_slice3K K rfl (pv 1) (po_some k0n) po_none (k0y rfl T.c_EDGE_NUMBERS)) rfl) (k0e (ps_fld (pv 0) (pe_slice3K K rfl (pv 1) (po_some k0n) po_none (k0y rfl T.c_EDGE_NUMBERS)) rfl) (k0e (ps_fld (pv 0) (pe_slice3K K rfl (pv 1) (po_some k0n) po_none (k0y rfl T.c_EDGE_NUMBERS)) rfl) (k0e (ps_fld (pv 0) (pe_slice3K K rfl (pv 1) (po_some k0n) po_none (k0y rfl T.c_EDGE_NUMBERS)) rfl) (k0e (ps_fld (pv 0) (k1g k0g) rfl) (k0e (ps_fld (pv 0) (k1g k0g) rfl) (k0j (k0q (k1g (k0a k0n (k0a (k0v K rfl (pv 0) rfl) (k0a (k1a (lenK K rfl) (by rfl) T.n_len PySem.boot_len (k0a (k0v K rfl (pv 0) rfl) k0g)) k0g)))))))))))))),?_⟩
  refine⟨_,rfl,a,ns,rfl,hx,hn,fun H0 s0=>⟨_,rfl,?_⟩⟩
  by_cases h1:graphOk ns=true
  case neg =>
   rw[eq_false_of_ne_true h1]
   have e0:Vawctd.step k (.graph ns)=(k,[-12]):=by simp[Vawctd.step,readGraph_none (eq_false_of_ne_true h1)]
   rw[e0] at q
   exact iteT ⟨(by show 1≤sizeLine;decide),fun r hr=>q.ask x s0 hr⟩
  rw[h1]
  obtain⟨k',n,r,rfl,eg,en,hn2,hn8,F,ef,eb,hl1,hl16,hw⟩:=readGraph_some h1
  have e0:Vawctd.step k (.graph (n::r))=(k',[0,(k'.nodes:Int),(k'.edges.length:Int)]):=by simp[Vawctd.step,eg,Vawctd.toInts]
  rw[e0] at q
  have x0:=x.same s0
  have hx0:=s0.seq hx
  have hat:atI ((n::r).map V.int) 0=some (V.int n):=k1n (j:=0) rfl
  refine iteF ⟨_,rfl,a,_,_,_,rfl,rfl,hx0,hat,_,rfl,p,C,_,_,rfl,x0.obj,c.cl,c.nodes,hf_len,?_⟩
  rw[pf_nodes]
  generalize hH1:upd H0 p (.ins C h.dx (hf n h.aL h.aC h.aK h.aM h.aF h.aB))=H1
  have k1:But p H0 H1:=by rw[← hH1];exact fld_put
  have o1:H1 p=some (.ins C h.dx (hf n h.aL h.aC h.aK h.aM h.aF h.aB)):=by rw[← hH1];exact k0f
  have hx1:=k1.seq x0.obj hx0
  refine⟨_,rfl,_,rfl,a,_,1,4,rfl,rfl,rfl,rfl,(by decide),hx1,fun l1 hl1=>?_⟩
  rw[stepV_int,stepL_cons _ _ 0 4 (by decide)]
  refine⟨_,rfl,p,C,_,_,rfl,(by rw[k0p (k0h o1 hl1)];exact o1),c.cl,c.leaves,hf_len,?_⟩
  rw[pf_leaves]
  obtain⟨k2,o2,v2,n2⟩:=fld_new (fs':=hf n l1 h.aC h.aK h.aM h.aF h.aB) (v:=(stepL r 0 4).map V.int) o1 hl1
  generalize hH2:upd (upd H1 l1 (.lst ((stepL r 0 4).map V.int))) p (.ins C h.dx (hf n l1 h.aC h.aK h.aM h.aF h.aB))=H2 at k2 o2 v2
  have hx2:=k2.seq o1 hx1
  refine⟨_,rfl,_,rfl,a,_,2,4,rfl,rfl,rfl,rfl,(by decide),hx2,fun l2 hl2=>?_⟩
  rw[stepV_int,stepL_cons _ _ 1 4 (by decide)]
  refine⟨_,rfl,p,C,_,_,rfl,(by rw[k0p (k0h o2 hl2)];exact o2),c.cl,c.comes,hf_len,?_⟩
  rw[pf_comes]
  obtain⟨k3,o3,v3,n3⟩:=fld_new (fs':=hf n l1 l2 h.aK h.aM h.aF h.aB) (v:=(stepL r 1 4).map V.int) o2 hl2
  generalize hH3:upd (upd H2 l2 (.lst ((stepL r 1 4).map V.int))) p (.ins C h.dx (hf n l1 l2 h.aK h.aM h.aF h.aB))=H3 at k3 o3 v3
  have hx3:=k3.seq o2 hx2
  refine⟨_,rfl,_,rfl,a,_,3,4,rfl,rfl,rfl,rfl,(by decide),hx3,fun l3 hl3=>?_⟩
  rw[stepV_int,stepL_cons _ _ 2 4 (by decide)]
  refine⟨_,rfl,p,C,_,_,rfl,(by rw[k0p (k0h o3 hl3)];exact o3),c.cl,c.costs,hf_len,?_⟩
  rw[pf_costs]
  obtain⟨k4,o4,v4,n4⟩:=fld_new (fs':=hf n l1 l2 l3 h.aM h.aF h.aB) (v:=(stepL r 2 4).map V.int) o3 hl3
  generalize hH4:upd (upd H3 l3 (.lst ((stepL r 2 4).map V.int))) p (.ins C h.dx (hf n l1 l2 l3 h.aM h.aF h.aB))=H4 at k4 o4 v4
  have hx4:=k4.seq o3 hx3
  refine⟨_,rfl,_,rfl,a,_,4,4,rfl,rfl,rfl,rfl,(by decide),hx4,fun l4 hl4=>?_⟩
  rw[stepV_int,stepL_cons _ _ 3 4 (by decide)]
  refine⟨_,rfl,p,C,_,_,rfl,(by rw[k0p (k0h o4 hl4)];exact o4),c.cl,c.mosts,hf_len,?_⟩
  rw[pf_mosts]
  obtain⟨k5,o5,v5,n5⟩:=fld_new (fs':=hf n l1 l2 l3 l4 h.aF h.aB) (v:=(stepL r 3 4).map V.int) o4 hl4
  generalize hH5:upd (upd H4 l4 (.lst ((stepL r 3 4).map V.int))) p (.ins C h.dx (hf n l1 l2 l3 l4 h.aF h.aB))=H5 at k5 o5 v5
  refine⟨Nat.zero_le _,fun l5 hl5=>⟨_,rfl,p,C,_,_,rfl,(by rw[k0p (k0h o5 hl5)];exact o5),c.cl,c.facts,hf_len,?_⟩⟩
  rw[pf_facts]
  obtain⟨k6,o6,v6,n6⟩:=fld_new (fs':=hf n l1 l2 l3 l4 l5 h.aB) (v:=[]) o5 hl5
  generalize hH6:upd (upd H5 l5 (.lst [])) p (.ins C h.dx (hf n l1 l2 l3 l4 l5 h.aB))=H6 at k6 o6 v6
  refine⟨Nat.zero_le _,fun l6 hl6=>⟨_,rfl,p,C,_,_,rfl,(by rw[k0p (k0h o6 hl6)];exact o6),c.cl,c.bans,hf_len,?_⟩⟩
  rw[pf_bans]
  obtain⟨k7,o7,v7,n7⟩:=fld_new (fs':=hf n l1 l2 l3 l4 l5 l6) (v:=[]) o6 hl6
  generalize hH7:upd (upd H6 l6 (.lst [])) p (.ins C h.dx (hf n l1 l2 l3 l4 l5 l6))=H7 at k7 o7 v7
  have w6:=k7 _ _ v6 n6
  have w5:=k7 _ _ (k6 _ _ v5 n5) n5
  have w4:=k7 _ _ (k6 _ _ (k5 _ _ v4 n4) n4) n4
  have w3:=k7 _ _ (k6 _ _ (k5 _ _ (k4 _ _ v3 n3) n3) n3) n3
  have w2:=k7 _ _ (k6 _ _ (k5 _ _ (k4 _ _ (k3 _ _ v2 n2) n2) n2) n2) n2
  refine⟨_,rfl,p,C,_,_,_,rfl,o7,c.cl,c.nodes,hf_nodes,_,rfl,p,C,_,_,_,rfl,o7,c.cl,c.costs,hf_costs,_,_,rfl,.inl (SqL.of w4),(by show 3≤sizeLine;decide),fun rr hrr=>?_⟩
  have s7:Same H7 (upd H7 rr (.lst [.int 0,.int n,.int (((stepL r 2 4).map V.int).length:Nat)])):=Same.new hrr
  have nn:(n:Int)=(k'.nodes:Int):=by rw[en];omega
  have f1:H0 l1=none:=by
   cases e:H0 l1 with
   | none=>rfl
   | some o=>rw[k1 _ _ e n2] at hl1;cases hl1
  have f2:H0 l2=none:=by
   cases e:H0 l2 with
   | none=>rfl
   | some o=>rw[k2 _ _ (k1 _ _ e n3) n3] at hl2;cases hl2
  have f3:H0 l3=none:=by
   cases e:H0 l3 with
   | none=>rfl
   | some o=>rw[k3 _ _ (k2 _ _ (k1 _ _ e n4) n4) n4] at hl3;cases hl3
  have f4:H0 l4=none:=by
   cases e:H0 l4 with
   | none=>rfl
   | some o=>rw[k4 _ _ (k3 _ _ (k2 _ _ (k1 _ _ e n5) n5) n5) n5] at hl4;cases hl4
  have f5:H0 l5=none:=by
   cases e:H0 l5 with
   | none=>rfl
   | some o=>rw[k5 _ _ (k4 _ _ (k3 _ _ (k2 _ _ (k1 _ _ e n6) n6) n6) n6) n6] at hl5;cases hl5
  have f6:H0 l6=none:=by
   cases e:H0 l6 with
   | none=>rfl
   | some o=>rw[k6 _ _ (k5 _ _ (k4 _ _ (k3 _ _ (k2 _ _ (k1 _ _ e n7) n7) n7) n7) n7) n7] at hl6;cases hl6
  have frr:H rr=none:=by
   have nrp:rr≠p:=Ne.symm (k0h o7 hrr)
   refine s0.free ?_
   cases e:H0 rr with
   | none=>rfl
   | some o=>rw[k7 _ _ (k6 _ _ (k5 _ _ (k4 _ _ (k3 _ _ (k2 _ _ (k1 _ _ e nrp) nrp) nrp) nrp) nrp) nrp) nrp] at hrr;cases hrr
  have g12:l1≠l2:=k0h v2 hl2
  have g13:l1≠l3:=k0h (k3 _ _ v2 n2) hl3
  have g14:l1≠l4:=k0h (k4 _ _ (k3 _ _ v2 n2) n2) hl4
  have g15:l1≠l5:=k0h (k5 _ _ (k4 _ _ (k3 _ _ v2 n2) n2) n2) hl5
  have g16:l1≠l6:=k0h (k6 _ _ (k5 _ _ (k4 _ _ (k3 _ _ v2 n2) n2) n2) n2) hl6
  have g23:l2≠l3:=k0h v3 hl3
  have g24:l2≠l4:=k0h (k4 _ _ v3 n3) hl4
  have g25:l2≠l5:=k0h (k5 _ _ (k4 _ _ v3 n3) n3) hl5
  have g26:l2≠l6:=k0h (k6 _ _ (k5 _ _ (k4 _ _ v3 n3) n3) n3) hl6
  have g34:l3≠l4:=k0h v4 hl4
  have g35:l3≠l5:=k0h (k5 _ _ v4 n4) hl5
  have g36:l3≠l6:=k0h (k6 _ _ (k5 _ _ v4 n4) n4) hl6
  have g45:l4≠l5:=k0h v5 hl5
  have g46:l4≠l6:=k0h (k6 _ _ v5 n5) hl6
  have g56:l5≠l6:=k0h v6 hl6
  refine q _ rr ⟨h.dx,l1,l2,l3,l4,l5,l6,[],[]⟩ ⟨⟨?_,?_,?_,?_,?_,?_,?_,?_,?_,?_,?_,?_,?_⟩,fun b o e hb hO=>?_,fun y hy=>?_⟩ frr ?_
  ·rw[← nn];exact s7 _ _ o7
  ·rw[← F.s];exact s7 _ _ w2
  ·rw[← F.d];exact s7 _ _ w3
  ·rw[← F.c];exact s7 _ _ w4
  ·rw[← F.m];exact s7 _ _ w5
  ·exact s7 _ _ w6
  ·exact s7 _ _ v7
  ·rw[ef];rfl
  ·rw[eb];rfl
  ·intro i z f hz;simp at hz
  ·intro i z f hz;simp at hz
  ·simp[g12,g13,g14,g15,g16,g23,g24,g25,g26,g34,g35,g36,g45,g46,g56]
  ·intro z hz;simp at hz
  ·exact s7 _ _ (k7 _ _ (k6 _ _ (k5 _ _ (k4 _ _ (k3 _ _ (k2 _ _ (k1 _ _ (s0 _ _ e) hb) hb) hb) hb) hb) hb) hb)
  ·right
   have hy:y=l1∨y=l2∨y=l3∨y=l4∨y=l5∨y=l6:=by simpa [Own] using hy
   rcases hy with rfl|rfl|rfl|rfl|rfl|rfl
   ·exact s0.free f1
   ·exact s0.free f2
   ·exact s0.free f3
   ·exact s0.free f4
   ·exact s0.free f5
   ·exact s0.free f6
  ·rw[k0f,nn,F.c]
   simp
end
end Ww
end
section
namespace Ww
open PySem PySem.Spec PyProof.Rows L2
open Vawctd (Known Edge Fact inRange)
section
variable {P:Program} {w:World} {K:PySem.W.Frag} {mg:Str->Option Value} {base:Heap} {C:Addr}
abbrev s_init:Stmt:=inClass (top 22) 0
theorem sc_init:FnScope ["self"] ["self"] (k0m s_init):=⟨rfl,rfl,rfl,by decide +kernel,rfl,by decide +kernel,by decide +kernel⟩
def sp_init (C:Addr):Sp:=fun vs H Q _=>∃ (p dx:Addr),vs=[.ref p]∧H p=some (.ins C dx [])∧∀ (H':Hp) (h:HA),HeldAt C H' p Vawctd.start h->But p H H'->(∀ y∈Own h,H y=none)->Q .non H'
theorem putF_end {f:Str} {v:V}:putF f v []=[(f,v)]:=rfl
theorem ok_init {f:Addr} {fd:FuncData} (c:Cl K C) (F:Fun K "__init__" "Held.__init__" s_init f fd):FnOk P w K mg base CX0 1 f fd ["self"] (sp_init C):=by
 refine F.ok sc_init (fun vs H Q E h=>?_) (fun cdv A outer s H0 vs Q E hr h=>?_)
 ·obtain⟨_,_,rfl,_⟩:=h
  rfl
 ·obtain⟨p,dx,rfl,o0,q⟩:=h
  refine⟨_,k0e (ps_fld (pv 0) k0n rfl) (k0e (ps_fld (pv 0) (k1g (k0a k0n k0g)) rfl) (k0e (ps_fld (pv 0) (k1g (k0a k0n k0g)) rfl) (k0e (ps_fld (pv 0) (k1g (k0a k0n k0g)) rfl) (k0e (ps_fld (pv 0) (k1g (k0a k0n k0g)) rfl)
   (k0e (ps_fld (pv 0) (k1g k0g) rfl) (k0j (ps_fld (pv 0) (k1g k0g) rfl))))))),?_⟩
  refine⟨_,rfl,p,C,dx,[],rfl,o0,c.cl,c.nodes,(by show 0 < 1000;decide),?_⟩
  rw[putF_end]
  generalize hH1:upd H0 p (.ins C dx [(("nodes":Str),V.int 2)])=H1
  have k1:But p H0 H1:=by rw[← hH1];exact fld_put
  have o1:H1 p=some (.ins C dx [(("nodes":Str),V.int 2)]):=by rw[← hH1];exact k0f
  have one:(1:Nat)≤sizeLine:=by decide
  refine⟨one,fun l1 hl1=>⟨_,rfl,p,C,dx,_,rfl,(by rw[k0p (k0h o1 hl1)];exact o1),c.cl,c.leaves,(by show 1 < 1000;decide),?_⟩⟩
  obtain⟨k2,o2,v2,n2⟩:=fld_new (fs':=putF ("leaves":Str) (.ref l1) [(("nodes":Str),V.int 2)]) (v:=[V.int 0]) o1 hl1
  generalize hH2:upd (upd H1 l1 (.lst [V.int 0])) p (.ins C dx (putF ("leaves":Str) (.ref l1) [(("nodes":Str),V.int 2)]))=H2 at k2 o2 v2
  rw[k0r (by decide +kernel),putF_end] at o2
  refine⟨one,fun l2 hl2=>⟨_,rfl,p,C,dx,_,rfl,(by rw[k0p (k0h o2 hl2)];exact o2),c.cl,c.comes,(by show 2 < 1000;decide),?_⟩⟩
  obtain⟨k3,o3,v3,n3⟩:=fld_new (fs':=putF ("comes":Str) (.ref l2) [(("nodes":Str),V.int 2),("leaves",.ref l1)]) (v:=[V.int 1]) o2 hl2
  generalize hH3:upd (upd H2 l2 (.lst [V.int 1])) p (.ins C dx (putF ("comes":Str) (.ref l2) [(("nodes":Str),V.int 2),("leaves",.ref l1)]))=H3 at k3 o3 v3
  rw[k0r (by decide +kernel),k0r (by decide +kernel),putF_end] at o3
  refine⟨one,fun l3 hl3=>⟨_,rfl,p,C,dx,_,rfl,(by rw[k0p (k0h o3 hl3)];exact o3),c.cl,c.costs,(by show 3 < 1000;decide),?_⟩⟩
  obtain⟨k4,o4,v4,n4⟩:=fld_new (fs':=putF ("costs":Str) (.ref l3) [(("nodes":Str),V.int 2),("leaves",.ref l1),("comes",.ref l2)]) (v:=[V.int 0]) o3 hl3
  generalize hH4:upd (upd H3 l3 (.lst [V.int 0])) p (.ins C dx (putF ("costs":Str) (.ref l3) [(("nodes":Str),V.int 2),("leaves",.ref l1),("comes",.ref l2)]))=H4 at k4 o4 v4
  rw[k0r (by decide +kernel),k0r (by decide +kernel),k0r (by decide +kernel),putF_end] at o4
  refine⟨one,fun l4 hl4=>⟨_,rfl,p,C,dx,_,rfl,(by rw[k0p (k0h o4 hl4)];exact o4),c.cl,c.mosts,(by show 4 < 1000;decide),?_⟩⟩
  obtain⟨k5,o5,v5,n5⟩:=fld_new (fs':=putF ("mosts":Str) (.ref l4) [(("nodes":Str),V.int 2),("leaves",.ref l1),("comes",.ref l2),("costs",.ref l3)]) (v:=[V.int 1]) o4 hl4
  generalize hH5:upd (upd H4 l4 (.lst [V.int 1])) p (.ins C dx (putF ("mosts":Str) (.ref l4) [(("nodes":Str),V.int 2),("leaves",.ref l1),("comes",.ref l2),("costs",.ref l3)]))=H5 at k5 o5 v5
  rw[k0r (by decide +kernel),k0r (by decide +kernel),k0r (by decide +kernel),k0r (by decide +kernel),putF_end] at o5
  refine⟨Nat.zero_le _,fun l5 hl5=>⟨_,rfl,p,C,dx,_,rfl,(by rw[k0p (k0h o5 hl5)];exact o5),c.cl,c.facts,(by show 5 < 1000;decide),?_⟩⟩
  obtain⟨k6,o6,v6,n6⟩:=fld_new (fs':=putF ("facts":Str) (.ref l5) [(("nodes":Str),V.int 2),("leaves",.ref l1),("comes",.ref l2),("costs",.ref l3),("mosts",.ref l4)]) (v:=[]) o5 hl5
  generalize hH6:upd (upd H5 l5 (.lst [])) p (.ins C dx (putF ("facts":Str) (.ref l5) [(("nodes":Str),V.int 2),("leaves",.ref l1),("comes",.ref l2),("costs",.ref l3),("mosts",.ref l4)]))=H6 at k6 o6 v6
  rw[k0r (by decide +kernel),k0r (by decide +kernel),k0r (by decide +kernel),k0r (by decide +kernel),k0r (by decide +kernel),putF_end] at o6
  refine⟨Nat.zero_le _,fun l6 hl6=>⟨_,rfl,p,C,dx,_,rfl,(by rw[k0p (k0h o6 hl6)];exact o6),c.cl,c.bans,(by show 6 < 1000;decide),?_⟩⟩
  obtain⟨k7,o7,v7,n7⟩:=fld_new (fs':=putF ("bans":Str) (.ref l6) [(("nodes":Str),V.int 2),("leaves",.ref l1),("comes",.ref l2),("costs",.ref l3),("mosts",.ref l4),("facts",.ref l5)]) (v:=[]) o6 hl6
  generalize hH7:upd (upd H6 l6 (.lst [])) p (.ins C dx (putF ("bans":Str) (.ref l6) [(("nodes":Str),V.int 2),("leaves",.ref l1),("comes",.ref l2),("costs",.ref l3),("mosts",.ref l4),("facts",.ref l5)]))=H7 at k7 o7 v7
  rw[k0r (by decide +kernel),k0r (by decide +kernel),k0r (by decide +kernel),k0r (by decide +kernel),k0r (by decide +kernel),k0r (by decide +kernel),putF_end] at o7
  have w6:=k7 _ _ v6 n6
  have w5:=k7 _ _ (k6 _ _ v5 n5) n5
  have w4:=k7 _ _ (k6 _ _ (k5 _ _ v4 n4) n4) n4
  have w3:=k7 _ _ (k6 _ _ (k5 _ _ (k4 _ _ v3 n3) n3) n3) n3
  have w2:=k7 _ _ (k6 _ _ (k5 _ _ (k4 _ _ (k3 _ _ v2 n2) n2) n2) n2) n2
  have c7:But p H0 H7:=k1.trans (k2.trans (k3.trans (k4.trans (k5.trans (k6.trans k7)))))
  have g12:l1≠l2:=k0h v2 hl2
  have g13:l1≠l3:=k0h (k3 _ _ v2 n2) hl3
  have g14:l1≠l4:=k0h (k4 _ _ (k3 _ _ v2 n2) n2) hl4
  have g15:l1≠l5:=k0h (k5 _ _ (k4 _ _ (k3 _ _ v2 n2) n2) n2) hl5
  have g16:l1≠l6:=k0h (k6 _ _ (k5 _ _ (k4 _ _ (k3 _ _ v2 n2) n2) n2) n2) hl6
  have g23:l2≠l3:=k0h v3 hl3
  have g24:l2≠l4:=k0h (k4 _ _ v3 n3) hl4
  have g25:l2≠l5:=k0h (k5 _ _ (k4 _ _ v3 n3) n3) hl5
  have g26:l2≠l6:=k0h (k6 _ _ (k5 _ _ (k4 _ _ v3 n3) n3) n3) hl6
  have g34:l3≠l4:=k0h v4 hl4
  have g35:l3≠l5:=k0h (k5 _ _ v4 n4) hl5
  have g36:l3≠l6:=k0h (k6 _ _ (k5 _ _ v4 n4) n4) hl6
  have g45:l4≠l5:=k0h v5 hl5
  have g46:l4≠l6:=k0h (k6 _ _ v5 n5) hl6
  have g56:l5≠l6:=k0h v6 hl6
  have fr:∀ {Hi:Hp} {l:Addr},But p H0 Hi->Hi l=none->l≠p->H0 l=none:=fun {Hi l} k hl n=>by
   cases e:H0 l with
   | none=>rfl
   | some o=>rw[k _ _ e n] at hl;cases hl
  refine q H7 ⟨dx,l1,l2,l3,l4,l5,l6,[],[]⟩ ⟨o7,w2,w3,w4,w5,w6,v7,rfl,rfl,?_,?_,?_,?_⟩ c7 (fun y hy=>?_)
  ·intro i z f hz;simp at hz
  ·intro i z f hz;simp at hz
  ·simp[g12,g13,g14,g15,g16,g23,g24,g25,g26,g34,g35,g36,g45,g46,g56]
  ·intro z hz;simp at hz
  ·have hy:y=l1∨y=l2∨y=l3∨y=l4∨y=l5∨y=l6:=by simpa [Own] using hy
   rcases hy with rfl|rfl|rfl|rfl|rfl|rfl
   ·exact fr k1 hl1 n2
   ·exact fr (k1.trans k2) hl2 n3
   ·exact fr (k1.trans (k2.trans k3)) hl3 n4
   ·exact fr (k1.trans (k2.trans (k3.trans k4))) hl4 n5
   ·exact fr (k1.trans (k2.trans (k3.trans (k4.trans k5)))) hl5 n6
   ·exact fr (k1.trans (k2.trans (k3.trans (k4.trans (k5.trans k6))))) hl6 n7
end
end Ww
end
section
namespace Ww
open PySem PySem.Spec PyProof.Rows L2
open Vawctd (Known Edge Fact inRange toInts countsOf)
def onII (f:Int->Int->Option V):V->V->Option V
 | .int a,.int b=>f a b
 | _,_=>none
theorem fm_onII (ms cs:List Int) (f:Int->Int->Option V):((ms.map V.int).zip (cs.map V.int)).filterMap (fun z=>onII f z.1 z.2)=(ms.zip cs).filterMap fun z=>f z.1 z.2:=by
 rw[List.zip_map,List.filterMap_map]
 rfl
theorem get_int {ns:List Int} {i:Nat} {x:V} (h:(ns.map V.int)[i]?=some x):∃ n,ns[i]?=some n∧x=.int n:=by
 rw[List.getElem?_map] at h
 obtain⟨n,hn,e⟩:=Option.map_eq_some_iff.mp h
 exact⟨n,hn,e.symm⟩
theorem at_int {ns:List Int} {i:Nat} {n:Int} (h:ns[i]?=some n):atI (ns.map V.int) (i:Int)=some (.int n):=k1n (by rw[List.getElem?_map,h];rfl)
theorem at_int' {ns:List Int} {e:Int} {i:Nat} {n:Int} (he:e=(i:Int)) (h:ns[i]?=some n):atI (ns.map V.int) e=some (.int n):=by
 rw[he]
 exact at_int h
section
variable {P:Program} {w:World} {K:PySem.W.Frag} {mg:Str->Option Value} {base:Heap} {C:Addr}
abbrev s_product_sum:Stmt:=top 52
theorem sc_product_sum:FnScope ["multiples","counts","multiple","count"] ["multiples","counts"] (k0m s_product_sum):=⟨rfl,rfl,rfl,by decide +kernel,rfl,by decide +kernel,by decide +kernel⟩
def Small (ms:List Int):Prop:=∀ m∈ms,-(2 ^ 64) < m∧m < 2 ^ 64
def sp_product_sum (K:PySem.W.Frag):Sp:=fun vs H Q _=>∃ (a b:Addr) (ms cs:List Int),vs=[.ref a,.ref b]∧SqL K H a (ms.map V.int)∧SqL K H b (cs.map V.int)∧ms.length≤sizeLine∧Small ms∧∀ H',Same H H'->Q (.int (dot ms cs)) H'
theorem ok_product_sum (T:Txt K mg) (D:Dfn K mg "product_sum" s_product_sum ["multiples","counts"]):Prom P w K mg base 1 "product_sum" ["multiples","counts"] (sp_product_sum K):=by
 refine D.prom sc_product_sum (fun vs H Q E h=>?_) (fun f cdv A outer s H vs Q E hr h=>?_)
 ·obtain⟨_,_,_,_,rfl,_⟩:=h
  rfl
 ·obtain⟨a,b,ms,cs,rfl,ha,hb,hn,hsm,q⟩:=h
  refine⟨_,(k0j (k0q (k1a (sumK K rfl rfl) (by rfl) T.n_sum b_sum (k0a (pe_lc (own:=[("multiple",2),("count",3)]) rfl sc_product_sum.nd (pi_zipK K rfl rfl T.n_zip (k0a (pv 0) (k0a (pv 1) k0g))) (blkOk_by (by exact (show blkC ["multiples","counts","multiple","count"] (k0m s_product_sum) _ _=true by decide +kernel))) (fun _ _ _ _ _=>(pg_tupK K (n:=2) rfl rfl (k1h (k1f (i:=2) sc_product_sum.nd rfl (by first|exact Or.inl rfl|exact Or.inr rfl)) (k1h (k1f (i:=3) sc_product_sum.nd rfl (by first|exact Or.inl rfl|exact Or.inr rfl)) pgs_nil)))) (fun _ _ _ _ _=>pts_nil) (fun _ _ _ _ _=>(pe_op op_mul (pv 2) (pv 3)))) k0g)))),?_⟩
  refine⟨_,rfl,_,rfl,a,b,_,_,rfl,ha,hb,fun D hD=>lc_Z (xs:=ms.map V.int) (ys:=cs.map V.int) (onII fun m c=>some (.int (m*c))) hD (by rw[List.length_map];exact hn) ha hb (fun i x y H2 T Y N e1 e2 hS hT hY hN=>?_) (fun H2 hS hD2=>?_)⟩
  ·obtain⟨m,hm,rfl⟩:=get_int e1
   obtain⟨c,hc,rfl⟩:=get_int e2
   refine⟨T,_,rfl,SqT.of hT,rfl,_,_,rfl,_,_,rfl,rfl,rfl,?_⟩
   exact⟨_,rfl,_,rfl,_,_,rfl,rfl,.inl (hsm m (List.mem_of_getElem? hm)),hY _ _ rfl Same.rfl'⟩
  ·rw[fm_onII] at hD2
   have e:((ms.zip cs).filterMap fun z=>some (V.int (z.1*z.2)))=((ms.zip cs).map fun z=>z.1*z.2).map V.int:=by
    rw[List.filterMap_eq_map',List.map_map]
    rfl
   rw[e] at hD2
   exact⟨D,_,rfl,SqL.of hD2,q _ hS⟩
abbrev s_counts_of:Stmt:=top 51
theorem sc_counts_of:FnScope ["held","edges","counts","edge"] ["held","edges"] (k0m s_counts_of):=⟨rfl,rfl,rfl,by decide +kernel,rfl,by decide +kernel,by decide +kernel⟩
def sp_counts_of (K:PySem.W.Frag) (C:Addr):Sp:=fun vs H Q _=>∃ (p a:Addr) (ns:List Int) (k:Known) (h:HA),vs=[.ref p,.ref a]∧HeldAt C H p k h∧Wf k∧SqL K H a (ns.map V.int)∧(∀ e∈ns,0≤e∧e.toNat < k.edges.length) ∧
 ∀ H' l,Same H H'->H' l=some (.lst ((toInts (countsOf k (ns.map Int.toNat))).map V.int))->Q (.ref l) H'
theorem ok_counts_of (T:Txt K mg) (c:Cl K C) (D:Dfn K mg "counts_of" s_counts_of ["held","edges"]):Prom P w K mg base 1 "counts_of" ["held","edges"] (sp_counts_of K C):=by
 refine D.prom sc_counts_of (fun vs H Q E h=>?_) (fun f cdv A outer s H vs Q E hr h=>?_)
 ·obtain⟨_,_,_,_,_,rfl,_⟩:=h
  rfl
 ·obtain⟨p,a,ns,k,h,rfl,x,wf,ha,hns,q⟩:=h
  refine⟨_,(k0e (k1m (i:=2) sc_counts_of.nd rfl (Or.inl rfl) (pe_op op_rep (k1g (k0a k0n k0g)) (k1a (lenK K rfl) (by rfl) T.n_len PySem.boot_len (k0a (k0v K rfl (pv 0) rfl) k0g)))) (k0e (ps_for PassesOwn.never rfl (pi_listK K rfl (pv 1)) (k1f (i:=3) sc_counts_of.nd rfl (by first|exact Or.inl rfl|exact Or.inr rfl)) (k0j (ps_augS (pv 2) (pv 3) (getK_list K rfl) k0n ip_add set_list))) (k0j (k0q (pv 2))))),?_⟩
  have e16:=wf.e16
  refine⟨(by show 1≤sizeLine;decide),fun l0 hl0=>?_⟩
  have s0:Same H (upd H l0 (.lst [V.int 0])):=Same.new hl0
  have x0:=x.same s0
  refine⟨_,rfl,p,C,_,_,_,rfl,x0.obj,c.cl,c.costs,hf_costs,_,_,rfl,.inl (SqL.of x0.co),l0,_,_,rfl,rfl,k0f,(by omega),(by rw[List.length_map,List.length_map];omega),(by rw[List.length_map,List.length_map];show 1*_≤sizeLine;rw[Int.toNat_natCast,Nat.one_mul];exact Nat.le_trans e16 (by decide)),fun l hl=>?_⟩
  have e1:(List.replicate ((((k.edges.map fun d=>(d.cost:Int)).map V.int).length:Int)).toNat [V.int 0]).flatten=(toInts (countsOf k [])).map V.int:=by
   rw[List.length_map,List.length_map,Int.toNat_natCast,countsOf_nil]
   unfold toInts
   simp[List.map_replicate]
  rw[e1]
  have s1:Same H (upd (upd H l0 (.lst [V.int 0])) l (.lst ((toInts (countsOf k [])).map V.int))):=s0.grow hl
  have hln:H l=none:=s0.free hl
  refine⟨_,rfl,a,rfl,⟨_,s1.seq ha⟩,for_list (K:=K) (a:=a) (xs:=ns.map V.int) (fun i σ H'=>∃ v:Option V,σ=[some (.ref p),some (.ref a),some (.ref l),v]∧Same H H'∧H' l=some (.lst ((toInts (countsOf k ((ns.take i).map Int.toNat))).map V.int)))
   ⟨none,rfl,s1,k0f⟩ (fun i σ H' _ ⟨_,_,s5,_⟩=>s5.seq ha) ?_ ?_⟩
  ·rintro i y σ H' hi ⟨v,rfl,s5,hl5⟩
   obtain⟨e,he,rfl⟩:=get_int hi
   obtain⟨h0,hlt⟩:=hns e (List.mem_of_getElem? he)
   have ee:e=((e.toNat:Nat):Int):=by omega
   have hlen:(countsOf k ((ns.take i).map Int.toNat)).length=k.edges.length:=countsOf_len _ _
   have hat:atI ((toInts (countsOf k ((ns.take i).map Int.toNat))).map V.int) e=some (.int ((countsOf k ((ns.take i).map Int.toNat)).getD e.toNat 0:Nat)):=by
    refine at_int' ee ?_
    rw[toInts_get,List.getD_eq_getElem?_getD,List.getElem?_eq_getElem (by rw[hlen];exact hlt)]
    rfl
   have hix:ixN ((toInts (countsOf k ((ns.take i).map Int.toNat))).map V.int).length e=some e.toNat:=by
    unfold ixN
    rw[if_pos h0,List.length_map,toInts_len,hlen,if_pos (by omega)]
   refine⟨_,rfl,_,rfl,l,_,_,_,rfl,rfl,SqL.of hl5,hat,_,_,rfl,rfl,l,_,_,_,rfl,rfl,hl5,hix,?_⟩
   refine⟨_,rfl,s5.put hln,?_⟩
   rw[k0f,List.take_add_one,he]
   simp only[Option.toList_some,List.map_append,List.map_cons,List.map_nil]
   rw[countsOf_snoc _ _ _ hlt]
   congr 2
   unfold toInts
   rw[List.map_set,List.map_set]
   simp
  ·rintro σ H' ⟨v,rfl,s5,hl5⟩
   rw[List.length_map,List.take_length] at hl5
   exact⟨_,rfl,q H' l s5 hl5⟩
abbrev s_is_way:Stmt:=top 50
theorem sc_is_way:FnScope ["held","edges","node","edge"] ["held","edges"] (k0m s_is_way):=⟨rfl,rfl,rfl,by decide +kernel,rfl,by decide +kernel,by decide +kernel⟩
def sp_is_way (K:PySem.W.Frag) (C:Addr):Sp:=fun vs H Q _=>∃ (p a:Addr) (ns:List Int) (k:Known) (h:HA),vs=[.ref p,.ref a]∧HeldAt C H p k h∧Wf k∧SqL K H a (ns.map V.int)∧Q (.bl (goI k 0 ns)) H
theorem ok_is_way (T:Txt K mg) (c:Cl K C) (D:Dfn K mg "is_way" s_is_way ["held","edges"]) (p_is_edge:Prom P w K mg base 2 "is_edge" ["held","edge"] (sp_is_edge K C)):Prom P w K mg base 3 "is_way" ["held","edges"] (sp_is_way K C):=by
 refine D.prom sc_is_way (fun vs H Q E h=>?_) (fun f cdv A outer s H vs Q E hr h=>?_)
 ·obtain⟨_,_,_,_,_,rfl,_⟩:=h
  rfl
 ·obtain⟨p,a,ns,k,h,rfl,x,wf,ha,q⟩:=h
  refine⟨_,(k0e (k1m (i:=2) sc_is_way.nd rfl (Or.inl rfl) k0n) (k0e (ps_for PassesOwn.never rfl (pi_listK K rfl (pv 1)) (k1f (i:=3) sc_is_way.nd rfl (by first|exact Or.inl rfl|exact Or.inr rfl)) (k0e (ps_if (PW.pt (pw_or (pt_not (k1r K rfl (k0u p_is_edge (hr.mono (by decide)) rfl (k0a (pv 0) (k0a (pv 3) k0g))) (fun _=>rfl))) (pw_or1 (k0x op_ne (pe_ix (k0w K rfl) (k0v K rfl (pv 0) rfl) (pv 3) (fun _ _=>rfl)) (pv 2) (k1e _))))) (k0j (k0q pe_bl)) k0z) (k0j (k1m (i:=2) sc_is_way.nd rfl (Or.inl rfl) (pe_ix (k0w K rfl) (k0v K rfl (pv 0) rfl) (pv 3) (fun _ _=>rfl)))))) (k0j (k0q (pe_cmpR op_eq (pv 2) (pe_op op_sub (k0v K rfl (pv 0) rfl) k0n) (k1e _)))))),?_⟩
  refine⟨_,rfl,a,rfl,⟨_,ha⟩,for_list (K:=K) (a:=a) (xs:=ns.map V.int) (fun i σ H'=>∃ (v:Option V) (u:Nat),σ=[some (.ref p),some (.ref a),some (.int (u:Int)),v]∧H'=H∧goI k 0 ns=goI k u (ns.drop i))
   ⟨none,0,rfl,rfl,rfl⟩ (fun i σ H' _ ⟨_,_,_,e,_⟩=>by rw[e];exact ha) ?_ ?_⟩
  ·rintro i y σ H' hi ⟨v,u,rfl,rfl,g⟩
   obtain⟨e,he,rfl⟩:=get_int hi
   have hd:ns.drop i=e::ns.drop (i+1):=by
    obtain⟨hlt,he'⟩:=List.getElem?_eq_some_iff.mp he
    rw[List.drop_eq_getElem_cons hlt,he']
   rw[hd,goI] at g
   refine⟨_,rfl,_,rfl,p,e,k,h,rfl,x,_,rfl,?_⟩
   by_cases h1:Vawctd.isEdge k e=true
   case neg =>
    rw[eq_false_of_ne_true h1] at g ⊢
    rw[Bool.false_and] at g
    rw[g] at q
    exact iteT (iteT q)
   rw[h1] at g ⊢
   rw[Bool.true_and] at g
   have hr':=k1j h1
   have hlt:e.toNat < k.edges.length:=by omega
   have ee:e=((e.toNat:Nat):Int):=by omega
   have gd:k.edges.getD e.toNat ⟨0,0,0,0⟩=k.edges[e.toNat]:=by rw[List.getD_eq_getElem?_getD,List.getElem?_eq_getElem hlt];rfl
   rw[gd] at g
   have hsrc:atI ((k.edges.map fun d=>(d.src:Int)).map V.int) e=some (.int (k.edges[e.toNat].src:Int)):=by
    refine at_int' ee ?_
    rw[List.getElem?_map,List.getElem?_eq_getElem hlt];rfl
   have hdst:atI ((k.edges.map fun d=>(d.dst:Int)).map V.int) e=some (.int (k.edges[e.toNat].dst:Int)):=by
    refine at_int' ee ?_
    rw[List.getElem?_map,List.getElem?_eq_getElem hlt];rfl
   refine iteF ⟨_,rfl,p,C,_,_,_,rfl,x.obj,c.cl,c.leaves,hf_leaves,_,rfl,h.aL,_,_,_,rfl,rfl,SqL.of x.lv,hsrc,_,rfl,rfl,_,rfl,?_⟩
   rw[k1u]
   by_cases h2:k.edges[e.toNat].src=u
   ·rw[decide_eq_true (p:=(k.edges[e.toNat].src:Int)=(u:Int)) (by omega)]
    rw[beq_iff_eq.mpr h2,Bool.true_and] at g
    refine iteF ⟨_,rfl,p,C,_,_,_,rfl,x.obj,c.cl,c.comes,hf_comes,_,rfl,h.aC,_,_,_,rfl,rfl,SqL.of x.cm,hdst,?_⟩
    exact⟨_,_,rfl,rfl,g⟩
   ·rw[decide_eq_false (p:=(k.edges[e.toNat].src:Int)=(u:Int)) (by omega)]
    have h2':(k.edges[e.toNat].src==u)=false:=by simpa using h2
    rw[h2',Bool.false_and] at g
    rw[g] at q
    exact iteT q
  ·rintro σ H' ⟨v,u,rfl,rfl,g⟩
   rw[List.length_map,List.drop_length,goI] at g
   refine⟨_,rfl,_,rfl,p,C,_,_,_,rfl,x.obj,c.cl,c.nodes,hf_nodes,_,_,rfl,rfl,rfl,?_⟩
   rw[k1u]
   have n2:=wf.n2
   have e:decide ((u:Int)=(k.nodes:Int) - 1)=(u==Vawctd.exitOf k):=by
    unfold Vawctd.exitOf
    by_cases hu:u=k.nodes - 1
    ·rw[decide_eq_true (by omega),beq_iff_eq.mpr hu]
    ·rw[decide_eq_false (by omega)]
     symm
     simpa using hu
   rw[e,← g]
   exact q
end
end Ww
end
section
namespace Ww
open PySem PySem.Spec PyProof.Rows L2
open Vawctd (Known Edge Fact inRange toInts countsOf)
theorem enum_idx {α:Type} (p:α->Bool):∀ (ys:List α) (vs:List V) (g:Nat->V->Option V) (k:Nat),vs.length=ys.length->(∀ (i:Nat) v y,vs[i]?=some v->ys[i]?=some y->g (k+i) v=if p y then some (.int ((k+i:Nat):Int)) else none) ->
  (vs.zipIdx k).filterMap (fun z=>g z.2 z.1)=(toInts (idxs p ys k)).map V.int
 | [],[],g,k,_,_=>rfl
 | [],_::_,g,k,h,_=>by simp at h
 | _::_,[],g,k,h,_=>by simp at h
 | y::ys,v::vs,g,k,hl,h=>by
  have ih:=enum_idx p ys vs g (k+1) (by simpa using hl) fun i v' y' a b=>by
   have:=h (i+1) v' y' (by simpa using a) (by simpa using b)
   rw[show k+1+i=k+(i+1) by omega]
   exact this
  rw[List.zipIdx_cons,List.filterMap_cons,ih,idxs_cons]
  have h0:=h 0 v y rfl rfl
  rw[Nat.add_zero] at h0
  rw[show g (v,k).snd (v,k).fst=_ from h0]
  cases p y<;>rfl
theorem ints_len (x:List Nat):((toInts x).map V.int).length=x.length:=by rw[List.length_map,toInts_len]
theorem get_nat {x:List Nat} {i:Nat} {v:V} (h:((toInts x).map V.int)[i]?=some v):∃ c,x[i]?=some c∧v=.int (c:Int):=by
 obtain⟨n,hn,rfl⟩:=get_int h
 rw[toInts_get] at hn
 obtain⟨c,hc,e⟩:=Option.map_eq_some_iff.mp hn
 exact⟨c,hc,by rw[← e]⟩
theorem at_nat {x:List Nat} {i c:Nat} (h:x[i]?=some c):atI ((toInts x).map V.int) (i:Int)=some (.int (c:Int)):=at_int (by rw[toInts_get,h];rfl)
theorem k1q {n:Nat} (h:n≤1000):n≤sizeLine:=Nat.le_trans h (by decide)
section
variable {P:Program} {w:World} {K:PySem.W.Frag} {mg:Str->Option Value} {base:Heap} {C:Addr}
def sp_idx (K:PySem.W.Frag) (C:Addr) (g:Known->Vawctd.Counts->List Nat):Sp:=fun vs H Q _=>∃ (p b:Addr) (x:Vawctd.Counts) (k:Known) (h:HA),vs=[.ref p,.ref b]∧HeldR C H p k h∧Wf k∧x.length=k.edges.length∧SqL K H b ((toInts x).map V.int) ∧
 ∀ H' l,Same H H'->H' l=some (.lst ((toInts (g k x)).map V.int))->Q (.ref l) H'
abbrev s_edges_above_most:Stmt:=top 53
theorem sc_edges_above_most:FnScope ["held","counts","edge","count"] ["held","counts"] (k0m s_edges_above_most):=⟨rfl,rfl,rfl,by decide +kernel,rfl,by decide +kernel,by decide +kernel⟩
def gAbove (k:Known) (i:Nat):V->Option V:=onI fun n=>if decide (((k.edges.getD i ⟨0,0,0,0⟩).most:Int) < n) then some (.int (i:Int)) else none
def gUnkept (k:Known) (x:Vawctd.Counts) (i:Nat) (_:V):Option V:=(k.facts[i]?).bind fun f=>if !Vawctd.keepsFact x f then some (.int (i:Int)) else none
def gUnban (k:Known) (x:Vawctd.Counts) (i:Nat) (_:V):Option V:=(k.bans[i]?).bind fun f=>if !Vawctd.keepsBan x f then some (.int (i:Int)) else none
def aboveOf (k:Known) (x:Vawctd.Counts):List Nat:=idxs (fun z:Edge × Nat=>decide (z.1.most < z.2)) (k.edges.zip x)
theorem ok_edges_above_most (T:Txt K mg) (c:Cl K C) (D:Dfn K mg "edges_above_most" s_edges_above_most ["held","counts"]):Prom P w K mg base 1 "edges_above_most" ["held","counts"] (sp_idx K C aboveOf):=by
 refine D.prom sc_edges_above_most (fun vs H Q E h=>?_) (fun f cdv A outer s H vs Q E hr h=>?_)
 ·obtain⟨_,_,_,_,_,rfl,_⟩:=h
  rfl
 ·obtain⟨p,b,x,k,h,rfl,X,wf,hxl,hb,q⟩:=h
  refine⟨_,(k0j (k0q (pe_lc (own:=[("edge",2),("count",3)]) rfl sc_edges_above_most.nd (pi_enumK K rfl rfl T.n_enumerate (k0a (pv 1) k0g)) (blkOk_by (by exact (show blkC ["held","counts","edge","count"] (k0m s_edges_above_most) _ _=true by decide +kernel))) (fun _ _ _ _ _=>(pg_tupK K (n:=2) rfl rfl (k1h (k1f (i:=2) sc_edges_above_most.nd rfl (by first|exact Or.inl rfl|exact Or.inr rfl)) (k1h (k1f (i:=3) sc_edges_above_most.nd rfl (by first|exact Or.inl rfl|exact Or.inr rfl)) pgs_nil)))) (fun _ _ _ _ _=>(pts_one (k0x op_gt (pv 3) (pe_ix (k0w K rfl) (k0v K rfl (pv 0) rfl) (pv 2) (fun _ _=>rfl)) (k1e _)))) (fun _ _ _ _ _=>(pv 2))))),?_⟩
  have e16:=wf.e16
  refine⟨_,rfl,b,_,rfl,hb,fun D hD=>lc_E (xs:=(toInts x).map V.int) (gAbove k) hD (by rw[ints_len];exact k1q (by omega)) hb (fun i v H2 T Y N e hS hT hY hN=>?_) (fun H2 hS hD2=>?_)⟩
  ·obtain⟨n,hn,rfl⟩:=get_nat e
   have hlt:i < k.edges.length:=by rw[← hxl];exact (List.getElem?_eq_some_iff.mp hn).1
   have gd:k.edges.getD i ⟨0,0,0,0⟩=k.edges[i]:=by rw[List.getD_eq_getElem?_getD,List.getElem?_eq_getElem hlt];rfl
   have hm:atI ((k.edges.map fun d=>(d.most:Int)).map V.int) (i:Int)=some (.int (k.edges[i].most:Int)):=at_int (by rw[List.getElem?_map,List.getElem?_eq_getElem hlt];rfl)
   have X2:=X.same hS
   refine⟨T,_,rfl,SqT.of hT,rfl,_,_,rfl,_,_,rfl,rfl,rfl,?_⟩
   refine⟨_,rfl,_,rfl,p,C,_,_,_,rfl,X2.obj,c.cl,c.mosts,hf_mosts,_,rfl,h.aM,_,_,_,rfl,rfl,SqL.of X2.mo,hm,_,_,rfl,rfl,_,rfl,?_⟩
   have hY':=fun y H4 (z:(if decide ((k.edges[i].most:Int) < (n:Int)) then some (V.int (i:Int)) else none)=some y)=>hY y H4 (by show (if decide (((k.edges.getD i ⟨0,0,0,0⟩).most:Int) < (n:Int)) then _ else _)=_;rw[gd];exact z)
   have hN':=fun H3 (z:(if decide ((k.edges[i].most:Int) < (n:Int)) then some (V.int (i:Int)) else none)=none)=>hN H3 (by show (if decide (((k.edges.getD i ⟨0,0,0,0⟩).most:Int) < (n:Int)) then _ else _)=_;rw[gd];exact z)
   refine ite2 (fun h1=>⟨_,rfl,hY' _ _ (by rw[if_pos h1]) Same.rfl'⟩) (fun h1=>hN' _ (by rw[if_neg h1]) Same.rfl')
  ·refine q H2 D hS ?_
   rw[hD2]
   refine congrArg (fun l=>some (HO.lst l)) (enum_idx (fun z:Edge × Nat=>decide (z.1.most < z.2)) (k.edges.zip x) ((toInts x).map V.int) (gAbove k) 0 (by rw[ints_len,List.length_zip];omega) fun i v y hv hy=>?_)
   obtain⟨n,hn,rfl⟩:=get_nat hv
   rw[List.getElem?_zip_eq_some] at hy
   have e2:y.2=n:=Option.some.inj (hy.2.symm.trans hn)
   rw[Nat.zero_add]
   show (if decide (((k.edges.getD i ⟨0,0,0,0⟩).most:Int) < (n:Int)) then _ else _)=_
   rw[getD_of hy.1,← e2]
   have:decide ((y.1.most:Int) < (y.2:Int))=decide (y.1.most < y.2):=by
    by_cases q:y.1.most < y.2
    ·rw[decide_eq_true q,decide_eq_true (by omega)]
    ·rw[decide_eq_false q,decide_eq_false (by omega)]
   rw[this]
abbrev s_facts_not_kept:Stmt:=top 54
theorem sc_facts_not_kept:FnScope ["held","counts","k","fact"] ["held","counts"] (k0m s_facts_not_kept):=⟨rfl,rfl,rfl,by decide +kernel,rfl,by decide +kernel,by decide +kernel⟩
def unkeptOf (k:Known) (x:Vawctd.Counts):List Nat:=idxs (fun f=>!Vawctd.keepsFact x f) k.facts
theorem unkept_dec (x:Vawctd.Counts) (f:Fact):(!Vawctd.keepsFact x f)=decide (f.bound < dot f.mults (toInts x)):=by
 unfold Vawctd.keepsFact
 rw[costBy_dot]
 by_cases q:f.bound < dot f.mults (toInts x)
 ·rw[decide_eq_true q,decide_eq_false (by omega)];rfl
 ·rw[decide_eq_false q,decide_eq_true (by omega)];rfl
theorem ok_facts_not_kept (T:Txt K mg) (c:Cl K C) (D:Dfn K mg "facts_not_kept" s_facts_not_kept ["held","counts"]) (p_product_sum:Prom P w K mg base 1 "product_sum" ["multiples","counts"] (sp_product_sum K)) :
  Prom P w K mg base 2 "facts_not_kept" ["held","counts"] (sp_idx K C unkeptOf):=by
 refine D.prom sc_facts_not_kept (fun vs H Q E h=>?_) (fun f cdv A outer s H vs Q E hr h=>?_)
 ·obtain⟨_,_,_,_,_,rfl,_⟩:=h
  rfl
 ·obtain⟨p,b,x,k,h,rfl,X,wf,hxl,hb,q⟩:=h
  refine⟨_,(k0j (k0q (pe_lc (own:=[("k",2),("fact",3)]) rfl sc_facts_not_kept.nd (pi_enumK K rfl rfl T.n_enumerate (k0a (k0v K rfl (pv 0) rfl) k0g)) (blkOk_by (by exact (show blkC ["held","counts","k","fact"] (k0m s_facts_not_kept) _ _=true by decide +kernel))) (fun _ _ _ _ _=>(pg_tupK K (n:=2) rfl rfl (k1h (k1f (i:=2) sc_facts_not_kept.nd rfl (by first|exact Or.inl rfl|exact Or.inr rfl)) (k1h (k1f (i:=3) sc_facts_not_kept.nd rfl (by first|exact Or.inl rfl|exact Or.inr rfl)) pgs_nil)))) (fun _ _ _ _ _=>(pts_one (k0x op_gt (k0u p_product_sum (hr.mono (by decide)) rfl (k0a (pe_ix (ixK_tup K rfl) (pv 3) k0n (fun _ _=>rfl)) (k0a (pv 1) k0g))) (pe_ix (ixK_tup K rfl) (pv 3) k0n (fun _ _=>rfl)) (k1e _)))) (fun _ _ _ _ _=>(pv 2))))),?_⟩
  have f6:=wf.f6
  have e16:=wf.e16
  refine⟨_,rfl,p,C,_,_,_,rfl,X.obj,c.cl,c.facts,hf_facts,h.aF,_,rfl,SqL.of X.fa,fun D hD=>lc_E (xs:=h.fts.map fun z=>V.ref z.1) (gUnkept k x) hD (by rw[List.length_map,X.flen];exact k1q (by omega)) (SqL.of X.fa) (fun i v H2 T Y N e hS hT hY hN=>?_) (fun H2 hS hD2=>?_)⟩
  ·rw[List.getElem?_map] at e
   obtain⟨z,hz,rfl⟩:=Option.map_eq_some_iff.mp e
   have hlt:i < k.facts.length:=by rw[← X.flen];exact (List.getElem?_eq_some_iff.mp hz).1
   have hfi:=List.getElem?_eq_getElem hlt
   generalize k.facts[i]=ft at hfi
   unfold gUnkept at hY hN
   rw[hfi] at hY hN
   obtain⟨t1,t2⟩:=X.fats i z ft hz hfi
   have t1':=hS _ _ t1
   have t2':=hS _ _ t2
   obtain⟨m1,m2,m3,m4⟩:=wf.fm ft (List.mem_of_getElem? hfi)
   refine⟨T,_,rfl,SqT.of hT,rfl,_,_,rfl,_,_,rfl,rfl,rfl,?_⟩
   refine⟨_,rfl,z.1,_,_,_,rfl,rfl,SqT.of t1',k1n (j:=0) rfl,_,rfl,z.2,b,_,_,rfl,SqL.of t2',hS.seq hb,k1q (by rw[m1];omega),(fun m hm=>?_),fun H3 s3=>?_⟩
   ·have:=m2 m hm
    omega
   have t1'':=s3 _ _ t1'
   refine⟨_,rfl,z.1,_,_,_,rfl,rfl,SqT.of t1'',k1n (j:=1) rfl,_,_,rfl,rfl,_,rfl,?_⟩
   rw[← unkept_dec]
   refine ite2 (fun h1=>⟨_,rfl,hY _ _ (by show (if (!Vawctd.keepsFact x ft)=true then _ else _)=_;rw[if_pos h1]) s3⟩) (fun h1=>hN _ (by show (if (!Vawctd.keepsFact x ft)=true then _ else _)=_;rw[if_neg h1]) s3)
  ·refine q H2 D hS ?_
   rw[hD2]
   refine congrArg (fun l=>some (HO.lst l)) (enum_idx (fun f=>!Vawctd.keepsFact x f) k.facts (h.fts.map fun z=>V.ref z.1) (gUnkept k x) 0 (by rw[List.length_map];exact X.flen) fun i v y hv hy=>?_)
   rw[Nat.zero_add]
   unfold gUnkept
   rw[hy]
   rfl
abbrev s_bans_not_kept:Stmt:=top 55
theorem sc_bans_not_kept:FnScope ["held","counts","k","ban"] ["held","counts"] (k0m s_bans_not_kept):=⟨rfl,rfl,rfl,by decide +kernel,rfl,by decide +kernel,by decide +kernel⟩
def unbanOf (k:Known) (x:Vawctd.Counts):List Nat:=idxs (fun b=>!Vawctd.keepsBan x b) k.bans
theorem ok_bans_not_kept (T:Txt K mg) (c:Cl K C) (D:Dfn K mg "bans_not_kept" s_bans_not_kept ["held","counts"]):Prom P w K mg base 1 "bans_not_kept" ["held","counts"] (sp_idx K C unbanOf):=by
 refine D.prom sc_bans_not_kept (fun vs H Q E h=>?_) (fun f cdv A outer s H vs Q E hr h=>?_)
 ·obtain⟨_,_,_,_,_,rfl,_⟩:=h
  rfl
 ·obtain⟨p,b,x,k,h,rfl,X,wf,hxl,hb,q⟩:=h
  refine⟨_,(k0j (k0q (pe_lc (own:=[("k",2),("ban",3)]) rfl sc_bans_not_kept.nd (pi_enumK K rfl rfl T.n_enumerate (k0a (k0v K rfl (pv 0) rfl) k0g)) (blkOk_by (by exact (show blkC ["held","counts","k","ban"] (k0m s_bans_not_kept) _ _=true by decide +kernel))) (fun _ _ _ _ _=>(pg_tupK K (n:=2) rfl rfl (k1h (k1f (i:=2) sc_bans_not_kept.nd rfl (by first|exact Or.inl rfl|exact Or.inr rfl)) (k1h (k1f (i:=3) sc_bans_not_kept.nd rfl (by first|exact Or.inl rfl|exact Or.inr rfl)) pgs_nil)))) (fun _ _ _ _ _=>(pts_one (PW.pt (pw_and (k0x op_gt (pe_ix (k0w K rfl) (pv 1) (pe_ix (ixK_tup K rfl) (pv 3) k0n (fun _ _=>rfl)) (fun _ _=>rfl)) k0n (k1e _)) (pw_and1 (k0x op_gt (pe_ix (k0w K rfl) (pv 1) (pe_ix (ixK_tup K rfl) (pv 3) k0n (fun _ _=>rfl)) (fun _ _=>rfl)) k0n (k1e _))))))) (fun _ _ _ _ _=>(pv 2))))),?_⟩
  have b4:=wf.b4
  refine⟨_,rfl,p,C,_,_,_,rfl,X.obj,c.cl,c.bans,hf_bans,h.aB,_,rfl,SqL.of X.ba,fun D hD=>lc_E (xs:=h.bts.map V.ref) (gUnban k x) hD (by rw[List.length_map,X.blen];exact k1q (by omega)) (SqL.of X.ba) (fun i v H2 T Y N e hS hT hY hN=>?_) (fun H2 hS hD2=>?_)⟩
  ·rw[List.getElem?_map] at e
   obtain⟨z,hz,rfl⟩:=Option.map_eq_some_iff.mp e
   have hlt:i < k.bans.length:=by rw[← X.blen];exact (List.getElem?_eq_some_iff.mp hz).1
   have hbi:=List.getElem?_eq_getElem hlt
   generalize k.bans[i]=bn at hbi
   unfold gUnban at hY hN
   rw[hbi] at hY hN
   have t1':=hS _ _ (X.bats i z bn hz hbi)
   obtain⟨m1,m2,m3⟩:=wf.bm bn (List.mem_of_getElem? hbi)
   have g1:x[bn.1]?=some (x.getD bn.1 0):=by rw[List.getD_eq_getElem?_getD,List.getElem?_eq_getElem (by omega)];rfl
   have g2:x[bn.2]?=some (x.getD bn.2 0):=by rw[List.getD_eq_getElem?_getD,List.getElem?_eq_getElem (by omega)];rfl
   have kb:(!Vawctd.keepsBan x bn)=(decide ((0:Int) < (x.getD bn.1 0:Nat))&&decide ((0:Int) < (x.getD bn.2 0:Nat))):=by
    unfold Vawctd.keepsBan
    generalize x.getD bn.1 0=u
    generalize x.getD bn.2 0=v
    rcases Nat.eq_zero_or_pos u with z1|z1<;>rcases Nat.eq_zero_or_pos v with z2|z2
    ·subst z1 z2;rfl
    ·subst z1;rfl
    ·subst z2;simp
    ·rw[decide_eq_true (by omega),decide_eq_true (by omega)]
     have e1:(u==0)=false:=by rw[beq_eq_false_iff_ne];omega
     have e2:(v==0)=false:=by rw[beq_eq_false_iff_ne];omega
     rw[e1,e2];rfl
   have hY':=fun y H4 (z:(if (!Vawctd.keepsBan x bn)=true then some (V.int (i:Int)) else none)=some y)=>hY y H4 z
   have hN':=fun H3 (z:(if (!Vawctd.keepsBan x bn)=true then some (V.int (i:Int)) else none)=none)=>hN H3 z
   rw[kb] at hY' hN'
   refine⟨T,_,rfl,SqT.of hT,rfl,_,_,rfl,_,_,rfl,rfl,rfl,?_⟩
   refine⟨_,rfl,_,rfl,z,_,_,_,rfl,rfl,SqT.of t1',k1n (j:=0) rfl,b,_,_,_,rfl,rfl,hS.seq hb,at_nat g1,_,_,rfl,rfl,_,rfl,?_⟩
   by_cases h1:(0:Int) < ((x.getD bn.1 0:Nat):Int)
   ·rw[decide_eq_true h1] at hY' hN' ⊢
    refine iteT ⟨_,rfl,_,rfl,z,_,_,_,rfl,rfl,SqT.of t1',k1n (j:=1) rfl,b,_,_,_,rfl,rfl,hS.seq hb,at_nat g2,_,_,rfl,rfl,_,rfl,?_⟩
    simp only[Bool.true_and] at hY' hN'
    exact ite2 (fun h2=>⟨_,rfl,hY' _ _ (by rw[if_pos h2]) Same.rfl'⟩) (fun h2=>hN' _ (by rw[if_neg h2]) Same.rfl')
   ·rw[decide_eq_false h1] at hY' hN' ⊢
    simp only[Bool.false_and] at hY' hN'
    exact iteF (iteF (hN' _ (by rw[if_neg (by decide)]) Same.rfl'))
  ·refine q H2 D hS ?_
   rw[hD2]
   refine congrArg (fun l=>some (HO.lst l)) (enum_idx (fun f=>!Vawctd.keepsBan x f) k.bans (h.bts.map V.ref) (gUnban k x) 0 (by rw[List.length_map];exact X.blen) fun i v y hv hy=>?_)
   rw[Nat.zero_add]
   unfold gUnban
   rw[hy]
   rfl
end
end Ww
end
section
namespace Ww
open PySem PySem.Spec PyProof.Rows L2
open Vawctd (Known Edge Fact inRange toInts countsOf)
section
variable {P:Program} {w:World} {K:PySem.W.Frag} {mg:Str->Option Value} {base:Heap} {C:Addr}
abbrev s_way:Stmt:=top 47
theorem sc_way:FnScope ["held","edges","counts","above","facts","bans"] ["held","edges"] (k0m s_way):=⟨rfl,rfl,rfl,by decide +kernel,rfl,by decide +kernel,by decide +kernel⟩
def sp_way (K:PySem.W.Frag) (C:Addr):Sp:=fun vs H Q _=>∃ (p a:Addr) (ns:List Int) (k:Known) (h:HA),vs=[.ref p,.ref a]∧HeldAt C H p k h∧Wf k∧SqL K H a (ns.map V.int)∧Ans C p H h (Vawctd.step k (.way ns)) Q
theorem idx_cases (l:List Nat) {o:Option Nat} (h:l.head?=o.map (·+0)):(l=[]∧o=none)∨∃ i r,l=i::r∧o=some i:=by
 cases l with
 | nil=>left;cases o with
  | none=>exact⟨rfl,rfl⟩
  | some j=>cases h
 | cons i r=>right;cases o with
  | none=>cases h
  | some j =>
   have e:i=j:=Option.some.inj h
   exact⟨i,r,rfl,by rw[e]⟩
theorem ok_way (T:Txt K mg) (c:Cl K C) (D:Dfn K mg "way" s_way ["held","edges"]) (p_is_way:Prom P w K mg base 3 "is_way" ["held","edges"] (sp_is_way K C)) (p_counts_of:Prom P w K mg base 1 "counts_of" ["held","edges"] (sp_counts_of K C))
  (p_edges_above_most:Prom P w K mg base 1 "edges_above_most" ["held","counts"] (sp_idx K C aboveOf)) (p_facts_not_kept:Prom P w K mg base 2 "facts_not_kept" ["held","counts"] (sp_idx K C unkeptOf))
  (p_bans_not_kept:Prom P w K mg base 1 "bans_not_kept" ["held","counts"] (sp_idx K C unbanOf)) (p_product_sum:Prom P w K mg base 1 "product_sum" ["multiples","counts"] (sp_product_sum K)) :
  Prom P w K mg base 4 "way" ["held","edges"] (sp_way K C):=by
 refine D.prom sc_way (fun vs H Q E h=>?_) (fun f cdv A outer s H vs Q E hr h=>?_)
 ·obtain⟨_,_,_,_,_,rfl,_⟩:=h
  rfl
 ·obtain⟨p,a,ns,k,h,rfl,x,wf,ha,q⟩:=h
  refine⟨_,(k0e (ps_if (pt_not (k1r K rfl (k0u p_is_way (hr.mono (by decide)) rfl (k0a (pv 0) (k0a (pv 1) k0g))) (fun _=>rfl))) (k0j (k0q (k1g (k0a (k0y rfl T.c_NO_WAY) k0g)))) k0z) (k0e (k1m (i:=2) sc_way.nd rfl (Or.inl rfl) (k0u p_counts_of (hr.mono (by decide)) rfl (k0a (pv 0) (k0a (pv 1) k0g)))) (k0e (k1m (i:=3) sc_way.nd rfl (Or.inl rfl) (k0u p_edges_above_most (hr.mono (by decide)) rfl (k0a (pv 0) (k0a (pv 2) k0g)))) (k0e (ps_if (k0x op_gt (k1a (lenK K rfl) (by rfl) T.n_len PySem.boot_len (k0a (pv 3) k0g)) k0n (k1e _)) (k0j (k0q (k1g (k0a k0n (k0a (pe_ix (k0w K rfl) (pv 3) k0n (fun _ _=>rfl)) k0g))))) k0z) (k0e (k1m (i:=4) sc_way.nd rfl (Or.inl rfl) (k0u p_facts_not_kept (hr.mono (by decide)) rfl (k0a (pv 0) (k0a (pv 2) k0g)))) (k0e (ps_if (k0x op_gt (k1a (lenK K rfl) (by rfl) T.n_len PySem.boot_len (k0a (pv 4) k0g)) k0n (k1e _)) (k0j (k0q (k1g (k0a k0n (k0a (pe_ix (k0w K rfl) (pv 4) k0n (fun _ _=>rfl)) k0g))))) k0z) (k0e (k1m (i:=5) sc_way.nd rfl (Or.inl rfl) (k0u p_bans_not_kept (hr.mono (by decide)) rfl (k0a (pv 0) (k0a (pv 2) k0g)))) (k0e (ps_if (k0x op_gt (k1a (lenK K rfl) (by rfl) T.n_len PySem.boot_len (k0a (pv 5) k0g)) k0n (k1e _)) (k0j (k0q (k1g (k0a k0n (k0a (pe_ix (k0w K rfl) (pv 5) k0n (fun _ _=>rfl)) k0g))))) k0z) (k0j (k0q (k1g (k0a k0n (k0a (k0u p_product_sum (hr.mono (by decide)) rfl (k0a (k0v K rfl (pv 0) rfl) (k0a (pv 2) k0g))) k0g))))))))))))),?_⟩
  have e0:Vawctd.step k (.way ns)=(k,Vawctd.wayRow k ns):=rfl
  rw[e0] at q
  refine⟨_,rfl,_,rfl,p,a,ns,k,h,rfl,x,wf,ha,_,rfl,?_⟩
  have g:=goI_eq k ns 0
  by_cases h1:goI k 0 ns=true
  case neg =>
   rw[eq_false_of_ne_true h1] at g ⊢
   have e1:Vawctd.wayRow k ns=[-10]:=by
    unfold Vawctd.wayRow
    have:(ns.any (fun n=>decide (n < 0)) || !Vawctd.isWay k (ns.map Int.toNat))=true:=by
     unfold Vawctd.isWay
     cases q1:ns.any (fun n=>decide (n < 0))<;>cases q2:Vawctd.goesFrom k 0 (ns.map Int.toNat)<;>simp_all
    simp only[this,if_true]
   rw[e1] at q
   exact iteT ⟨(by show 1≤sizeLine;decide),fun r hr=>q.ask x Same.rfl' hr⟩
  rw[h1] at g ⊢
  have e1:(ns.any (fun n=>decide (n < 0)) || !Vawctd.isWay k (ns.map Int.toNat))=false:=by
   unfold Vawctd.isWay
   cases q1:ns.any (fun n=>decide (n < 0))<;>cases q2:Vawctd.goesFrom k 0 (ns.map Int.toNat)<;>simp_all
  unfold Vawctd.wayRow at q
  simp only[e1,Bool.false_eq_true,if_false] at q
  generalize hxe:countsOf k (ns.map Int.toNat)=cx at q
  have hxl:cx.length=k.edges.length:=by rw[← hxe];exact countsOf_len _ _
  refine iteF ⟨_,rfl,_,rfl,p,a,ns,k,h,rfl,x,wf,ha,goI_edges k ns 0 h1,fun H1 lc s1 hlc=>?_⟩
  rw[hxe] at hlc
  have x1:=x.same s1
  refine⟨_,rfl,_,rfl,p,lc,cx,k,h,rfl,x1.r,wf,hxl,SqL.of hlc,fun H2 l2 s2 hl2=>?_⟩
  have S2:=s1.trans s2
  refine⟨_,rfl,_,_,rfl,.inl (SqL.of hl2),_,_,rfl,rfl,_,rfl,?_⟩
  rw[ints_len]
  rcases idx_cases (aboveOf k cx) (idxs_find _ (k.edges.zip cx) 0) with ⟨n1,f1⟩|⟨i,r,n1,f1⟩
  case inr =>
   rw[n1] at hl2 ⊢
   rw[f1] at q
   rw[decide_eq_true (by simp)]
   exact iteT ⟨_,rfl,l2,_,_,_,rfl,rfl,SqL.of hl2,at_nat (x:=i::r) (i:=0) rfl,(by show 2≤sizeLine;decide),fun rr hr=>q.ask x S2 hr⟩
  rw[n1]
  rw[f1] at q
  have x2:=x.same S2
  refine iteF ⟨_,rfl,_,rfl,p,lc,cx,k,h,rfl,x2.r,wf,hxl,SqL.of (s2 _ _ hlc),fun H3 l3 s3 hl3=>?_⟩
  have S3:=S2.trans s3
  have x3:=x.same S3
  refine⟨_,rfl,_,_,rfl,.inl (SqL.of hl3),_,_,rfl,rfl,_,rfl,?_⟩
  rw[ints_len]
  rcases idx_cases (unkeptOf k cx) (idxs_find _ k.facts 0) with ⟨n2,f2⟩|⟨i,r,n2,f2⟩
  case inr =>
   rw[n2] at hl3 ⊢
   rw[f2] at q
   rw[decide_eq_true (by simp)]
   exact iteT ⟨_,rfl,l3,_,_,_,rfl,rfl,SqL.of hl3,at_nat (x:=i::r) (i:=0) rfl,(by show 2≤sizeLine;decide),fun rr hr=>q.ask x S3 hr⟩
  rw[n2]
  rw[f2] at q
  refine iteF ⟨_,rfl,_,rfl,p,lc,cx,k,h,rfl,x3.r,wf,hxl,SqL.of (s3 _ _ (s2 _ _ hlc)),fun H4 l4 s4 hl4=>?_⟩
  have S4:=S3.trans s4
  have x4:=x.same S4
  refine⟨_,rfl,_,_,rfl,.inl (SqL.of hl4),_,_,rfl,rfl,_,rfl,?_⟩
  rw[ints_len]
  rcases idx_cases (unbanOf k cx) (idxs_find _ k.bans 0) with ⟨n3,f3⟩|⟨i,r,n3,f3⟩
  case inr =>
   rw[n3] at hl4 ⊢
   rw[f3] at q
   rw[decide_eq_true (by simp)]
   exact iteT ⟨_,rfl,l4,_,_,_,rfl,rfl,SqL.of hl4,at_nat (x:=i::r) (i:=0) rfl,(by show 2≤sizeLine;decide),fun rr hr=>q.ask x S4 hr⟩
  rw[n3]
  rw[f3] at q
  have e16:=wf.e16
  refine iteF ⟨_,rfl,p,C,_,_,_,rfl,x4.obj,c.cl,c.costs,hf_costs,_,rfl,h.aK,lc,_,_,rfl,SqL.of x4.co,SqL.of (s4 _ _ (s3 _ _ (s2 _ _ hlc))),k1q (by rw[List.length_map];omega),(fun m hm=>?_),fun H5 s5=>?_⟩
  ·obtain⟨d,hd,rfl⟩:=List.mem_map.mp hm
   have:=(wf.ed d hd).2.2.1
   omega
  refine⟨(by show 2≤sizeLine;decide),fun rr hr=>?_⟩
  rw[costBy_dot] at q
  exact q.ask x (S4.trans s5) hr
end
end Ww
end
section
namespace Ww
open PySem PySem.Spec PyProof.Rows L2
open Vawctd (Known Edge Fact inRange toInts countsOf)
theorem Wf.g {k:Known} (w:Wf k):WfG k:=⟨w.n2,fun d h=>(w.ed d h).1,fun d h=>(w.ed d h).2.1⟩
theorem ix_nat {α:Type} {xs:List α} {e:Int} {i:Nat} (he:e=(i:Int)) (h:i < xs.length):ixN xs.length e=some i:=by
 unfold ixN
 rw[if_pos (by omega),if_pos (by omega),he]
 rfl
theorem map_set_int (l:List Int) (i:Nat) (a:Int):(l.map V.int).set i (V.int a)=(l.set i a).map V.int:=by rw[List.map_set]
section
variable {P:Program} {w:World} {K:PySem.W.Frag} {mg:Str->Option Value} {base:Heap} {C:Addr}
def sp_from (K:PySem.W.Frag) (C:Addr) (g:Known->Vawctd.Counts->Nat->Bool):Sp:=fun vs H Q _=>∃ (p b:Addr) (x:Vawctd.Counts) (u:Nat) (k:Known) (h:HA),vs=[.ref p,.int (u:Int),.ref b]∧HeldR C H p k h∧Wf k∧x.length=k.edges.length∧u < k.nodes∧SqL K H b ((toInts x).map V.int) ∧
 ∀ H',Same H H'->Q (.bl (g k x u)) H'
abbrev s_is_balanced:Stmt:=top 59
theorem sc_is_balanced:FnScope ["held","start","counts","surplus","edge","count"] ["held","start","counts"] (k0m s_is_balanced):=⟨rfl,rfl,rfl,by decide +kernel,rfl,by decide +kernel,by decide +kernel⟩
theorem ok_is_balanced (T:Txt K mg) (c:Cl K C) (D:Dfn K mg "is_balanced" s_is_balanced ["held","start","counts"]):Prom P w K mg base 1 "is_balanced" ["held","start","counts"] (sp_from K C Vawctd.flows):=by
 refine D.prom sc_is_balanced (fun vs H Q E h=>?_) (fun f cdv A outer s H vs Q E hr h=>?_)
 ·obtain⟨_,_,_,_,_,_,rfl,_⟩:=h
  rfl
 ·obtain⟨p,b,x,u,k,h,rfl,X,wf,hxl,hu,hb,q⟩:=h
  refine⟨_,(k0e (k1m (i:=3) sc_is_balanced.nd rfl (Or.inl rfl) (pe_op op_rep (k1g (k0a k0n k0g)) (k0v K rfl (pv 0) rfl))) (k0e (ps_augS (pv 3) (pv 1) (getK_list K rfl) k0n ip_add set_list) (k0e (ps_augS (pv 3) (pe_op op_sub (k0v K rfl (pv 0) rfl) k0n) (getK_list K rfl) k0n ip_sub set_list) (k0e (ps_for PassesOwn.never rfl (pi_enumK K rfl rfl T.n_enumerate (k0a (pv 2) k0g)) (pg_tupK K (n:=2) rfl rfl (k1h (k1f (i:=4) sc_is_balanced.nd rfl (by first|exact Or.inl rfl|exact Or.inr rfl)) (k1h (k1f (i:=5) sc_is_balanced.nd rfl (by first|exact Or.inl rfl|exact Or.inr rfl)) pgs_nil))) (k0e (ps_augS (pv 3) (pe_ix (k0w K rfl) (k0v K rfl (pv 0) rfl) (pv 4) (fun _ _=>rfl)) (getK_list K rfl) (pv 5) ip_add set_list) (k0j (ps_augS (pv 3) (pe_ix (k0w K rfl) (k0v K rfl (pv 0) rfl) (pv 4) (fun _ _=>rfl)) (getK_list K rfl) (pv 5) ip_sub set_list)))) (k0j (k0q (pe_not (k1a (anyIK K rfl rfl) (by rfl) T.n_any b_any (k0a (pv 3) k0g))))))))),?_⟩
  have n8:=wf.n8
  have n2:=wf.n2
  have e16:=wf.e16
  have hex:Vawctd.exitOf k < k.nodes:=by unfold Vawctd.exitOf;omega
  refine⟨(by show 1≤sizeLine;decide),fun l0 hl0=>?_⟩
  have s0:Same H (upd H l0 (.lst [V.int 0])):=Same.new hl0
  have x0:=X.same s0
  refine⟨_,rfl,p,C,_,_,_,rfl,x0.obj,c.cl,c.nodes,hf_nodes,l0,_,_,rfl,rfl,k0f,(by omega),(by omega),(by show 1*_≤sizeLine;rw[Int.toNat_natCast,Nat.one_mul];exact Nat.le_trans n8 (by decide)),fun l hl=>?_⟩
  have e1:(List.replicate ((k.nodes:Int)).toNat [V.int 0]).flatten=(List.replicate k.nodes (0:Int)).map V.int:=by
   rw[Int.toNat_natCast]
   simp[List.map_replicate]
  rw[e1]
  have hln:H l=none:=s0.free hl
  have s1:Same H (upd (upd H l0 (.lst [V.int 0])) l (.lst ((List.replicate k.nodes (0:Int)).map V.int))):=s0.grow hl
  refine⟨_,rfl,_,rfl,l,_,_,_,rfl,rfl,SqL.of k0f,at_int (i:=u) (n:=0) (by rw[List.getElem?_replicate,if_pos hu]),_,_,rfl,rfl,l,_,_,u,rfl,rfl,k0f,ix_nat rfl (by simpa using hu),?_⟩
  rw[upd_upd,map_set_int]
  have s2:Same H (upd (upd H l0 (.lst [V.int 0])) l (.lst (((List.replicate k.nodes (0:Int)).set u (0+1)).map V.int))):=s0.grow hl
  have x2:=X.same s2
  have ee:(k.nodes:Int) - 1=((Vawctd.exitOf k:Nat):Int):=by unfold Vawctd.exitOf;omega
  have hlenA:((List.replicate k.nodes (0:Int)).set u (0+1)).length=k.nodes:=by simp
  refine⟨_,rfl,_,rfl,p,C,_,_,_,rfl,x2.obj,c.cl,c.nodes,hf_nodes,_,_,rfl,rfl,l,_,_,_,rfl,rfl,SqL.of k0f,at_int' (n:=((List.replicate k.nodes (0:Int)).set u (0+1)).getD (Vawctd.exitOf k) 0) ee (by rw[List.getD_eq_getElem?_getD,List.getElem?_eq_getElem (by rw[hlenA];exact hex)];rfl),_,_,rfl,rfl,l,_,_,Vawctd.exitOf k,rfl,rfl,k0f,ix_nat ee (by rw[List.length_map,hlenA];exact hex),?_⟩
  rw[upd_upd]
  generalize hH3:upd (upd H l0 (.lst [V.int 0])) l _=H3
  have s3:Same H H3:=by rw[← hH3];exact s0.grow hl
  have hl3:H3 l=some (.lst ((surpRow k x u 0).map V.int)):=by rw[← hH3,k0f,map_set_int,surpRow_zero (x:=x) hu n2];rfl
  refine⟨_,rfl,b,_,rfl,s3.seq hb,for_gen (J:=Ite K b) (n:=k.edges.length) (fun i σ H'=>∃ v1 v2:Option V,σ=[some (.ref p),some (.int (u:Int)),some (.ref b),some (.ref l),v1,v2]∧Same H H'∧H' l=some (.lst ((surpRow k x u i).map V.int)))
   ⟨none,none,rfl,s3,hl3⟩ (fun i σ H' hi ⟨_,_,_,s5,_⟩=>⟨_,_,s5.seq hb,List.getElem?_eq_getElem (by rw[ints_len,hxl];exact hi)⟩) (fun σ H' ⟨_,_,_,s5,_⟩=>⟨_,s5.seq hb,by rw[ints_len,hxl];exact Nat.le_refl _⟩) ?_ ?_⟩
  ·rintro i y σ H' H'' hi ⟨v1,v2,rfl,s5,hl5⟩ ⟨T,z,rfl,hT,rfl,hz⟩
   obtain⟨n,hn,rfl⟩:=get_nat (hz _ (s5.seq hb))
   have s6:Same H' (upd H' T (.tup [.int (i:Nat),.int (n:Int)])):=Same.new hT
   have S6:=s5.trans s6
   have X6:=X.same S6
   have hl6:=s6 _ _ hl5
   have hfi:=List.getElem?_eq_getElem hi
   have hmem:=List.getElem_mem hi
   generalize k.edges[i]=d at hfi hmem
   obtain⟨w1,w2,_,_⟩:=wf.ed d hmem
   refine⟨T,_,rfl,SqT.of k0f,rfl,_,_,rfl,_,_,rfl,rfl,?_⟩
   have hcm:atI ((k.edges.map fun d=>(d.dst:Int)).map V.int) (i:Int)=some (.int (d.dst:Int)):=at_int (by rw[List.getElem?_map,hfi];rfl)
   have hlv:atI ((k.edges.map fun d=>(d.src:Int)).map V.int) (i:Int)=some (.int (d.src:Int)):=at_int (by rw[List.getElem?_map,hfi];rfl)
   refine⟨_,rfl,_,rfl,p,C,_,_,_,rfl,X6.obj,c.cl,c.comes,hf_comes,_,rfl,h.aC,_,_,_,rfl,rfl,SqL.of X6.cm,hcm,l,_,_,_,rfl,rfl,SqL.of hl6,at_int (surpRow_get w2),_,rfl,_,_,rfl,rfl,l,_,_,d.dst,rfl,rfl,hl6,ix_nat rfl (by rw[List.length_map,surpRow_len];exact w2),?_⟩
   rw[map_set_int]
   have S7:Same H (upd (upd H' T (.tup [.int (i:Nat),.int (n:Int)])) l (.lst (((surpRow k x u i).set d.dst (surp k x u i d.dst+(n:Int))).map V.int))):=S6.put hln
   have X7:=X.same S7
   refine⟨_,rfl,_,rfl,p,C,_,_,_,rfl,X7.obj,c.cl,c.leaves,hf_leaves,_,rfl,h.aL,_,_,_,rfl,rfl,SqL.of X7.lv,hlv,l,_,_,_,rfl,rfl,SqL.of k0f,at_int (n:=((surpRow k x u i).set d.dst (surp k x u i d.dst+(n:Int))).getD d.src 0) (by rw[List.getD_eq_getElem?_getD,List.getElem?_eq_getElem (by rw[List.length_set,surpRow_len];exact w1)];rfl),_,rfl,_,_,rfl,rfl,l,_,_,d.src,rfl,rfl,k0f,ix_nat rfl (by rw[List.length_map,List.length_set,surpRow_len];exact w1),?_⟩
   rw[upd_upd]
   refine⟨_,_,rfl,S6.put hln,?_⟩
   rw[k0f,map_set_int,surpRow_succ hfi hn w2 w1]
  ·rintro σ H' ⟨v1,v2,rfl,s5,hl5⟩
   refine⟨_,rfl,l,_,rfl,SqL.of hl5,_,rfl,?_⟩
   have:=q H' s5
   rw[flows_surp hxl] at this
   exact this
abbrev s_reached_nodes:Stmt:=top 61
theorem sc_reached_nodes:FnScope ["held","start","counts","reached","waiting","node","edge","count","other"] ["held","start","counts"] (k0m s_reached_nodes):=⟨rfl,rfl,rfl,by decide +kernel,rfl,by decide +kernel,by decide +kernel⟩
def sp_reached (K:PySem.W.Frag) (C:Addr):Sp:=fun vs H Q _=>∃ (p b:Addr) (x:Vawctd.Counts) (u:Nat) (k:Known) (h:HA),vs=[.ref p,.int (u:Int),.ref b]∧HeldR C H p k h∧Wf k∧x.length=k.edges.length∧u < k.nodes∧SqL K H b ((toInts x).map V.int) ∧
 ∀ H' l bs,Same H H'->Dfs k x u bs []->H' l=some (.lst (bs.map V.bl))->Q (.ref l) H'
theorem at_bl {bs:List Bool} {i:Nat} (h:i < bs.length):atI (bs.map V.bl) (i:Int)=some (.bl (bs.getD i false)):=k1n (by rw[List.getElem?_map,List.getD_eq_getElem?_getD,List.getElem?_eq_getElem h];rfl)
theorem ok_reached_nodes (T:Txt K mg) (c:Cl K C) (D:Dfn K mg "reached_nodes" s_reached_nodes ["held","start","counts"]):Prom P w K mg base 1 "reached_nodes" ["held","start","counts"] (sp_reached K C):=by
 refine D.prom sc_reached_nodes (fun vs H Q E h=>?_) (fun f cdv A outer s H vs Q E hr h=>?_)
 ·obtain⟨_,_,_,_,_,_,rfl,_⟩:=h
  rfl
 ·obtain⟨p,b,x,u,k,h,rfl,X,wf,hxl,hu,hb,q⟩:=h
  refine⟨_,(k0e (k1m (i:=3) sc_reached_nodes.nd rfl (Or.inl rfl) (pe_op op_rep (k1g (k0a pe_bl k0g)) (k0v K rfl (pv 0) rfl))) (k0e (ps_asg pe_bl (pg_sub (pv 3) (pv 1) set_list)) (k0e (k1m (i:=4) sc_reached_nodes.nd rfl (Or.inl rfl) (k1g (k0a (pv 1) k0g))) (k0e (ps_while PassesOwn.never (k0x op_gt (k1a (lenK K rfl) (by rfl) T.n_len PySem.boot_len (k0a (pv 4) k0g)) k0n (k1e _)) (k0e (k1m (i:=5) sc_reached_nodes.nd rfl (Or.inl rfl) (pe_bm0 PySem.F.plainAttrs_list PySem.F.slot_list_pop PySem.F.type_list_pop mt_pop (pv 4))) (k0j (ps_for PassesOwn.never rfl (pi_enumK K rfl rfl T.n_enumerate (k0a (pv 2) k0g)) (pg_tupK K (n:=2) rfl rfl (k1h (k1f (i:=6) sc_reached_nodes.nd rfl (by first|exact Or.inl rfl|exact Or.inr rfl)) (k1h (k1f (i:=7) sc_reached_nodes.nd rfl (by first|exact Or.inl rfl|exact Or.inr rfl)) pgs_nil))) (k0e (k1m (i:=8) sc_reached_nodes.nd rfl (Or.inl rfl) (pe_ix (k0w K rfl) (k0v K rfl (pv 0) rfl) (pv 6) (fun _ _=>rfl))) (k0j (ps_if (PW.pt (pw_and (k0x op_gt (pv 7) k0n (k1e _)) (pw_and (k0x op_eq (pe_ix (k0w K rfl) (k0v K rfl (pv 0) rfl) (pv 6) (fun _ _=>rfl)) (pv 5) (k1e _)) (pw_and1 (pt_not (k1r K rfl (pe_ix (k0w K rfl) (pv 3) (pv 8) (fun _ _=>rfl)) (fun _=>rfl))))))) (k0e (ps_asg pe_bl (pg_sub (pv 3) (pv 8) set_list)) (k0j (ps_expr (pe_bm PySem.F.plainAttrs_list PySem.F.slot_list_append PySem.F.type_list_append mt_append (pv 4) (k0a (pv 8) k0g))))) k0z))))))) (k0j (k0q (pv 3))))))),?_⟩
  have n8:=wf.n8
  have n2:=wf.n2
  refine⟨(by show 1≤sizeLine;decide),fun l0 hl0=>?_⟩
  have s0:Same H (upd H l0 (.lst [V.bl false])):=Same.new hl0
  have x0:=X.same s0
  refine⟨_,rfl,p,C,_,_,_,rfl,x0.obj,c.cl,c.nodes,hf_nodes,l0,_,_,rfl,rfl,k0f,(by omega),(by omega),(by show 1*_≤sizeLine;rw[Int.toNat_natCast,Nat.one_mul];exact Nat.le_trans n8 (by decide)),fun l hl=>?_⟩
  have e1:(List.replicate ((k.nodes:Int)).toNat [V.bl false]).flatten=(List.replicate k.nodes false).map V.bl:=by
   rw[Int.toNat_natCast]
   simp[List.map_replicate]
  rw[e1]
  have hln:H l=none:=s0.free hl
  refine⟨_,rfl,_,rfl,l,_,_,u,rfl,rfl,k0f,ix_nat rfl (by simpa using hu),?_⟩
  rw[upd_upd,← List.map_set]
  have s1:Same H (upd (upd H l0 (.lst [V.bl false])) l (.lst (((List.replicate k.nodes false).set u true).map V.bl))):=s0.grow hl
  generalize hH1:upd (upd H l0 (.lst [V.bl false])) l (.lst (((List.replicate k.nodes false).set u true).map V.bl))=H1 at s1
  have hl1:H1 l=some (.lst (((List.replicate k.nodes false).set u true).map V.bl)):=by rw[← hH1];exact k0f
  refine⟨_,rfl,(by show 1≤sizeLine;decide),fun t ht=>?_⟩
  have htn:H t=none:=s1.free ht
  have hlt:l≠t:=k0h hl1 ht
  refine while_by (fun σ H'=>∃ (v1 v2 v3 v4:Option V) (bs:List Bool) (wt:List Nat),σ=[some (.ref p),some (.int (u:Int)),some (.ref b),some (.ref l),some (.ref t),v1,v2,v3,v4]∧Same H H'∧H' l=some (.lst (bs.map V.bl))∧H' t=some (.lst ((toInts wt).map V.int))∧Dfs k x u bs wt∧wt.length+unseen bs≤8)
   (fun σ H'=>match H' l,H' t with
    | some (.lst bs),some (.lst wt)=>2*(bs.filter fun v=>decide (v=V.bl false)).length+wt.length
    | _,_=>0) ⟨none,none,none,none,_,[u],rfl,s1.grow ht,?_,k0f,Dfs.init hu,?_⟩ ?_ ?_
  ·rw[k0p hlt];exact hl1
  ·have:unseen ((List.replicate k.nodes false).set u true)+1=unseen (List.replicate k.nodes false):=unseen_set (by rw[List.getElem?_replicate,if_pos hu])
   have e2:unseen (List.replicate k.nodes false)=k.nodes:=by unfold unseen;rw[List.filter_eq_self.mpr (by simp)];simp
   show 1+_≤8
   omega
  ·rintro σ H' ⟨v1,v2,v3,v4,bs,wt,rfl,s5,hl5,ht5,dfs,hsz⟩
   refine⟨_,rfl,t,_,rfl,.inl (SqL.of ht5),_,_,rfl,rfl,_,rfl,?_⟩
   rw[ints_len]
   rcases List.eq_nil_or_concat wt with e|⟨wt0,n,e⟩
   ·subst e
    refine iteF ⟨_,rfl,?_⟩
    exact q H' l bs s5 dfs hl5
   ·rw[List.concat_eq_append] at e
    subst e
    rw[decide_eq_true (by simp)]
    have hlast:((toInts (wt0++[n])).map V.int)[((toInts (wt0++[n])).map V.int).length - 1]?=some (.int (n:Int)):=by
     rw[ints_len,List.getElem?_map,toInts_get]
     simp
    have hdrop:((toInts (wt0++[n])).map V.int).dropLast=(toInts wt0).map V.int:=by
     unfold toInts
     simp
    refine iteT ⟨_,rfl,.inl ⟨rfl,_,SqL.of ht5⟩,t,_,_,rfl,rfl,ht5,hlast,?_⟩
    rw[hdrop]
    have S6:Same H (upd H' t (.lst ((toInts wt0).map V.int))):=s5.put htn
    have hl6:(upd H' t (.lst ((toInts wt0).map V.int))) l=some (.lst (bs.map V.bl)):=by rw[k0p hlt];exact hl5
    have hn8:n < k.nodes:=(dfs.wait n (by simp)).2
    have mu:∀ {G:Hp} {bs':List Bool} {wt':List Nat},G l=some (.lst (bs'.map V.bl))->G t=some (.lst ((toInts wt').map V.int))->(match G l,G t with
      | some (.lst bs),some (.lst wt)=>2*(bs.filter fun v=>decide (v=V.bl false)).length+wt.length
      | _,_=>0)=2*unseen bs'+wt'.length:=fun {G bs' wt'} g1 g2=>by
     rw[g1,g2]
     show 2*((bs'.map V.bl).filter fun v=>decide (v=V.bl false)).length+((toInts wt').map V.int).length=_
     rw[ints_len,List.filter_map,List.length_map]
     have:(fun v=>decide (v=V.bl false))∘V.bl=fun b=>!b:=by funext b;cases b<;>rfl
     rw[this]
     rfl
    refine⟨_,rfl,b,_,rfl,S6.seq hb,for_gen (J:=Ite K b) (n:=k.edges.length) (fun i σ G=>∃ (v2 v3 v4:Option V) (bs':List Bool) (wt':List Nat),σ=[some (.ref p),some (.int (u:Int)),some (.ref b),some (.ref l),some (.ref t),some (.int (n:Int)),v2,v3,v4]∧Same H G∧G l=some (.lst (bs'.map V.bl))∧G t=some (.lst ((toInts wt').map V.int))∧DfsIn k x u n i bs' wt'∧wt'.length+unseen bs'≤8∧2*unseen bs'+wt'.length≤2*unseen bs+wt0.length)
     ⟨v2,v3,v4,bs,wt0,rfl,S6,hl6,k0f,dfs.take,(by simp at hsz;omega),Nat.le_refl _⟩ (fun i σ G hi ⟨_,_,_,_,_,_,s7,_⟩=>⟨_,_,s7.seq hb,List.getElem?_eq_getElem (by rw[ints_len,hxl];exact hi)⟩) (fun σ G ⟨_,_,_,_,_,_,s7,_⟩=>⟨_,s7.seq hb,by rw[ints_len,hxl];exact Nat.le_refl _⟩) ?_ ?_⟩
    ·rintro i y σ G G' hi ⟨w2,w3,w4,bs',wt',rfl,s7,hl7,ht7,din,hsz',hmu⟩ ⟨T,z,rfl,hT,rfl,hz⟩
     obtain⟨m,hm,rfl⟩:=get_nat (hz _ (s7.seq hb))
     have s8:Same G (upd G T (.tup [.int (i:Nat),.int (m:Int)])):=Same.new hT
     have S8:=s7.trans s8
     have X8:=X.same S8
     have hl8:=s8 _ _ hl7
     have ht8:=s8 _ _ ht7
     generalize hG8:upd G T (.tup [.int (i:Nat),.int (m:Int)])=G8 at s8 S8 X8 hl8 ht8
     have hfi:=List.getElem?_eq_getElem hi
     have hmem:=List.getElem_mem hi
     generalize k.edges[i]=d at hfi hmem
     obtain⟨w1',w2',_,_⟩:=wf.ed d hmem
     have hmD:x.getD i 0=m:=getD_of hm
     have hcm:atI ((k.edges.map fun d=>(d.dst:Int)).map V.int) (i:Int)=some (.int (d.dst:Int)):=at_int (by rw[List.getElem?_map,hfi];rfl)
     have hlv:atI ((k.edges.map fun d=>(d.src:Int)).map V.int) (i:Int)=some (.int (d.src:Int)):=at_int (by rw[List.getElem?_map,hfi];rfl)
     refine⟨T,_,rfl,SqT.of (by rw[← hG8];exact k0f),rfl,_,_,rfl,_,_,rfl,rfl,?_⟩
     refine⟨_,rfl,p,C,_,_,_,rfl,X8.obj,c.cl,c.comes,hf_comes,_,rfl,h.aC,_,_,_,rfl,rfl,SqL.of X8.cm,hcm,?_⟩
     refine⟨_,rfl,_,_,rfl,rfl,_,rfl,?_⟩
     have skip:(∀ d',k.edges[i]?=some d'->0 < x.getD i 0->d'.src=n->bs'.getD d'.dst false=true)->DfsIn k x u n (i+1) bs' wt':=din.skip
     by_cases c1:0 < m
     case neg =>
      rw[decide_eq_false (p:=(0:Int) < (m:Int)) (by omega)]
      exact iteF (iteF ⟨_,_,_,bs',wt',rfl,S8,hl8,ht8,skip fun d' _ hp=>by rw[hmD] at hp;exact absurd hp c1,hsz',hmu⟩)
     rw[decide_eq_true (p:=(0:Int) < (m:Int)) (by omega)]
     refine iteT ⟨_,rfl,p,C,_,_,_,rfl,X8.obj,c.cl,c.leaves,hf_leaves,_,rfl,h.aL,_,_,_,rfl,rfl,SqL.of X8.lv,hlv,_,rfl,rfl,_,rfl,?_⟩
     rw[k1u]
     by_cases c2:d.src=n
     case neg =>
      rw[decide_eq_false (p:=(d.src:Int)=(n:Int)) (by omega)]
      exact iteF (iteF ⟨_,_,_,bs',wt',rfl,S8,hl8,ht8,skip fun d' e' _ hs=>absurd hs (by rw[hfi] at e';cases e';exact c2),hsz',hmu⟩)
     rw[decide_eq_true (p:=(d.src:Int)=(n:Int)) (by omega)]
     have hbl:d.dst < bs'.length:=by rw[din.len];exact w2'
     refine iteT ⟨_,rfl,_,rfl,l,_,_,_,rfl,rfl,SqL.of hl8,at_bl hbl,_,rfl,?_⟩
     cases c3:bs'.getD d.dst false with
     | true=>exact iteF ⟨_,_,_,bs',wt',rfl,S8,hl8,ht8,skip fun d' e' _ _=>by rw[hfi] at e';cases e';exact c3,hsz',hmu⟩
     | false =>
      refine iteT ⟨_,rfl,_,rfl,l,_,_,d.dst,rfl,rfl,hl8,ix_nat rfl (by rw[List.length_map];exact hbl),?_⟩
      have ht9:(upd G8 l (.lst ((bs'.map V.bl).set d.dst (.bl true)))) t=some (.lst ((toInts wt').map V.int)):=by rw[k0p (Ne.symm hlt)];exact ht8
      refine⟨_,rfl,.inl ⟨rfl,_,SqL.of ht9⟩,_,rfl,t,_,_,rfl,rfl,ht9,(by rw[ints_len];exact Nat.lt_of_le_of_lt (show wt'.length≤8 by omega) (by decide)),?_⟩
      have us:=unseen_set (bs:=bs') (i:=d.dst) (by rw[List.getElem?_eq_getElem hbl];rw[List.getD_eq_getElem?_getD,List.getElem?_eq_getElem hbl] at c3;exact congrArg some c3)
      refine⟨_,_,_,bs'.set d.dst true,wt'++[d.dst],rfl,(S8.put hln).put htn,?_,?_,din.add hfi (by rw[hmD];exact c1) c2 w2' c3,(by simp;omega),(by simp;omega)⟩
      ·rw[k0p hlt,k0f,List.map_set]
      ·rw[k0f]
       unfold toInts
       simp
    ·rintro σ G ⟨w2,w3,w4,bs',wt',rfl,s7,hl7,ht7,din,hsz',hmu⟩
     refine⟨⟨_,w2,w3,w4,bs',wt',rfl,s7,hl7,ht7,din.give,hsz'⟩,?_⟩
     show (match G l,G t with
      | some (.lst bs),some (.lst wt)=>2*(bs.filter fun v=>decide (v=V.bl false)).length+wt.length
      | _,_=>0) < (match H' l,H' t with
      | some (.lst bs),some (.lst wt)=>2*(bs.filter fun v=>decide (v=V.bl false)).length+wt.length
      | _,_=>0)
     rw[mu hl7 ht7,mu hl5 ht5]
     simp
     omega
  ·rintro σ G Q1 Q2 hq ⟨v1,e1,p1,ys,e2,h2,i,j,e3,e4,kk,e5,h6⟩
   exact⟨v1,e1,p1,ys,e2,h2,i,j,e3,e4,kk,e5,hq _ _ h6⟩
end
end Ww
end
section
namespace Ww
open PySem PySem.Spec PyProof.Rows L2
open Vawctd (Known Edge Fact inRange toInts countsOf)
theorem enum_fm {α β:Type} (f:α->Option β) (mk:β->V):∀ (ys:List α) (vs:List V) (g:Nat->V->Option V) (k:Nat),vs.length=ys.length->(∀ (i:Nat) v y,vs[i]?=some v->ys[i]?=some y->g (k+i) v=(f y).map mk) ->
  (vs.zipIdx k).filterMap (fun z=>g z.2 z.1)=(ys.filterMap f).map mk
 | [],[],g,k,_,_=>rfl
 | [],_::_,g,k,h,_=>by simp at h
 | _::_,[],g,k,h,_=>by simp at h
 | y::ys,v::vs,g,k,hl,h=>by
  have ih:=enum_fm f mk ys vs g (k+1) (by simpa using hl) fun i v' y' a b=>by
   have:=h (i+1) v' y' (by simpa using a) (by simpa using b)
   rw[show k+1+i=k+(i+1) by omega]
   exact this
  rw[List.zipIdx_cons,List.filterMap_cons,ih,List.filterMap_cons]
  have h0:=h 0 v y rfl rfl
  rw[Nat.add_zero] at h0
  rw[show g (v,k).snd (v,k).fst=_ from h0]
  cases f y<;>rfl
theorem toInts_sum:∀ x:List Nat,(toInts x).sum=((Vawctd.sum x:Nat):Int)
 | []=>rfl
 | c::x=>by
  have ih:=toInts_sum x
  unfold toInts at ih ⊢
  rw[List.map_cons,List.sum_cons,ih,sum_cons]
  omega
section
variable {P:Program} {w:World} {K:PySem.W.Frag} {mg:Str->Option Value} {base:Heap} {C:Addr}
abbrev s_all_reached:Stmt:=top 60
theorem sc_all_reached:FnScope ["held","start","counts","reached","edge","count"] ["held","start","counts"] (k0m s_all_reached):=⟨rfl,rfl,rfl,by decide +kernel,rfl,by decide +kernel,by decide +kernel⟩
def gReach (k:Known) (bs:List Bool) (i:Nat):V->Option V:=onI fun n=>if decide ((0:Int) < n) then some (.bl (bs.getD (k.edges.getD i ⟨0,0,0,0⟩).src false)) else none
theorem ok_all_reached (T:Txt K mg) (c:Cl K C) (D:Dfn K mg "all_reached" s_all_reached ["held","start","counts"]) (p_reached_nodes:Prom P w K mg base 1 "reached_nodes" ["held","start","counts"] (sp_reached K C)) :
  Prom P w K mg base 2 "all_reached" ["held","start","counts"] (sp_from K C Vawctd.hangs):=by
 refine D.prom sc_all_reached (fun vs H Q E h=>?_) (fun f cdv A outer s H vs Q E hr h=>?_)
 ·obtain⟨_,_,_,_,_,_,rfl,_⟩:=h
  rfl
 ·obtain⟨p,b,x,u,k,h,rfl,X,wf,hxl,hu,hb,q⟩:=h
  refine⟨_,(k0e (k1m (i:=3) sc_all_reached.nd rfl (Or.inr rfl) (k0u p_reached_nodes (hr.mono (by decide)) rfl (k0a (pv 0) (k0a (pv 1) (k0a (pv 2) k0g))))) (k0j (k0q (k1a (allK K rfl rfl) (by rfl) T.n_all b_all (k0a (pe_lc (own:=[("edge",4),("count",5)]) rfl sc_all_reached.nd (pi_enumK K rfl rfl T.n_enumerate (k0a (pv 2) k0g)) (blkOk_by (by exact (show blkC ["held","start","counts","reached","edge","count"] (k0m s_all_reached) _ _=true by decide +kernel))) (fun _ _ _ _ _=>(pg_tupK K (n:=2) rfl rfl (k1h (k1f (i:=4) sc_all_reached.nd rfl (by first|exact Or.inl rfl|exact Or.inr rfl)) (k1h (k1f (i:=5) sc_all_reached.nd rfl (by first|exact Or.inl rfl|exact Or.inr rfl)) pgs_nil)))) (fun _ _ _ _ _=>(pts_one (k0x op_gt (pv 5) k0n (k1e _)))) (fun _ _ _ _ _=>(pe_ix (k0w K rfl) (pv 3) (pe_ix (k0w K rfl) (k0v K rfl (pv 0) rfl) (pv 4) (fun _ _=>rfl)) (fun _ _=>rfl)))) k0g))))),?_⟩
  have e16:=wf.e16
  refine⟨_,rfl,_,rfl,_,rfl,p,b,x,u,k,h,rfl,X,wf,hxl,hu,hb,fun H1 l bs s1 dfs hl=>?_⟩
  have hb1:=s1.seq hb
  refine⟨_,rfl,b,_,rfl,hb1,fun D hD=>lc_E (xs:=(toInts x).map V.int) (gReach k bs) hD (by rw[ints_len];exact k1q (by omega)) hb1 (fun i v H2 T Y N e hS hT hY hN=>?_) (fun H2 hS hD2=>?_)⟩
  ·obtain⟨n,hn,rfl⟩:=get_nat e
   have hlt:i < k.edges.length:=by rw[← hxl];exact (List.getElem?_eq_some_iff.mp hn).1
   have hfi:=List.getElem?_eq_getElem hlt
   have hmem:=List.getElem_mem hlt
   generalize k.edges[i]=d at hfi hmem
   obtain⟨w1,w2,_,_⟩:=wf.ed d hmem
   have gd:k.edges.getD i ⟨0,0,0,0⟩=d:=getD_of hfi
   have hY':=fun y H4 (z:(if decide ((0:Int) < (n:Int)) then some (V.bl (bs.getD d.src false)) else none)=some y)=>hY y H4 (by show (if decide ((0:Int) < (n:Int)) then some (V.bl (bs.getD (k.edges.getD i ⟨0,0,0,0⟩).src false)) else none)=_;rw[gd];exact z)
   have hN':=fun H3 (z:(if decide ((0:Int) < (n:Int)) then some (V.bl (bs.getD d.src false)) else none)=none)=>hN H3 (by show (if decide ((0:Int) < (n:Int)) then some (V.bl (bs.getD (k.edges.getD i ⟨0,0,0,0⟩).src false)) else none)=_;rw[gd];exact z)
   have X2:=X.same (s1.trans hS)
   have hlv:atI ((k.edges.map fun d=>(d.src:Int)).map V.int) (i:Int)=some (.int (d.src:Int)):=at_int (by rw[List.getElem?_map,hfi];rfl)
   refine⟨T,_,rfl,SqT.of hT,rfl,_,_,rfl,_,_,rfl,rfl,rfl,?_⟩
   refine⟨_,rfl,_,_,rfl,rfl,_,rfl,?_⟩
   refine ite2 (fun h1=>?_) (fun h1=>hN' _ (by rw[if_neg h1]) Same.rfl')
   refine⟨_,rfl,_,rfl,p,C,_,_,_,rfl,X2.obj,c.cl,c.leaves,hf_leaves,_,rfl,h.aL,_,_,_,rfl,rfl,SqL.of X2.lv,hlv,l,_,_,_,rfl,rfl,SqL.of (hS _ _ hl),at_bl (by rw[dfs.len];exact w1),hY' _ _ (by rw[if_pos h1]) Same.rfl'⟩
  ·have e:((toInts x).map V.int).zipIdx.filterMap (fun z=>gReach k bs z.2 z.1)=((k.edges.zip x).filterMap fun z=>if decide ((0:Int) < (z.2:Int)) then some (bs.getD z.1.src false) else none).map V.bl:=by
    refine enum_fm (fun z:Edge × Nat=>if decide ((0:Int) < (z.2:Int)) then some (bs.getD z.1.src false) else none) V.bl (k.edges.zip x) ((toInts x).map V.int) (gReach k bs) 0 (by rw[ints_len,List.length_zip];omega) fun i v y hv hy=>?_
    obtain⟨n,hn,rfl⟩:=get_nat hv
    rw[List.getElem?_zip_eq_some] at hy
    have e2:y.2=n:=Option.some.inj (hy.2.symm.trans hn)
    rw[Nat.zero_add]
    show (if decide ((0:Int) < (n:Int)) then some (V.bl (bs.getD (k.edges.getD i ⟨0,0,0,0⟩).src false)) else none)=_
    rw[getD_of hy.1,← e2]
    by_cases z:(0:Int) < (y.2:Int)
    ·simp only[decide_eq_true z,if_true,Option.map_some]
    ·simp only[decide_eq_false z,Bool.false_eq_true,if_false,Option.map_none]
   rw[e] at hD2
   refine⟨D,_,rfl,SqL.of hD2,?_⟩
   have:=q H2 (s1.trans hS)
   rw[hangs_all wf.g hu hxl dfs] at this
   exact this
abbrev s_counts_fit:Stmt:=top 58
theorem sc_counts_fit:FnScope ["held","start","counts"] ["held","start","counts"] (k0m s_counts_fit):=⟨rfl,rfl,rfl,by decide +kernel,rfl,by decide +kernel,by decide +kernel⟩
theorem ok_counts_fit (T:Txt K mg) (c:Cl K C) (D:Dfn K mg "counts_fit" s_counts_fit ["held","start","counts"]) (p_is_balanced:Prom P w K mg base 1 "is_balanced" ["held","start","counts"] (sp_from K C Vawctd.flows))
  (p_all_reached:Prom P w K mg base 2 "all_reached" ["held","start","counts"] (sp_from K C Vawctd.hangs)):Prom P w K mg base 3 "counts_fit" ["held","start","counts"] (sp_from K C Vawctd.fitsFrom):=by
 refine D.prom sc_counts_fit (fun vs H Q E h=>?_) (fun f cdv A outer s H vs Q E hr h=>?_)
 ·obtain⟨_,_,_,_,_,_,rfl,_⟩:=h
  rfl
 ·obtain⟨p,b,x,u,k,h,rfl,X,wf,hxl,hu,hb,q⟩:=h
  refine⟨_,(k0j (k0q (pe_and (k0u p_is_balanced (hr.mono (by decide)) rfl (k0a (pv 0) (k0a (pv 1) (k0a (pv 2) k0g)))) (pe_one (k0u p_all_reached (hr.mono (by decide)) rfl (k0a (pv 0) (k0a (pv 1) (k0a (pv 2) k0g)))))))),?_⟩
  refine⟨_,rfl,_,rfl,_,rfl,p,b,x,u,k,h,rfl,X,wf,hxl,hu,hb,fun H1 s1=>⟨_,rfl,?_⟩⟩
  unfold Vawctd.fitsFrom at q
  refine ite2 (fun h1=>?_) (fun h1=>?_)
  ·rw[h1] at q
   simp only[Bool.true_and] at q
   exact⟨_,rfl,_,rfl,_,rfl,p,b,x,u,k,h,rfl,X.same s1,wf,hxl,hu,s1.seq hb,fun H2 s2=>q H2 (s1.trans s2)⟩
  ·rw[eq_false_of_ne_true h1] at q
   simp only[Bool.false_and] at q
   exact q H1 s1
abbrev s_may_stand:Stmt:=top 64
theorem sc_may_stand:FnScope ["held","node","left","edge","rest"] ["held","node","left","edge"] (k0m s_may_stand):=⟨rfl,rfl,rfl,by decide +kernel,rfl,by decide +kernel,by decide +kernel⟩
def sp_may_stand (K:PySem.W.Frag) (C:Addr):Sp:=fun vs H Q _=>∃ (p b:Addr) (x:Vawctd.Counts) (u e:Nat) (k:Known) (h:HA),vs=[.ref p,.int (u:Int),.ref b,.int (e:Int)]∧HeldAt C H p k h∧Wf k∧x.length=k.edges.length∧u < k.nodes∧e < k.edges.length∧SqL K H b ((toInts x).map V.int) ∧
 ∀ H',Same H H'->Q (.bl (mayStand k u x e)) H'
theorem ok_may_stand (T:Txt K mg) (c:Cl K C) (D:Dfn K mg "may_stand" s_may_stand ["held","node","left","edge"]) (p_counts_fit:Prom P w K mg base 3 "counts_fit" ["held","start","counts"] (sp_from K C Vawctd.fitsFrom)) :
  Prom P w K mg base 4 "may_stand" ["held","node","left","edge"] (sp_may_stand K C):=by
 refine D.prom sc_may_stand (fun vs H Q E h=>?_) (fun f cdv A outer s H vs Q E hr h=>?_)
 ·obtain⟨_,_,_,_,_,_,_,rfl,_⟩:=h
  rfl
 ·obtain⟨p,b,x,u,e,k,h,rfl,X,wf,hxl,hu,he,hb,q⟩:=h
  refine⟨_,(k0e (ps_if (PW.pt (pw_or (k0x op_ne (pe_ix (k0w K rfl) (k0v K rfl (pv 0) rfl) (pv 3) (fun _ _=>rfl)) (pv 1) (k1e _)) (pw_or1 (k0x op_eq (pe_ix (k0w K rfl) (pv 2) (pv 3) (fun _ _=>rfl)) k0n (k1e _))))) (k0j (k0q pe_bl)) k0z) (k0e (k1m (i:=4) sc_may_stand.nd rfl (Or.inl rfl) (pe_callTy (listK K rfl) (by rfl) T.n_list b_list (k0a (pv 2) k0g))) (k0e (ps_augS (pv 4) (pv 3) (getK_list K rfl) k0n ip_sub set_list) (k0j (k0q (k0u p_counts_fit (hr.mono (by decide)) rfl (k0a (pv 0) (k0a (pe_ix (k0w K rfl) (k0v K rfl (pv 0) rfl) (pv 3) (fun _ _=>rfl)) (k0a (pv 4) k0g))))))))),?_⟩
  have hfi:=List.getElem?_eq_getElem he
  have hmem:=List.getElem_mem he
  generalize k.edges[e]=d at hfi hmem
  obtain⟨w1,w2,_,_⟩:=wf.ed d hmem
  have hxe:x[e]?=some (x.getD e 0):=by rw[List.getD_eq_getElem?_getD,List.getElem?_eq_getElem (by omega)];rfl
  have hlv:atI ((k.edges.map fun d=>(d.src:Int)).map V.int) (e:Int)=some (.int (d.src:Int)):=at_int (by rw[List.getElem?_map,hfi];rfl)
  have hcm:atI ((k.edges.map fun d=>(d.dst:Int)).map V.int) (e:Int)=some (.int (d.dst:Int)):=at_int (by rw[List.getElem?_map,hfi];rfl)
  have ms:mayStand k u x e=(decide (0 < x.getD e 0)&&d.src==u&&Vawctd.fitsFrom k (Vawctd.lessOne x e) d.dst):=by
   unfold mayStand
   rw[hfi];rfl
  rw[ms] at q
  refine⟨_,rfl,p,C,_,_,_,rfl,X.obj,c.cl,c.leaves,hf_leaves,_,rfl,h.aL,_,_,_,rfl,rfl,SqL.of X.lv,hlv,_,rfl,rfl,_,rfl,?_⟩
  rw[k1u]
  by_cases c1:d.src=u
  case neg =>
   rw[decide_eq_false (p:=(d.src:Int)=(u:Int)) (by omega)]
   have z:(d.src==u)=false:=by rw[beq_eq_false_iff_ne];exact c1
   rw[z] at q
   simp only[Bool.and_false,Bool.false_and] at q
   exact iteT (iteT (q _ Same.rfl'))
  rw[decide_eq_true (p:=(d.src:Int)=(u:Int)) (by omega)]
  rw[beq_iff_eq.mpr c1] at q
  simp only[Bool.and_true] at q
  refine iteF ⟨_,rfl,_,rfl,b,_,_,_,rfl,rfl,hb,at_nat hxe,rfl,_,rfl,?_⟩
  rw[k1u]
  by_cases c2:x.getD e 0=0
  ·rw[decide_eq_true (p:=((x.getD e 0:Nat):Int)=0) (by omega)]
   rw[decide_eq_false (p:=0 < x.getD e 0) (by omega)] at q
   simp only[Bool.false_and] at q
   exact iteT (q _ Same.rfl')
  rw[decide_eq_false (p:=((x.getD e 0:Nat):Int)=0) (by omega)]
  rw[decide_eq_true (p:=0 < x.getD e 0) (by omega)] at q
  simp only[Bool.true_and] at q
  refine iteF ⟨_,rfl,b,_,rfl,.inl hb,fun l hl=>?_⟩
  refine⟨_,rfl,_,rfl,l,_,_,_,rfl,rfl,SqL.of k0f,at_nat hxe,_,_,rfl,rfl,l,_,_,e,rfl,rfl,k0f,ix_nat rfl (by rw[ints_len];omega),?_⟩
  rw[upd_upd]
  have hl2:((toInts x).map V.int).set e (V.int (((x.getD e 0:Nat):Int) - 1))=(toInts (Vawctd.lessOne x e)).map V.int:=by
   unfold Vawctd.lessOne toInts
   rw[List.map_set,List.map_set]
   congr 2
   omega
  have s1:Same H (upd H l (.lst (((toInts x).map V.int).set e (V.int (((x.getD e 0:Nat):Int) - 1))))):=Same.new hl
  have X1:=X.same s1
  refine⟨_,rfl,_,rfl,p,C,_,_,_,rfl,X1.obj,c.cl,c.comes,hf_comes,_,rfl,h.aC,_,_,_,rfl,rfl,SqL.of X1.cm,hcm,_,rfl,p,l,Vawctd.lessOne x e,d.dst,k,h,rfl,X1.r,wf,by rw[lessOne_len];exact hxl,w2,SqL.of (by rw[k0f,← hl2]),fun H2 s2=>q H2 (s1.trans s2)⟩
abbrev s_first_edge:Stmt:=top 63
theorem sc_first_edge:FnScope ["held","node","left","edge"] ["held","node","left"] (k0m s_first_edge):=⟨rfl,rfl,rfl,by decide +kernel,rfl,by decide +kernel,by decide +kernel⟩
def sp_first_edge (K:PySem.W.Frag) (C:Addr):Sp:=fun vs H Q _=>∃ (p b:Addr) (x:Vawctd.Counts) (u e:Nat) (k:Known) (h:HA),vs=[.ref p,.int (u:Int),.ref b]∧HeldAt C H p k h∧Wf k∧x.length=k.edges.length∧u < k.nodes∧SqL K H b ((toInts x).map V.int) ∧
 (List.range k.edges.length).find? (mayStand k u x)=some e∧∀ H',Same H H'->Q (.int (e:Int)) H'
theorem ok_first_edge (T:Txt K mg) (c:Cl K C) (D:Dfn K mg "first_edge" s_first_edge ["held","node","left"]) (p_may_stand:Prom P w K mg base 4 "may_stand" ["held","node","left","edge"] (sp_may_stand K C)) :
  Prom P w K mg base 5 "first_edge" ["held","node","left"] (sp_first_edge K C):=by
 refine D.prom sc_first_edge (fun vs H Q E h=>?_) (fun f cdv A outer s H vs Q E hr h=>?_)
 ·obtain⟨_,_,_,_,_,_,_,rfl,_⟩:=h
  rfl
 ·obtain⟨p,b,x,u,e,k,h,rfl,X,wf,hxl,hu,hb,hf,q⟩:=h
  refine⟨_,(k0j (k0q (pe_ix (k0w K rfl) (pe_lc (own:=[("edge",3)]) rfl sc_first_edge.nd (pi_range1 rfl T.n_range (k0a (k1a (lenK K rfl) (by rfl) T.n_len PySem.boot_len (k0a (pv 2) k0g)) k0g)) (blkOk_by (by exact (show blkC ["held","node","left","edge"] (k0m s_first_edge) _ _=true by decide +kernel))) (fun _ _ _ _ _=>(k1f (i:=3) sc_first_edge.nd rfl (by first|exact Or.inl rfl|exact Or.inr rfl))) (fun _ _ _ _ _=>(pts_one (k1r K rfl (k0u p_may_stand (hr.mono (by decide)) rfl (k0a (pv 0) (k0a (pv 1) (k0a (pv 2) (k0a (pv 3) k0g))))) (fun _=>rfl)))) (fun _ _ _ _ _=>(pv 3))) k0n (fun _ _=>rfl)))),?_⟩
  have e16:=wf.e16
  refine⟨_,rfl,b,_,rfl,.inl hb,_,rfl,(by rw[ints_len];omega),(by rw[ints_len];omega),?_⟩
  rw[ints_len,Int.toNat_natCast,hxl]
  refine fun D hD=>lc_R (fun i=>if mayStand k u x i then some (.int (i:Int)) else none) hD (k1q (by omega)) (fun i H2 Y N hi hS hY hN=>?_) (fun H2 hS hD2=>?_)
  ·have X2:=X.same hS
   refine⟨rfl,_,rfl,_,rfl,_,rfl,_,rfl,p,b,x,u,i,k,h,?_,X2,wf,hxl,hu,hi,hS.seq hb,fun H3 s3=>⟨_,rfl,?_⟩⟩
   ·show [V.ref p,V.int (u:Int),V.ref b,V.int (0+(i:Int))]=_
    rw[Int.zero_add]
   refine ite2 (fun h1=>⟨_,rfl,?_⟩) (fun h1=>hN _ (by rw[if_neg h1]) s3)
   have z:=hY (V.int (i:Int)) H3 (by rw[if_pos h1]) s3
   rw[Int.zero_add]
   exact z
  ·have e0:((List.range k.edges.length).filterMap fun i=>if mayStand k u x i then some (V.int (i:Int)) else none)=((List.range k.edges.length).filter (mayStand k u x)).map fun (i:Nat)=>V.int (i:Int):=by
    generalize List.range k.edges.length=l
    induction l with
    | nil=>rfl
    | cons a l ih =>
     rw[List.filterMap_cons,List.filter_cons,ih]
     cases mayStand k u x a<;>rfl
   rw[e0] at hD2
   have hat:atI (((List.range k.edges.length).filter (mayStand k u x)).map fun (i:Nat)=>V.int (i:Int)) 0=some (.int (e:Int)):=by
    refine k1n (j:=0) ?_
    rw[List.getElem?_map,← List.head?_eq_getElem?,List.head?_filter,hf]
    rfl
   exact⟨D,_,_,_,rfl,rfl,SqL.of hD2,hat,q H2 hS⟩
end
end Ww
end
section
namespace Ww
open PySem PySem.Spec PyProof.Rows L2
open Vawctd (Known Edge Fact inRange toInts countsOf)
theorem toInts_snoc (l:List Nat) (e:Nat):(toInts l).map V.int++[V.int (e:Int)]=(toInts (l++[e])).map V.int:=by
 unfold toInts
 simp
theorem less_ints {x:List Nat} {e:Nat} (h:0 < x.getD e 0):((toInts x).map V.int).set e (V.int (((x.getD e 0:Nat):Int) - 1))=(toInts (Vawctd.lessOne x e)).map V.int:=by
 unfold Vawctd.lessOne toInts
 rw[List.map_set,List.map_set]
 congr 2
 omega
def sumV:List V->Nat
 | []=>0
 | .int n::r=>n.toNat+sumV r
 | _::r=>sumV r
theorem sumV_ints:∀ x:List Nat,sumV ((toInts x).map V.int)=Vawctd.sum x
 | []=>rfl
 | c::x=>by
  show ((c:Nat):Int).toNat+sumV ((toInts x).map V.int)=_
  rw[sumV_ints x,sum_cons]
  rfl
section
variable {P:Program} {w:World} {K:PySem.W.Frag} {mg:Str->Option Value} {base:Heap} {C:Addr}
abbrev s_told_way:Stmt:=top 62
theorem sc_told_way:FnScope ["held","counts","left","edges","node","edge"] ["held","counts"] (k0m s_told_way):=⟨rfl,rfl,rfl,by decide +kernel,rfl,by decide +kernel,by decide +kernel⟩
def sp_told_way (K:PySem.W.Frag) (C:Addr):Sp:=fun vs H Q _=>∃ (p b:Addr) (x:Vawctd.Counts) (k:Known) (h:HA),vs=[.ref p,.ref b]∧HeldAt C H p k h∧Wf k∧SqL K H b ((toInts x).map V.int)∧(0 < Vawctd.sum x->x.length=k.edges.length∧Vawctd.fits k x=true)∧Vawctd.sum x≤100000 ∧
 ∀ H' l,Same H H'->H l=none->H' l=some (.lst ((toInts (Vawctd.toldWay k x)).map V.int))->Q (.ref l) H'
theorem ok_told_way (T:Txt K mg) (c:Cl K C) (D:Dfn K mg "told_way" s_told_way ["held","counts"]) (p_first_edge:Prom P w K mg base 5 "first_edge" ["held","node","left"] (sp_first_edge K C)) :
  Prom P w K mg base 6 "told_way" ["held","counts"] (sp_told_way K C):=by
 refine D.prom sc_told_way (fun vs H Q E h=>?_) (fun f cdv A outer s H vs Q E hr h=>?_)
 ·obtain⟨_,_,_,_,_,rfl,_⟩:=h
  rfl
 ·obtain⟨p,b,x,k,h,rfl,X,wf,hb,hfit,hsum,q⟩:=h
  refine⟨_,(k0e (k1m (i:=2) sc_told_way.nd rfl (Or.inl rfl) (pe_callTy (listK K rfl) (by rfl) T.n_list b_list (k0a (pv 1) k0g))) (k0e (k1m (i:=3) sc_told_way.nd rfl (Or.inl rfl) (k1g k0g)) (k0e (k1m (i:=4) sc_told_way.nd rfl (Or.inl rfl) k0n) (k0e (ps_while PassesOwn.never (k0x op_gt (k1a (sumK K rfl rfl) (by rfl) T.n_sum b_sum (k0a (pv 2) k0g)) k0n (k1e _)) (k0e (k1m (i:=5) sc_told_way.nd rfl (Or.inl rfl) (k0u p_first_edge (hr.mono (by decide)) rfl (k0a (pv 0) (k0a (pv 4) (k0a (pv 2) k0g))))) (k0e (ps_augS (pv 2) (pv 5) (getK_list K rfl) k0n ip_sub set_list) (k0e (ps_expr (pe_bm PySem.F.plainAttrs_list PySem.F.slot_list_append PySem.F.type_list_append mt_append (pv 3) (k0a (pv 5) k0g))) (k0j (k1m (i:=4) sc_told_way.nd rfl (Or.inl rfl) (pe_ix (k0w K rfl) (k0v K rfl (pv 0) rfl) (pv 5) (fun _ _=>rfl)))))))) (k0j (k0q (pv 3))))))),?_⟩
  have n2:=wf.n2
  refine⟨_,rfl,b,_,rfl,.inl hb,fun l hl=>⟨Nat.zero_le _,fun t ht=>?_⟩⟩
  have s0:Same H (upd H l (.lst ((toInts x).map V.int))):=Same.new hl
  have htn:H t=none:=s0.free ht
  have hlt:l≠t:=fun z=>by rw[← z,k0f] at ht;cases ht
  have s1:Same H (upd (upd H l (.lst ((toInts x).map V.int))) t (.lst [])):=s0.grow ht
  have hl1:(upd (upd H l (.lst ((toInts x).map V.int))) t (.lst [])) l=some (.lst ((toInts x).map V.int)):=by rw[k0p hlt,k0f]
  refine while_by (fun σ H'=>∃ (v:Option V) (x':Vawctd.Counts) (u:Nat) (ws:List Nat),σ=[some (.ref p),some (.ref b),some (.ref l),some (.ref t),some (.int (u:Int)),v]∧Same H H'∧H' l=some (.lst ((toInts x').map V.int))∧H' t=some (.lst ((toInts ws).map V.int))∧(0 < Vawctd.sum x'->x'.length=k.edges.length∧u < k.nodes∧Vawctd.fitsFrom k x' u=true)∧ws.length+Vawctd.sum x'=Vawctd.sum x∧Vawctd.toldWay k x=ws++Vawctd.toldFrom k (Vawctd.sum x') u x')
   (fun σ H'=>match H' l with
    | some (.lst xs)=>sumV xs
    | _=>0) ⟨none,x,0,[],rfl,s1,hl1,k0f,fun z=>⟨(hfit z).1,by omega,(hfit z).2⟩,by simp,rfl⟩ ?_ ?_
  ·rintro σ H' ⟨v,x',u,ws,rfl,s5,hl5,ht5,hpos',hsz,htold⟩
   refine⟨_,rfl,l,_,rfl,SqL.of hl5,_,_,rfl,rfl,_,rfl,?_⟩
   rw[toInts_sum]
   by_cases h0:0 < Vawctd.sum x'
   ·rw[decide_eq_true (p:=(0:Int) < ((Vawctd.sum x':Nat):Int)) (by omega)]
    obtain⟨hxl',hu,hf'⟩:=hpos' h0
    obtain⟨e,d,hfind,hed,hpos,hsrc,hfit'⟩:=told_some wf.g hu hxl' hf' h0
    have he:e < k.edges.length:=(List.getElem?_eq_some_iff.mp hed).1
    obtain⟨w1,w2,_,_⟩:=wf.ed d (List.mem_of_getElem? hed)
    have X5:=X.same s5
    refine iteT ⟨_,rfl,_,rfl,_,rfl,p,l,x',u,e,k,h,rfl,X5,wf,hxl',hu,SqL.of hl5,hfind,fun H6 s6=>?_⟩
    have hl6:=s6 _ _ hl5
    have ht6:=s6 _ _ ht5
    have hln:H l=none:=hl
    have hxe:x'[e]?=some (x'.getD e 0):=by rw[List.getD_eq_getElem?_getD,List.getElem?_eq_getElem (by omega)];rfl
    refine⟨_,rfl,_,rfl,l,_,_,_,rfl,rfl,SqL.of hl6,at_nat hxe,_,_,rfl,rfl,l,_,_,e,rfl,rfl,hl6,ix_nat rfl (by rw[ints_len];omega),?_⟩
    have S7:Same H (upd H6 l (.lst ((toInts (Vawctd.lessOne x' e)).map V.int))):=(s5.trans s6).put hln
    have e7:upd H6 l (.lst (((toInts x').map V.int).set e (V.int (((x'.getD e 0:Nat):Int) - 1))))=upd H6 l (.lst ((toInts (Vawctd.lessOne x' e)).map V.int)):=by rw[less_ints hpos]
    generalize hH7:upd H6 l (.lst (((toInts x').map V.int).set e _))=H7
    have eH:H7=upd H6 l (.lst ((toInts (Vawctd.lessOne x' e)).map V.int)):=by rw[← hH7];exact e7
    rw[← eH] at S7
    have hl7:H7 l=some (.lst ((toInts (Vawctd.lessOne x' e)).map V.int)):=by rw[eH,k0f]
    have ht7:H7 t=some (.lst ((toInts ws).map V.int)):=by rw[eH,k0p (Ne.symm hlt)];exact ht6
    refine⟨_,rfl,.inl ⟨rfl,_,SqL.of ht7⟩,_,rfl,t,_,_,rfl,rfl,ht7,(by rw[ints_len];exact Nat.lt_of_le_of_lt (show ws.length≤100000 by omega) (by decide)),?_⟩
    rw[toInts_snoc]
    have S8:Same H (upd H7 t (.lst ((toInts (ws++[e])).map V.int))):=S7.put htn
    have X8:=X.same S8
    have hcm:atI ((k.edges.map fun d=>(d.dst:Int)).map V.int) (e:Int)=some (.int (d.dst:Int)):=at_int (by rw[List.getElem?_map,hed];rfl)
    refine⟨_,rfl,p,C,_,_,_,rfl,X8.obj,c.cl,c.comes,hf_comes,_,rfl,h.aC,_,_,_,rfl,rfl,SqL.of X8.cm,hcm,?_⟩
    have sl:=sum_less x' e hpos
    refine⟨⟨_,Vawctd.lessOne x' e,d.dst,ws++[e],rfl,S8,by rw[k0p hlt];exact hl7,k0f,fun _=>⟨by rw[lessOne_len];exact hxl',w2,hfit'⟩,by simp;omega,?_⟩,?_⟩
    ·rw[htold,List.append_assoc]
     congr 1
     rw[← sl,toldFrom_cons hfind hed]
     rfl
    ·show (match (upd H7 t (.lst ((toInts (ws++[e])).map V.int))) l with
      | some (.lst xs)=>sumV xs
      | _=>0) < (match H' l with
      | some (.lst xs)=>sumV xs
      | _=>0)
     rw[k0p hlt,hl7,hl5]
     show sumV _ < sumV _
     rw[sumV_ints,sumV_ints]
     omega
   ·rw[decide_eq_false (p:=(0:Int) < ((Vawctd.sum x':Nat):Int)) (by omega)]
    have z:Vawctd.sum x'=0:=by omega
    rw[z] at htold
    have z2:Vawctd.toldWay k x=ws:=by rw[htold];show ws++[]=ws;simp
    refine iteF ⟨_,rfl,q H' t s5 htn ?_⟩
    rw[z2]
    exact ht5
  ·rintro σ G Q1 Q2 hq ⟨v1,e1,p1,ys,e2,h2,i,j,e3,e4,kk,e5,h6⟩
   exact⟨v1,e1,p1,ys,e2,h2,i,j,e3,e4,kk,e5,hq _ _ h6⟩
theorem readCounts_some {k:Known} {ns:List Int} (h:(Vawctd.readCounts k ns).isSome=true):Vawctd.readCounts k ns=some (ns.map Int.toNat)∧ns.length=k.edges.length∧toInts (ns.map Int.toNat)=ns∧∀ n∈ns.map Int.toNat,n≤9:=by
 have h2:=h
 rw[readCounts_is,Bool.and_eq_true,decide_eq_true_eq,List.all_eq_true] at h2
 obtain⟨a,b⟩:=h2
 refine⟨?_,by omega,?_,?_⟩
 ·unfold Vawctd.readCounts at h ⊢
  split at h
  ·rename_i q
   rw[if_pos q]
  ·cases h
 ·unfold toInts
  rw[List.map_map]
  have:∀ l:List Int,(∀ n∈l,inRange n 0 9=true)->l.map ((fun n:Nat=>(n:Int))∘Int.toNat)=l:=by
   intro l
   induction l with
   | nil=>intro _;rfl
   | cons n l ih =>
    intro hl
    rw[List.map_cons,ih fun m hm=>hl m (List.mem_cons_of_mem _ hm)]
    have:=k1j (hl n (by simp))
    show ((n.toNat:Nat):Int)::l=n::l
    rw[Int.toNat_of_nonneg this.1]
  exact this ns b
 ·intro n hn
  obtain⟨z,hz,rfl⟩:=List.mem_map.mp hn
  have:=k1j (b z hz)
  omega
theorem readCounts_none {k:Known} {ns:List Int} (h:¬ (Vawctd.readCounts k ns).isSome=true):Vawctd.readCounts k ns=none:=by
 cases q:Vawctd.readCounts k ns with
 | none=>rfl
 | some f=>rw[q] at h;exact (h rfl).elim
theorem sum_le9:∀ x:List Nat,(∀ n∈x,n≤9)->Vawctd.sum x≤9*x.length
 | [],_=>by simp[sum_nil]
 | c::x,h=>by
  have:=sum_le9 x fun n hn=>h n (List.mem_cons_of_mem _ hn)
  have:=h c (by simp)
  rw[sum_cons,List.length_cons]
  omega
abbrev s_fits:Stmt:=top 48
theorem sc_fits:FnScope ["held","counts"] ["held","counts"] (k0m s_fits):=⟨rfl,rfl,rfl,by decide +kernel,rfl,by decide +kernel,by decide +kernel⟩
def sp_fits (K:PySem.W.Frag) (C:Addr):Sp:=fun vs H Q _=>∃ (p a:Addr) (ns:List Int) (k:Known) (h:HA),vs=[.ref p,.ref a]∧HeldAt C H p k h∧Wf k∧SqL K H a (ns.map V.int)∧ns.length≤100000∧Ans C p H h (Vawctd.step k (.fits ns)) Q
theorem ok_fits (T:Txt K mg) (c:Cl K C) (D:Dfn K mg "fits" s_fits ["held","counts"]) (p_is_counts_row:Prom P w K mg base 2 "is_counts_row" ["held","row"] (sp_is_counts_row K C)) (p_counts_fit:Prom P w K mg base 3 "counts_fit" ["held","start","counts"] (sp_from K C Vawctd.fitsFrom)) :
  Prom P w K mg base 4 "fits" ["held","counts"] (sp_fits K C):=by
 refine D.prom sc_fits (fun vs H Q E h=>?_) (fun f cdv A outer s H vs Q E hr h=>?_)
 ·obtain⟨_,_,_,_,_,rfl,_⟩:=h
  rfl
 ·obtain⟨p,a,ns,k,h,rfl,X,wf,ha,hn,q⟩:=h
  refine⟨_,(k0e (ps_if (pt_not (k1r K rfl (k0u p_is_counts_row (hr.mono (by decide)) rfl (k0a (pv 0) (k0a (pv 1) k0g))) (fun _=>rfl))) (k0j (k0q (k1g (k0a (k0y rfl T.c_WRONG_ROW) k0g)))) k0z) (k0j (k0q (k1g (k0a (pe_ifExp (k1r K rfl (k0u p_counts_fit (hr.mono (by decide)) rfl (k0a (pv 0) (k0a k0n (k0a (pv 1) k0g)))) (fun _=>rfl)) k0n k0n) k0g))))),?_⟩
  have n2:=wf.n2
  have e0:Vawctd.step k (.fits ns)=(k,Vawctd.onCounts k ns fun x=>[if Vawctd.fits k x then 1 else 0]):=rfl
  rw[e0] at q
  unfold Vawctd.onCounts at q
  refine⟨_,rfl,_,rfl,p,a,ns,k,h,rfl,X,ha,Nat.le_trans hn (by decide),fun H1 s1=>⟨_,rfl,?_⟩⟩
  by_cases h1:(Vawctd.readCounts k ns).isSome=true
  case neg =>
   rw[eq_false_of_ne_true h1]
   rw[readCounts_none h1] at q
   exact iteT ⟨(by show 1≤sizeLine;decide),fun r hr=>q.ask X s1 hr⟩
  rw[h1]
  obtain⟨e1,hl,et,h9⟩:=readCounts_some h1
  rw[e1] at q
  generalize hx:ns.map Int.toNat=x at q et
  have hxl:x.length=k.edges.length:=by rw[← hx,List.length_map];exact hl
  refine iteF ⟨_,rfl,_,rfl,p,a,x,0,k,h,rfl,(X.same s1).r,wf,hxl,by omega,(by rw[et];exact s1.seq ha),fun H2 s2=>⟨_,rfl,?_⟩⟩
  have q':Ans C p H h (k,[if Vawctd.fitsFrom k x 0 then 1 else 0]) Q:=q
  by_cases h2:Vawctd.fitsFrom k x 0=true
  ·rw[h2] at q' ⊢
   exact iteT ⟨(by show 1≤sizeLine;decide),fun r hr=>q'.ask X (s1.trans s2) hr⟩
  ·rw[eq_false_of_ne_true h2] at q' ⊢
   exact iteF ⟨(by show 1≤sizeLine;decide),fun r hr=>q'.ask X (s1.trans s2) hr⟩
abbrev s_told:Stmt:=top 49
theorem sc_told:FnScope ["held","counts"] ["held","counts"] (k0m s_told):=⟨rfl,rfl,rfl,by decide +kernel,rfl,by decide +kernel,by decide +kernel⟩
def sp_told (K:PySem.W.Frag) (C:Addr):Sp:=fun vs H Q _=>∃ (p a:Addr) (ns:List Int) (k:Known) (h:HA),vs=[.ref p,.ref a]∧HeldAt C H p k h∧Wf k∧SqL K H a (ns.map V.int)∧ns.length≤100000∧Ans C p H h (Vawctd.step k (.told ns)) Q
theorem toldFrom_len (k:Known):∀ (n u:Nat) (x:Vawctd.Counts),(Vawctd.toldFrom k n u x).length≤n
 | 0,_,_=>Nat.le_refl _
 | n+1,u,x=>by
  unfold Vawctd.toldFrom
  split
  ·exact Nat.zero_le _
  ·rw[List.length_cons]
   exact Nat.succ_le_succ (toldFrom_len k n _ _)
theorem ok_told (T:Txt K mg) (c:Cl K C) (D:Dfn K mg "told" s_told ["held","counts"]) (p_is_counts_row:Prom P w K mg base 2 "is_counts_row" ["held","row"] (sp_is_counts_row K C)) (p_counts_fit:Prom P w K mg base 3 "counts_fit" ["held","start","counts"] (sp_from K C Vawctd.fitsFrom))
  (p_told_way:Prom P w K mg base 6 "told_way" ["held","counts"] (sp_told_way K C)):Prom P w K mg base 7 "told" ["held","counts"] (sp_told K C):=by
 refine D.prom sc_told (fun vs H Q E h=>?_) (fun f cdv A outer s H vs Q E hr h=>?_)
 ·obtain⟨_,_,_,_,_,rfl,_⟩:=h
  rfl
 ·obtain⟨p,a,ns,k,h,rfl,X,wf,ha,hn,q⟩:=h
  refine⟨_,(k0e (ps_if (pt_not (k1r K rfl (k0u p_is_counts_row (hr.mono (by decide)) rfl (k0a (pv 0) (k0a (pv 1) k0g))) (fun _=>rfl))) (k0j (k0q (k1g (k0a (k0y rfl T.c_WRONG_ROW) k0g)))) k0z) (k0e (ps_if (pt_not (k1r K rfl (k0u p_counts_fit (hr.mono (by decide)) rfl (k0a (pv 0) (k0a k0n (k0a (pv 1) k0g)))) (fun _=>rfl))) (k0j (k0q (k1g (k0a k0n k0g)))) k0z) (k0j (k0q (pe_op op_cat (k1g (k0a k0n k0g)) (k0u p_told_way (hr.mono (by decide)) rfl (k0a (pv 0) (k0a (pv 1) k0g)))))))),?_⟩
  have n2:=wf.n2
  have e16:=wf.e16
  have e0:Vawctd.step k (.told ns)=(k,Vawctd.onCounts k ns fun x=>if Vawctd.fits k x then 0::toInts (Vawctd.toldWay k x) else [1]):=rfl
  rw[e0] at q
  unfold Vawctd.onCounts at q
  refine⟨_,rfl,_,rfl,p,a,ns,k,h,rfl,X,ha,Nat.le_trans hn (by decide),fun H1 s1=>⟨_,rfl,?_⟩⟩
  by_cases h1:(Vawctd.readCounts k ns).isSome=true
  case neg =>
   rw[eq_false_of_ne_true h1]
   rw[readCounts_none h1] at q
   exact iteT ⟨(by show 1≤sizeLine;decide),fun r hr=>q.ask X s1 hr⟩
  rw[h1]
  obtain⟨e1,hl,et,h9⟩:=readCounts_some h1
  rw[e1] at q
  generalize hx:ns.map Int.toNat=x at q et h9
  have hxl:x.length=k.edges.length:=by rw[← hx,List.length_map];exact hl
  have hs9:=sum_le9 x h9
  refine iteF ⟨_,rfl,_,rfl,p,a,x,0,k,h,rfl,(X.same s1).r,wf,hxl,by omega,(by rw[et];exact s1.seq ha),fun H2 s2=>⟨_,rfl,?_⟩⟩
  have S2:=s1.trans s2
  have q':Ans C p H h (k,if Vawctd.fitsFrom k x 0 then 0::toInts (Vawctd.toldWay k x) else [1]) Q:=q
  by_cases h2:Vawctd.fitsFrom k x 0=true
  ·rw[h2] at q' ⊢
   refine iteF ⟨(by show 1≤sizeLine;decide),fun l0 hl0=>?_⟩
   have S3:Same H (upd H2 l0 (.lst [V.int 0])):=S2.grow hl0
   refine⟨_,rfl,_,rfl,p,a,x,k,h,rfl,X.same S3,wf,(by rw[et];exact S3.seq ha),fun _=>⟨hxl,h2⟩,(by omega),fun H4 l s4 hln hl4=>?_⟩
   have tl:(Vawctd.toldWay k x).length≤Vawctd.sum x:=toldFrom_len k _ _ _
   refine⟨l0,l,_,_,rfl,rfl,s4 _ _ k0f,hl4,(by rw[ints_len];exact k1q (by show 1+_≤1000;omega)),fun r hr=>?_⟩
   exact q'.ask X (S3.trans s4) hr
  ·rw[eq_false_of_ne_true h2] at q' ⊢
   exact iteT ⟨(by show 1≤sizeLine;decide),fun r hr=>q'.ask X S2 hr⟩
end
end Ww
end
section
namespace Ww
open PySem PySem.Spec PyProof.Rows L2
open Vawctd (Known Edge Fact inRange toInts countsOf Box flowFact otherSign)
def TermsAt (H:Hp) (t:Addr) (l:List (Nat × Int)):Prop:=∃ ts:List Addr,H t=some (.lst (ts.map V.ref))∧Row (fun a z=>H a=some (.tup [.int ((z.1:Nat):Int),.int z.2])) ts l
def Off (D:Addr) (H H':Hp):Prop:=∀ b o,b≠D->H b=some o->H' b=some o
section
variable {H H':Hp} {t D a:Addr} {l:List (Nat × Int)} {zs:List V} {f:Fact}
theorem TermsAt.same (s:Same H H') (x:TermsAt H t l):TermsAt H' t l:=by
 obtain⟨ts,h,r⟩:=x
 exact⟨ts,s _ _ h,r.mono fun a z _ p=>s _ _ p⟩
theorem TermsAt.off (hD:H D=some (.lst zs)) (s:Off D H H') (n:t≠D) (x:TermsAt H t l):TermsAt H' t l:=by
 obtain⟨ts,h,r⟩:=x
 exact⟨ts,s _ _ n h,r.mono fun a z _ p=>s _ _ (ne_of p hD (by intro q;cases q)) p⟩
def CondAt (H:Hp) (D a:Addr) (f:Fact):Prop:=∃ t,t≠D∧H a=some (.tup [.ref t,.int f.bound])∧TermsAt H t (terms f.mults)
theorem CondAt.same (s:Same H H') (x:CondAt H D a f):CondAt H' D a f:=by
 obtain⟨t,n,h,y⟩:=x
 exact⟨t,n,s _ _ h,y.same s⟩
theorem CondAt.off (hD:H D=some (.lst zs)) (s:Off D H H') (x:CondAt H D a f):CondAt H' D a f:=by
 obtain⟨t,n,h,y⟩:=x
 exact⟨t,n,s _ _ (ne_of h hD (by intro q;cases q)) h,y.off hD s n⟩
end
def CondsAt (H:Hp) (D:Addr) (fs:List Fact):Prop:=∃ cts:List Addr,H D=some (.lst (cts.map V.ref))∧Row (CondAt H D) cts fs
theorem CondsAt.same {H H':Hp} {D:Addr} {fs:List Fact} (s:Same H H') (x:CondsAt H D fs):CondsAt H' D fs:=by
 obtain⟨cts,h,r⟩:=x
 exact⟨cts,s _ _ h,r.mono fun a f _ p=>p.same s⟩
theorem CondsAt.snoc {H H':Hp} {D a t:Addr} {fs:List Fact} {f:Fact} {cts:List Addr} (h:H D=some (.lst (cts.map V.ref))) (r:Row (CondAt H D) cts fs) (s:Same H H') (n:t≠D) (ha:H' a=some (.tup [.ref t,.int f.bound])) (ht:TermsAt H' t (terms f.mults)) :
  (upd H' D (.lst (cts.map V.ref++[.ref a]))) D=some (.lst ((cts++[a]).map V.ref))∧Row (CondAt (upd H' D (.lst (cts.map V.ref++[.ref a]))) D) (cts++[a]) (fs++[f]):=by
 have hD:=s _ _ h
 have off:Off D H' (upd H' D (.lst (cts.map V.ref++[.ref a]))):=fun b o nb e=>by rw[k0p nb];exact e
 refine⟨by rw[k0f];simp,?_⟩
 exact (r.mono fun b g _ p=>(p.same s).off hD off).snoc (CondAt.off hD off ⟨t,n,ha,ht⟩)
theorem fm_ints (ns:List Int) (f:Int->Int):(ns.map V.int).filterMap (onI fun n=>some (V.int (f n)))=(ns.map f).map V.int:=by
 rw[fm_onI]
 induction ns with
 | nil=>rfl
 | cons n ns ih=>rw[List.filterMap_cons,ih];rfl
theorem fm_ints2 (ms ns:List Int) (f:Int->Int->Int):((ms.map V.int).zip (ns.map V.int)).filterMap (fun z=>onII (fun a b=>some (V.int (f a b))) z.1 z.2)=((ms.zip ns).map fun z=>f z.1 z.2).map V.int:=by
 rw[fm_onII,List.filterMap_eq_map',List.map_map]
 rfl
section
variable {P:Program} {w:World} {K:PySem.W.Frag} {mg:Str->Option Value} {base:Heap} {C:Addr}
abbrev s_terms_of:Stmt:=top 35
theorem sc_terms_of:FnScope ["multiples","edge","multiple"] ["multiples"] (k0m s_terms_of):=⟨rfl,rfl,rfl,by decide +kernel,rfl,by decide +kernel,by decide +kernel⟩
def sp_terms_of (K:PySem.W.Frag):Sp:=fun vs H Q _=>∃ (a:Addr) (ms:List Int),vs=[.ref a]∧SqL K H a (ms.map V.int)∧ms.length≤1000∧∀ H' t,Same H H'->H t=none->TermsAt H' t (terms ms)->Q (.ref t) H'
theorem ok_terms_of (T:Txt K mg) (D:Dfn K mg "terms_of" s_terms_of ["multiples"]):Prom P w K mg base 1 "terms_of" ["multiples"] (sp_terms_of K):=by
 refine D.prom sc_terms_of (fun vs H Q E h=>?_) (fun f cdv A outer s H vs Q E hr h=>?_)
 ·obtain⟨_,_,rfl,_⟩:=h
  rfl
 ·obtain⟨a,ms,rfl,ha,hn,q⟩:=h
  refine⟨_,(k0j (k0q (pe_lc (own:=[("edge",1),("multiple",2)]) rfl sc_terms_of.nd (pi_enumK K rfl rfl T.n_enumerate (k0a (pv 0) k0g)) (blkOk_by (by exact (show blkC ["multiples","edge","multiple"] (k0m s_terms_of) _ _=true by decide +kernel))) (fun _ _ _ _ _=>(pg_tupK K (n:=2) rfl rfl (k1h (k1f (i:=1) sc_terms_of.nd rfl (by first|exact Or.inl rfl|exact Or.inr rfl)) (k1h (k1f (i:=2) sc_terms_of.nd rfl (by first|exact Or.inl rfl|exact Or.inr rfl)) pgs_nil)))) (fun _ _ _ _ _=>(pts_one (k0x op_ne (pv 2) k0n (k1e _)))) (fun _ _ _ _ _=>(pe_tup (k0a (pv 1) (k0a (pv 2) k0g))))))),?_⟩
  refine⟨_,rfl,a,_,rfl,ha,fun D hD=>lc_rel (J:=Ite K a) (n:=ms.length) (fun i ys G=>∃ ts:List Addr,ys=ts.map V.ref∧Row (fun a z=>G a=some (.tup [.int ((z.1:Nat):Int),.int z.2])) ts (terms (ms.take i))) hD (k1q hn) ⟨[],rfl,.nil⟩ ?_
   (fun G hS=>⟨_,hS.seq ha,by rw[List.length_map];exact Nat.le_refl _⟩) (fun i G hi hS=>⟨_,_,hS.seq ha,List.getElem?_eq_getElem (by rw[List.length_map];exact hi)⟩) ?_ ?_⟩
  ·rintro i ys zs G G' hG off ⟨ts,rfl,r⟩
   exact⟨ts,rfl,r.mono fun a z _ p=>off _ _ (ne_of p hG (by intro q;cases q)) p⟩
  ·rintro i G x G' ys Y N hi hS hDi ⟨ts,rfl,r⟩ ⟨T,v,rfl,hT,rfl,hy⟩ hY hN
   obtain⟨m,hm,rfl⟩:=get_int (hy _ (hS.seq ha))
   have tt:=terms_take hm
   have s1:Same G (upd G T (.tup [.int (i:Nat),.int m])):=Same.new hT
   refine⟨T,_,rfl,SqT.of k0f,rfl,_,_,rfl,_,_,rfl,rfl,rfl,?_⟩
   refine⟨_,rfl,rfl,_,rfl,?_⟩
   rw[k1u]
   by_cases h0:m=0
   ·rw[decide_eq_true h0]
    rw[if_pos h0,List.append_nil] at tt
    exact iteF (hN _ s1 ⟨ts,rfl,by rw[tt];exact r.mono fun a z _ p=>s1 _ _ p⟩)
   ·rw[decide_eq_false h0]
    rw[if_neg h0] at tt
    refine iteT ⟨_,rfl,_,rfl,(by show 2≤sizeLine;decide),fun t ht=>?_⟩
    refine hY _ _ (s1.grow ht) ⟨ts++[t],by simp,?_⟩
    rw[tt]
    exact (r.mono fun a z _ p=>(s1.grow ht) _ _ p).snoc k0f
  ·rintro G ys hS hG ⟨ts,rfl,r⟩
   rw[List.take_length] at r
   exact q G D hS hD ⟨ts,hG,r⟩
abbrev s_node_multiples:Stmt:=top 36
theorem sc_node_multiples:FnScope ["held","node","coming","leaving","other","come","leave"] ["held","node"] (k0m s_node_multiples):=⟨rfl,rfl,rfl,by decide +kernel,rfl,by decide +kernel,by decide +kernel⟩
def sp_node_multiples (C:Addr):Sp:=fun vs H Q _=>∃ (p:Addr) (v:Nat) (k:Known) (h:HA),vs=[.ref p,.int (v:Int)]∧HeldR C H p k h∧Wf k∧∀ H' l,Same H H'->H l=none->H' l=some (.lst ((flowFact k v).mults.map V.int))->Q (.ref l) H'
theorem ok_node_multiples (T:Txt K mg) (c:Cl K C) (D:Dfn K mg "node_multiples" s_node_multiples ["held","node"]):Prom P w K mg base 1 "node_multiples" ["held","node"] (sp_node_multiples C):=by
 refine D.prom sc_node_multiples (fun vs H Q E h=>?_) (fun f cdv A outer s H vs Q E hr h=>?_)
 ·obtain⟨_,_,_,_,rfl,_⟩:=h
  rfl
 ·obtain⟨p,v,k,h,rfl,X,wf,q⟩:=h
  refine⟨_,(k0e (ps_setLc (i:=2) (own:=[("other",4)]) rfl sc_node_multiples.nd rfl rfl (sw_true rfl rfl rfl rfl) (pi_listK K rfl (k0v K rfl (pv 0) rfl)) (blkOk_by (by exact (show blkC ["held","node","coming","leaving","other","come","leave"] (k0m s_node_multiples) _ _=true by decide +kernel))) (fun _ _ _ _ _=>(k1f (i:=4) sc_node_multiples.nd rfl (by first|exact Or.inl rfl|exact Or.inr rfl))) (fun _ _ _ _ _=>pts_nil) (fun _ _ _ _ _=>(pe_ifExp (k0x op_eq (pv 4) (pv 1) (k1e _)) k0n k0n))) (k0e (ps_setLc (i:=3) (own:=[("other",4)]) rfl sc_node_multiples.nd rfl rfl (sw_true rfl rfl rfl rfl) (pi_listK K rfl (k0v K rfl (pv 0) rfl)) (blkOk_by (by exact (show blkC ["held","node","coming","leaving","other","come","leave"] (k0m s_node_multiples) _ _=true by decide +kernel))) (fun _ _ _ _ _=>(k1f (i:=4) sc_node_multiples.nd rfl (by first|exact Or.inl rfl|exact Or.inr rfl))) (fun _ _ _ _ _=>pts_nil) (fun _ _ _ _ _=>(pe_ifExp (k0x op_eq (pv 4) (pv 1) (k1e _)) k0n k0n))) (k0j (k0q (pe_lc (own:=[("come",5),("leave",6)]) rfl sc_node_multiples.nd (pi_zipK K rfl rfl T.n_zip (k0a (pv 2) (k0a (pv 3) k0g))) (blkOk_by (by exact (show blkC ["held","node","coming","leaving","other","come","leave"] (k0m s_node_multiples) _ _=true by decide +kernel))) (fun _ _ _ _ _=>(pg_tupK K (n:=2) rfl rfl (k1h (k1f (i:=5) sc_node_multiples.nd rfl (by first|exact Or.inl rfl|exact Or.inr rfl)) (k1h (k1f (i:=6) sc_node_multiples.nd rfl (by first|exact Or.inl rfl|exact Or.inr rfl)) pgs_nil)))) (fun _ _ _ _ _=>pts_nil) (fun _ _ _ _ _=>(pe_op op_sub (pv 5) (pv 6)))))))),?_⟩
  have e16:=wf.e16
  have ll:∀ g:Edge->Int,((k.edges.map g).map V.int).length≤sizeLine:=fun g=>k1q (by rw[List.length_map,List.length_map];omega)
  refine⟨_,rfl,p,C,_,_,_,rfl,X.obj,c.cl,c.comes,hf_comes,h.aC,rfl,⟨_,SqL.of X.cm⟩,fun D1 hD1=>lc_L (xs:=(k.edges.map fun d=>(d.dst:Int)).map V.int) (onI fun n=>some (V.int (if n=(v:Int) then 1 else 0))) hD1 (ll _) (SqL.of X.cm) (fun i x H2 Y N e hS hY hN=>?_) (fun H2 s2 h2=>?_)⟩
  ·obtain⟨n,hn,rfl⟩:=get_int e
   refine⟨rfl,_,rfl,_,rfl,rfl,_,rfl,?_⟩
   rw[k1u]
   refine ite2 (fun h1=>hY _ _ ?_ Same.rfl') (fun h1=>hY _ _ ?_ Same.rfl')
   ·show some (V.int (if n=(v:Int) then 1 else 0))=_
    rw[if_pos (of_decide_eq_true h1)]
   ·show some (V.int (if n=(v:Int) then 1 else 0))=_
    rw[if_neg (of_decide_eq_false (eq_false_of_ne_true h1))]
  have h2:H2 D1=some (.lst ((comeRow k v).map V.int)):=by
   have e:((k.edges.map fun d=>(d.dst:Int)).map fun n=>if n=(v:Int) then (1:Int) else 0)=comeRow k v:=by rw[List.map_map];rfl
   rw[h2,fm_ints _ (fun n=>if n=(v:Int) then 1 else 0),e]
  have X2:=X.same s2
  refine⟨_,rfl,p,C,_,_,_,rfl,X2.obj,c.cl,c.leaves,hf_leaves,h.aL,rfl,⟨_,SqL.of X2.lv⟩,fun D2 hD2=>lc_L (xs:=(k.edges.map fun d=>(d.src:Int)).map V.int) (onI fun n=>some (V.int (if n=(v:Int) then 1 else 0))) hD2 (ll _) (SqL.of X2.lv) (fun i x H3 Y N e hS hY hN=>?_) (fun H3 s3 h3=>?_)⟩
  ·obtain⟨n,hn,rfl⟩:=get_int e
   refine⟨rfl,_,rfl,_,rfl,rfl,_,rfl,?_⟩
   rw[k1u]
   refine ite2 (fun h1=>hY _ _ ?_ Same.rfl') (fun h1=>hY _ _ ?_ Same.rfl')
   ·show some (V.int (if n=(v:Int) then 1 else 0))=_
    rw[if_pos (of_decide_eq_true h1)]
   ·show some (V.int (if n=(v:Int) then 1 else 0))=_
    rw[if_neg (of_decide_eq_false (eq_false_of_ne_true h1))]
  have h3:H3 D2=some (.lst ((leaveRow k v).map V.int)):=by
   have e:((k.edges.map fun d=>(d.src:Int)).map fun n=>if n=(v:Int) then (1:Int) else 0)=leaveRow k v:=by rw[List.map_map];rfl
   rw[h3,fm_ints _ (fun n=>if n=(v:Int) then 1 else 0),e]
  have h23:=s3 _ _ h2
  refine⟨_,rfl,_,rfl,D1,D2,_,_,rfl,SqL.of h23,SqL.of h3,fun D3 hD3=>lc_Z (xs:=(comeRow k v).map V.int) (ys:=(leaveRow k v).map V.int) (onII fun a b=>some (V.int (a - b))) hD3 (ll _) (SqL.of h23) (SqL.of h3) (fun i x y H4 T Y N e1 e2 hS hT hY hN=>?_) (fun H4 s4 h4=>?_)⟩
  ·obtain⟨m,hm,rfl⟩:=get_int e1
   obtain⟨n,hn,rfl⟩:=get_int e2
   refine⟨T,_,rfl,SqT.of hT,rfl,_,_,rfl,_,_,rfl,rfl,rfl,?_⟩
   exact⟨_,rfl,_,rfl,_,_,rfl,rfl,hY _ _ rfl Same.rfl'⟩
  ·rw[fm_ints2 (comeRow k v) (leaveRow k v) (fun a b=>a - b),flow_mults] at h4
   exact q H4 D3 (s2.trans (s3.trans s4)) (s2.free (s3.free hD3)) h4
abbrev s_node_bound:Stmt:=top 37
theorem sc_node_bound:FnScope ["held","node"] ["held","node"] (k0m s_node_bound):=⟨rfl,rfl,rfl,by decide +kernel,rfl,by decide +kernel,by decide +kernel⟩
def sp_node_bound (C:Addr):Sp:=fun vs H Q _=>∃ (p:Addr) (v:Nat) (k:Known) (h:HA),vs=[.ref p,.int (v:Int)]∧HeldR C H p k h∧Wf k∧Q (.int (flowFact k v).bound) H
theorem ok_node_bound (T:Txt K mg) (c:Cl K C) (D:Dfn K mg "node_bound" s_node_bound ["held","node"]):Prom P w K mg base 1 "node_bound" ["held","node"] (sp_node_bound C):=by
 refine D.prom sc_node_bound (fun vs H Q E h=>?_) (fun f cdv A outer s H vs Q E hr h=>?_)
 ·obtain⟨_,_,_,_,rfl,_⟩:=h
  rfl
 ·obtain⟨p,v,k,h,rfl,X,wf,q⟩:=h
  refine⟨_,(k0e (ps_if (k0x op_eq (pv 1) k0n (k1e _)) (k0j (k0q (pe_un un_neg k0n))) k0z) (k0j (k0q (pe_ifExp (k0x op_eq (pv 1) (pe_op op_sub (k0v K rfl (pv 0) rfl) k0n) (k1e _)) k0n k0n)))),?_⟩
  have n2:=wf.n2
  rw[flow_bound n2] at q
  refine⟨_,rfl,rfl,_,rfl,?_⟩
  rw[k1u]
  by_cases h0:v=0
  ·rw[decide_eq_true (p:=(v:Int)=0) (by omega)]
   rw[if_pos h0] at q
   exact iteT ⟨_,rfl,q⟩
  rw[decide_eq_false (p:=(v:Int)=0) (by omega)]
  rw[if_neg h0] at q
  refine iteF ⟨_,rfl,_,rfl,p,C,_,_,_,rfl,X.obj,c.cl,c.nodes,hf_nodes,_,_,rfl,rfl,rfl,_,rfl,?_⟩
  rw[k1u]
  by_cases h1:v=k.nodes - 1
  ·rw[decide_eq_true (p:=(v:Int)=(k.nodes:Int) - 1) (by omega)]
   rw[if_pos h1] at q
   exact iteT q
  ·rw[decide_eq_false (p:=(v:Int)=(k.nodes:Int) - 1) (by omega)]
   rw[if_neg h1] at q
   exact iteF q
abbrev s_conditions:Stmt:=top 34
theorem sc_conditions:FnScope ["held","rows","node","multiples","bound","multiple"] ["held"] (k0m s_conditions):=⟨rfl,rfl,rfl,by decide +kernel,rfl,by decide +kernel,by decide +kernel⟩
def sp_conditions (C:Addr):Sp:=fun vs H Q _=>∃ (p:Addr) (k:Known) (h:HA),vs=[.ref p]∧HeldR C H p k h∧Wf k∧∀ H' l,Same H H'->H l=none->CondsAt H' l (Vawctd.conditions k)->Q (.ref l) H'
theorem ok_conditions (T:Txt K mg) (c:Cl K C) (D:Dfn K mg "conditions" s_conditions ["held"]) (p_terms_of:Prom P w K mg base 1 "terms_of" ["multiples"] (sp_terms_of K)) (p_node_multiples:Prom P w K mg base 1 "node_multiples" ["held","node"] (sp_node_multiples C)) (p_node_bound:Prom P w K mg base 1 "node_bound" ["held","node"] (sp_node_bound C)) :
  Prom P w K mg base 2 "conditions" ["held"] (sp_conditions C):=by
 refine D.prom sc_conditions (fun vs H Q E h=>?_) (fun f cdv A outer s H vs Q E hr h=>?_)
 ·obtain⟨_,_,_,rfl,_⟩:=h
  rfl
 ·obtain⟨p,k,h,rfl,X,wf,q⟩:=h
  refine⟨_,(k0e (ps_setLc (i:=1) (own:=[("multiples",3),("bound",4)]) rfl sc_conditions.nd rfl rfl (sw_true rfl rfl rfl rfl) (pi_listK K rfl (k0v K rfl (pv 0) rfl)) (blkOk_by (by exact (show blkC ["held","rows","node","multiples","bound","multiple"] (k0m s_conditions) _ _=true by decide +kernel))) (fun _ _ _ _ _=>(pg_tupK K (n:=2) rfl rfl (k1h (k1f (i:=3) sc_conditions.nd rfl (by first|exact Or.inl rfl|exact Or.inr rfl)) (k1h (k1f (i:=4) sc_conditions.nd rfl (by first|exact Or.inl rfl|exact Or.inr rfl)) pgs_nil)))) (fun _ _ _ _ _=>pts_nil) (fun _ _ _ _ _=>(pe_tup (k0a (k0u p_terms_of (hr.mono (by decide)) rfl (k0a (pv 3) k0g)) (k0a (pv 4) k0g))))) (k0e (ps_for PassesOwn.never rfl (pi_range1 rfl T.n_range (k0a (k0v K rfl (pv 0) rfl) k0g)) (k1f (i:=2) sc_conditions.nd rfl (by first|exact Or.inl rfl|exact Or.inr rfl)) (k0e (k1m (i:=3) sc_conditions.nd rfl (Or.inl rfl) (k0u p_node_multiples (hr.mono (by decide)) rfl (k0a (pv 0) (k0a (pv 2) k0g)))) (k0e (k1m (i:=4) sc_conditions.nd rfl (Or.inl rfl) (k0u p_node_bound (hr.mono (by decide)) rfl (k0a (pv 0) (k0a (pv 2) k0g)))) (k0e (ps_expr (pe_bm PySem.F.plainAttrs_list PySem.F.slot_list_append PySem.F.type_list_append mt_append (pv 1) (k0a (pe_tup (k0a (k0u p_terms_of (hr.mono (by decide)) rfl (k0a (pv 3) k0g)) (k0a (pv 4) k0g))) k0g))) (k0j (ps_expr (pe_bm PySem.F.plainAttrs_list PySem.F.slot_list_append PySem.F.type_list_append mt_append (pv 1) (k0a (pe_tup (k0a (k0u p_terms_of (hr.mono (by decide)) rfl (k0a (pe_lc (own:=[("multiple",5)]) rfl sc_conditions.nd (pi_listK K rfl (pv 3)) (blkOk_by (by exact (show blkC ["held","rows","node","multiples","bound","multiple"] (k0m s_conditions) _ _=true by decide +kernel))) (fun _ _ _ _ _=>(k1f (i:=5) sc_conditions.nd rfl (by first|exact Or.inl rfl|exact Or.inr rfl))) (fun _ _ _ _ _=>pts_nil) (fun _ _ _ _ _=>(pe_un un_neg (pv 5)))) k0g)) (k0a (pe_un un_neg (pv 4)) k0g))) k0g)))))))) (k0j (k0q (pv 1))))),?_⟩
  have e16:=wf.e16
  have f6:=wf.f6
  have n8:=wf.n8
  refine⟨_,rfl,p,C,_,_,_,rfl,X.obj,c.cl,c.facts,hf_facts,h.aF,rfl,⟨_,SqL.of X.fa⟩,fun D hD=>lc_rel (J:=Itl K h.aF) (n:=h.fts.length) (fun i ys G=>∃ cts:List Addr,ys=cts.map V.ref∧Row (CondAt G D) cts (k.facts.take i)) hD (k1q (by rw[X.flen];omega)) ⟨[],rfl,.nil⟩ ?_
   (fun G hS=>⟨_,hS.seq (SqL.of X.fa),by rw[List.length_map];exact Nat.le_refl _⟩) (fun i G hi hS=>⟨_,_,hS.seq (SqL.of X.fa),List.getElem?_eq_getElem (by rw[List.length_map];exact hi)⟩) ?_ ?_⟩
  ·rintro i ys zs G G' hG off ⟨cts,rfl,r⟩
   exact⟨cts,rfl,r.mono fun a f _ p=>p.off hG off⟩
  ·rintro i G x G' ys Y N hi hS hDi ⟨cts,rfl,r⟩ ⟨rfl,hy⟩ hY hN
   have e:=hy _ (hS.seq (SqL.of X.fa))
   rw[List.getElem?_map] at e
   obtain⟨z,hz,rfl⟩:=Option.map_eq_some_iff.mp e
   have hlt:i < k.facts.length:=by rw[← X.flen];exact hi
   have hfi:=List.getElem?_eq_getElem hlt
   generalize k.facts[i]=ft at hfi
   obtain⟨t1,t2⟩:=X.fats i z ft hz hfi
   obtain⟨m1,m2,m3,m4⟩:=wf.fm ft (List.mem_of_getElem? hfi)
   refine⟨z.1,_,rfl,SqT.of (hS _ _ t1),rfl,_,_,rfl,_,_,rfl,rfl,rfl,?_⟩
   refine⟨_,rfl,z.2,ft.mults,rfl,SqL.of (hS _ _ t2),(by rw[m1];omega),fun H3 t s3 hn ht=>⟨_,rfl,(by show 2≤sizeLine;decide),fun a ha=>?_⟩⟩
   have s4:Same _ (upd H3 a (.tup [.ref t,.int ft.bound])):=s3.grow ha
   refine hY _ _ s4 ⟨cts++[a],by simp,?_⟩
   rw[List.take_add_one,hfi,Option.toList_some]
   exact (r.mono fun b g _ p=>p.same s4).snoc ⟨t,(fun e=>by rw[e,hDi] at hn;cases hn),k0f,ht.same (Same.new ha)⟩
  rintro G ys hS hG ⟨cts,rfl,r⟩
  rw[X.flen,List.take_length,← condRows_zero] at r
  have X2:=X.same hS
  refine⟨_,rfl,p,C,_,_,_,rfl,X2.obj,c.cl,c.nodes,hf_nodes,_,rfl,(by omega),(by omega),?_⟩
  rw[Int.toNat_natCast]
  refine for_range (lo:=0) (n:=k.nodes) (fun i σ G=>∃ (v2 v3 v4 v5:Option V) (cts:List Addr),σ=[some (.ref p),some (.ref D),v2,v3,v4,v5]∧Same H G∧G D=some (.lst (cts.map V.ref))∧Row (CondAt G D) cts (condRows k i)) ⟨_,_,_,_,cts,rfl,hS,hG,r⟩ ?_ ?_
  ·rintro i σ G hi ⟨v2,v3,v4,v5,cts,rfl,s5,hG5,r5⟩
   have X5:=X.same s5
   have rl:=r5.length
   rw[condRows_len] at rl
   have ei:(0:Int)+(i:Int)=((i:Nat):Int):=by omega
   have dn:∀ {G':Hp} {l:Addr},Same G G'->G' l=none->l≠D:=fun s e e'=>by rw[e',s _ _ hG5] at e;cases e
   refine⟨_,rfl,_,rfl,p,i,k,h,(by rw[ei];rfl),X5,wf,fun G1 l1 s1 n1 h1=>?_⟩
   refine⟨_,rfl,_,rfl,p,i,k,h,(by rw[ei];rfl),X5.same s1,wf,?_⟩
   have fl:(flowFact k i).mults.length≤1000:=by unfold flowFact;rw[List.length_map];omega
   refine⟨_,rfl,.inl ⟨rfl,_,SqL.of (s1 _ _ hG5)⟩,_,rfl,l1,(flowFact k i).mults,rfl,SqL.of h1,fl,fun G2 t2 s2 n2 h2=>⟨_,rfl,(by show 2≤sizeLine;decide),fun a2 ha2=>?_⟩⟩
   have s12:=s1.trans s2
   have g2:=(Same.new (o:=.tup [.ref t2,.int (flowFact k i).bound]) ha2) _ _ (s12 _ _ hG5)
   refine⟨D,_,_,rfl,rfl,g2,(by rw[List.length_map];exact Nat.lt_of_le_of_lt (show cts.length≤1000 by omega) (by decide)),?_⟩
   obtain⟨c1,c2⟩:=CondsAt.snoc (f:=flowFact k i) hG5 r5 (s12.grow ha2) (dn s1 n2) k0f (h2.same (Same.new ha2))
   generalize hG3:upd (upd G2 a2 (.tup [.ref t2,.int (flowFact k i).bound])) D (.lst (cts.map V.ref++[.ref a2]))=G3 at c1 c2
   have s3:Same H G3:=by
    rw[← hG3]
    exact ((s5.trans s12).grow ha2).put hD
   have l3:G3 l1=some (.lst ((flowFact k i).mults.map V.int)):=by
    rw[← hG3,k0p (dn Same.rfl' n1),k0p (k0h (s2 _ _ h1) ha2)]
    exact s2 _ _ h1
   refine⟨_,rfl,.inl ⟨rfl,_,SqL.of c1⟩,_,rfl,l1,rfl,⟨_,SqL.of l3⟩,fun D4 hD4=>lc_L (xs:=(flowFact k i).mults.map V.int) (onI fun n=>some (V.int (-n))) hD4 (k1q (by rw[List.length_map];exact fl)) (SqL.of l3) (fun j x H4 Y N e hS4 hY hN=>?_) (fun G4 s4 h4=>?_)⟩
   ·obtain⟨n,hn,rfl⟩:=get_int e
    exact⟨rfl,_,rfl,_,rfl,hY _ _ rfl Same.rfl'⟩
   rw[fm_ints _ (fun n=>-n)] at h4
   have fl':(otherSign (flowFact k i)).mults.length≤1000:=by unfold otherSign;rw[List.length_map];exact fl
   refine⟨D4,(otherSign (flowFact k i)).mults,rfl,SqL.of h4,fl',fun G5 t5 s5' n5 h5=>⟨_,rfl,_,rfl,(by show 2≤sizeLine;decide),fun a5 ha5=>?_⟩⟩
   have s45:=s4.trans s5'
   have g5:=(Same.new (o:=.tup [.ref t5,.int (-(flowFact k i).bound)]) ha5) _ _ (s45 _ _ c1)
   refine⟨D,_,_,rfl,rfl,g5,(by rw[List.length_map,List.length_append];exact Nat.lt_of_le_of_lt (show cts.length+1≤1000 by omega) (by decide)),?_⟩
   have n5':t5≠D:=fun e=>by rw[e,s4 _ _ c1] at n5;cases n5
   obtain⟨d1,d2⟩:=CondsAt.snoc (f:=otherSign (flowFact k i)) c1 c2 (s45.grow ha5) n5' k0f (h5.same (Same.new ha5))
   refine⟨_,_,_,_,cts++[a2]++[a5],rfl,((s3.trans s45).grow ha5).put hD,d1,?_⟩
   rw[condRows_succ]
   exact d2
  ·rintro σ G ⟨v2,v3,v4,v5,cts,rfl,s5,hG5,r5⟩
   exact⟨_,rfl,q G D s5 hD ⟨cts,hG5,r5⟩⟩
end
end Ww
end
section
namespace Ww
open PySem PySem.Spec PyProof.Rows L2
open Vawctd (Known Edge Fact inRange toInts countsOf Box flowFact otherSign)
theorem fm_filter (g:Nat->Bool):∀ L:List Nat,((toInts L).map V.int).filterMap (onI fun n=>if g n.toNat then some (V.int n) else none)=(toInts (L.filter g)).map V.int
 | []=>rfl
 | e::L=>by
  have ih:=fm_filter g L
  show List.filterMap _ (V.int (e:Int)::(toInts L).map V.int)=_
  rw[List.filterMap_cons,ih,List.filter_cons]
  have e0:onI (fun n=>if g n.toNat then some (V.int n) else none) (V.int (e:Int))=if g e then some (V.int (e:Int)) else none:=by
   show (if g ((e:Nat):Int).toNat then some (V.int (e:Int)) else none)=_
   rw[Int.toNat_natCast]
  rw[e0]
  cases g e<;>rfl
theorem range_map {α β:Type} (l:List α) (g:α->β):(List.range l.length).filterMap (fun i=>(l[i]?).map g)=l.map g:=by
 have e:(fun i=>(l[i]?).map g)=fun i=>(l[i]?).bind ((fun (_:Nat) a=>some (g a)) i):=by
  funext i
  cases l[i]?<;>rfl
 rw[e,range_fm l (fun _ a=>some (g a)),zipIdx_fm l (fun a=>some (g a)),List.filterMap_eq_map']
section
variable {P:Program} {w:World} {K:PySem.W.Frag} {mg:Str->Option Value} {base:Heap} {C:Addr}
abbrev s_upward_edges:Stmt:=top 39
theorem sc_upward_edges:FnScope ["held","node","leaving","edge","other"] ["held","node"] (k0m s_upward_edges):=⟨rfl,rfl,rfl,by decide +kernel,rfl,by decide +kernel,by decide +kernel⟩
def gLeave (v i:Nat):V->Option V:=onI fun n=>if decide (n=(v:Int)) then some (.int (i:Int)) else none
def upw (k:Known) (v e:Nat):Bool:=decide (v < (k.edges.getD e ⟨0,0,0,0⟩).dst)&&decide (0 < (k.edges.getD e ⟨0,0,0,0⟩).most)
def sp_upward_edges (C:Addr):Sp:=fun vs H Q _=>∃ (p:Addr) (v:Nat) (k:Known) (h:HA),vs=[.ref p,.int (v:Int)]∧HeldR C H p k h∧Wf k∧∀ H' l,Same H H'->H l=none->H' l=some (.lst ((toInts (upEdges k v)).map V.int))->Q (.ref l) H'
theorem ok_upward_edges (T:Txt K mg) (c:Cl K C) (D:Dfn K mg "upward_edges" s_upward_edges ["held","node"]):Prom P w K mg base 1 "upward_edges" ["held","node"] (sp_upward_edges C):=by
 refine D.prom sc_upward_edges (fun vs H Q E h=>?_) (fun f cdv A outer s H vs Q E hr h=>?_)
 ·obtain⟨_,_,_,_,rfl,_⟩:=h
  rfl
 ·obtain⟨p,v,k,h,rfl,X,wf,q⟩:=h
  refine⟨_,(k0e (ps_setLc (i:=2) (own:=[("edge",3),("other",4)]) rfl sc_upward_edges.nd rfl rfl (sw_true rfl rfl rfl rfl) (pi_enumK K rfl rfl T.n_enumerate (k0a (k0v K rfl (pv 0) rfl) k0g)) (blkOk_by (by exact (show blkC ["held","node","leaving","edge","other"] (k0m s_upward_edges) _ _=true by decide +kernel))) (fun _ _ _ _ _=>(pg_tupK K (n:=2) rfl rfl (k1h (k1f (i:=3) sc_upward_edges.nd rfl (by first|exact Or.inl rfl|exact Or.inr rfl)) (k1h (k1f (i:=4) sc_upward_edges.nd rfl (by first|exact Or.inl rfl|exact Or.inr rfl)) pgs_nil)))) (fun _ _ _ _ _=>(pts_one (k0x op_eq (pv 4) (pv 1) (k1e _)))) (fun _ _ _ _ _=>(pv 3))) (k0j (k0q (pe_lc (own:=[("edge",3)]) rfl sc_upward_edges.nd (pi_listK K rfl (pv 2)) (blkOk_by (by exact (show blkC ["held","node","leaving","edge","other"] (k0m s_upward_edges) _ _=true by decide +kernel))) (fun _ _ _ _ _=>(k1f (i:=3) sc_upward_edges.nd rfl (by first|exact Or.inl rfl|exact Or.inr rfl))) (fun _ _ _ _ _=>(pts_one (PW.pt (pw_and (k0x op_gt (pe_ix (k0w K rfl) (k0v K rfl (pv 0) rfl) (pv 3) (fun _ _=>rfl)) (pv 1) (k1e _)) (pw_and1 (k0x op_gt (pe_ix (k0w K rfl) (k0v K rfl (pv 0) rfl) (pv 3) (fun _ _=>rfl)) k0n (k1e _))))))) (fun _ _ _ _ _=>(pv 3)))))),?_⟩
  have e16:=wf.e16
  refine⟨_,rfl,p,C,_,_,_,rfl,X.obj,c.cl,c.leaves,hf_leaves,h.aL,_,rfl,SqL.of X.lv,fun D hD=>lc_E (xs:=(k.edges.map fun d=>(d.src:Int)).map V.int) (gLeave v) hD (k1q (by rw[List.length_map,List.length_map];omega)) (SqL.of X.lv) (fun i x H2 T Y N e hS hT hY hN=>?_) (fun H2 s2 h2=>?_)⟩
  ·obtain⟨n,hn,rfl⟩:=get_int e
   refine⟨T,_,rfl,SqT.of hT,rfl,_,_,rfl,_,_,rfl,rfl,rfl,?_⟩
   refine⟨_,rfl,_,rfl,rfl,_,rfl,?_⟩
   rw[k1u]
   refine ite2 (fun h1=>⟨_,rfl,hY _ _ ?_ Same.rfl'⟩) (fun h1=>hN _ ?_ Same.rfl')
   ·show (if decide (n=(v:Int)) then some (V.int (i:Int)) else none)=_
    rw[if_pos h1]
   ·show (if decide (n=(v:Int)) then some (V.int (i:Int)) else none)=_
    rw[if_neg h1]
  have h2:H2 D=some (.lst ((toInts (idxs (fun d:Edge=>decide (d.src=v)) k.edges)).map V.int)):=by
   rw[h2]
   refine congrArg (fun l=>some (HO.lst l)) (enum_idx (fun d:Edge=>decide (d.src=v)) k.edges ((k.edges.map fun d=>(d.src:Int)).map V.int) (gLeave v) 0 (by rw[List.length_map,List.length_map]) fun i x d hx hd=>?_)
   rw[List.getElem?_map,List.getElem?_map,hd] at hx
   cases hx
   rw[Nat.zero_add]
   show (if decide ((d.src:Int)=(v:Int)) then some (V.int (i:Int)) else none)=_
   have:decide ((d.src:Int)=(v:Int))=decide (d.src=v):=by
    by_cases q:d.src=v
    ·rw[decide_eq_true q,decide_eq_true (by omega)]
    ·rw[decide_eq_false q,decide_eq_false (by omega)]
   rw[this]
  have il:=idxs_len (fun d:Edge=>decide (d.src=v)) k.edges 0
  refine⟨_,rfl,D,rfl,⟨_,SqL.of h2⟩,fun D2 hD2=>lc_L (xs:=(toInts (idxs (fun d:Edge=>decide (d.src=v)) k.edges)).map V.int) (onI fun n=>if upw k v n.toNat then some (V.int n) else none) hD2 (k1q (by rw[ints_len];omega)) (SqL.of h2) (fun i x H3 Y N e hS hY hN=>?_) (fun H3 s3 h3=>?_)⟩
  ·obtain⟨n,hn,rfl⟩:=get_nat e
   obtain⟨_,d,hd,_⟩:=idxs_mem _ _ _ _ (List.mem_of_getElem? hn)
   rw[Nat.sub_zero] at hd
   have X3:=X.same (s2.trans hS)
   have hcm:atI ((k.edges.map fun d=>(d.dst:Int)).map V.int) (n:Int)=some (.int (d.dst:Int)):=at_int (by rw[List.getElem?_map,hd];rfl)
   have hmo:atI ((k.edges.map fun d=>(d.most:Int)).map V.int) (n:Int)=some (.int (d.most:Int)):=at_int (by rw[List.getElem?_map,hd];rfl)
   have eu:upw k v n=(decide (v < d.dst)&&decide (0 < d.most)):=by unfold upw;rw[getD_of hd]
   have hY':upw k v n=true->∀ H4,Same H3 H4->Y (.int (n:Int)) H4:=fun z H4 s4=>hY _ H4 (by show (if upw k v ((n:Nat):Int).toNat then _ else _)=_;rw[Int.toNat_natCast,if_pos z]) s4
   have hN':upw k v n=false->∀ H4,Same H3 H4->N H4:=fun z H4 s4=>hN H4 (by show (if upw k v ((n:Nat):Int).toNat then _ else _)=_;rw[Int.toNat_natCast,z];rfl) s4
   rw[eu] at hY' hN'
   refine⟨rfl,_,rfl,p,C,_,_,_,rfl,X3.obj,c.cl,c.comes,hf_comes,_,rfl,h.aC,_,_,_,rfl,rfl,SqL.of X3.cm,hcm,_,rfl,_,_,rfl,rfl,_,rfl,?_⟩
   by_cases h1:v < d.dst
   ·rw[decide_eq_true (p:=(v:Int) < (d.dst:Int)) (by omega)]
    rw[decide_eq_true h1,Bool.true_and] at hY' hN'
    refine iteT ⟨_,rfl,p,C,_,_,_,rfl,X3.obj,c.cl,c.mosts,hf_mosts,_,rfl,h.aM,_,_,_,rfl,rfl,SqL.of X3.mo,hmo,_,_,rfl,rfl,_,rfl,?_⟩
    by_cases h2:0 < d.most
    ·rw[decide_eq_true (p:=(0:Int) < (d.most:Int)) (by omega)]
     exact iteT ⟨_,rfl,hY' (decide_eq_true h2) _ Same.rfl'⟩
    ·rw[decide_eq_false (p:=(0:Int) < (d.most:Int)) (by omega)]
     exact iteF (hN' (decide_eq_false h2) _ Same.rfl')
   ·rw[decide_eq_false (p:=(v:Int) < (d.dst:Int)) (by omega)]
    rw[decide_eq_false h1,Bool.false_and] at hN'
    exact iteF (iteF (hN' rfl _ Same.rfl'))
  ·rw[fm_filter,idxs_filter (fun d:Edge=>decide (d.src=v)) (fun d:Edge=>decide (v < d.dst)&&decide (0 < d.most)) ⟨0,0,0,0⟩ k.edges 0 (upw k v) (fun i d hd=>by unfold upw;rw[Nat.zero_add,getD_of hd])] at h3
   exact q H3 D2 (s2.trans s3) (s2.free hD2) h3
abbrev s_potentials:Stmt:=top 38
theorem sc_potentials:FnScope ["held","heights","node","edges","edge"] ["held"] (k0m s_potentials):=⟨rfl,rfl,rfl,by decide +kernel,rfl,by decide +kernel,by decide +kernel⟩
def sp_potentials (C:Addr):Sp:=fun vs H Q _=>∃ (p:Addr) (k:Known) (cs:List Int) (h:HA),vs=[.ref p]∧HeldC C H p k cs h∧Wf k∧∀ H' l,Same H H'->H l=none->H' l=some (.lst ((Vawctd.potentials k cs).map V.int))->Q (.ref l) H'
theorem ok_potentials (T:Txt K mg) (c:Cl K C) (D:Dfn K mg "potentials" s_potentials ["held"]) (p_upward_edges:Prom P w K mg base 1 "upward_edges" ["held","node"] (sp_upward_edges C)):Prom P w K mg base 2 "potentials" ["held"] (sp_potentials C):=by
 refine D.prom sc_potentials (fun vs H Q E h=>?_) (fun f cdv A outer s H vs Q E hr h=>?_)
 ·obtain⟨_,_,_,_,rfl,_⟩:=h
  rfl
 ·obtain⟨p,k,cs,h,rfl,X,wf,q⟩:=h
  refine⟨_,(k0e (k1m (i:=1) sc_potentials.nd rfl (Or.inr rfl) (pe_op op_rep (k1g (k0a k0n k0g)) (k0v K rfl (pv 0) rfl))) (k0e (ps_for PassesOwn.never rfl (pi_range3 rfl T.n_range (k0a (pe_op op_sub (k0v K rfl (pv 0) rfl) k0n) (k0a (pe_un un_neg k0n) (k0a (pe_un un_neg k0n) k0g)))) (k1f (i:=2) sc_potentials.nd rfl (by first|exact Or.inl rfl|exact Or.inr rfl)) (k0e (k1m (i:=3) sc_potentials.nd rfl (Or.inl rfl) (k0u p_upward_edges (hr.mono (by decide)) rfl (k0a (pv 0) (k0a (pv 2) k0g)))) (k0j (ps_asg (pe_maxDK K rfl rfl rfl T.n_max (k0a (pe_lc (own:=[("edge",4)]) rfl sc_potentials.nd (pi_listK K rfl (pv 3)) (blkOk_by (by exact (show blkC ["held","heights","node","edges","edge"] (k0m s_potentials) _ _=true by decide +kernel))) (fun _ _ _ _ _=>(k1f (i:=4) sc_potentials.nd rfl (by first|exact Or.inl rfl|exact Or.inr rfl))) (fun _ _ _ _ _=>pts_nil) (fun _ _ _ _ _=>(pe_op op_add (pe_ix (k0w K rfl) (k0v K rfl (pv 0) rfl) (pv 4) (fun _ _=>rfl)) (pe_ix (k0w K rfl) (pv 1) (pe_ix (k0w K rfl) (k0v K rfl (pv 0) rfl) (pv 4) (fun _ _=>rfl)) (fun _ _=>rfl))))) k0g) (pk_cons k0n pk_nil)) (pg_sub (pv 1) (pv 2) set_list))))) (k0j (k0q (pv 1))))),?_⟩
  have n8:=wf.n8
  have n2:=wf.n2
  have e16:=wf.e16
  refine⟨(by show 1≤sizeLine;decide),fun l0 hl0=>?_⟩
  have s0:Same H (upd H l0 (.lst [V.int 0])):=Same.new hl0
  have x0:=X.same s0
  refine⟨_,rfl,p,C,_,_,_,rfl,x0.r.obj,c.cl,c.nodes,hf_nodes,l0,_,_,rfl,rfl,k0f,(by omega),(by omega),(by show 1*_≤sizeLine;rw[Int.toNat_natCast,Nat.one_mul];exact Nat.le_trans n8 (by decide)),fun l hl=>?_⟩
  have e1:(List.replicate ((k.nodes:Int)).toNat [V.int 0]).flatten=(hRow k cs 0).map V.int:=by
   rw[Int.toNat_natCast,hRow_zero]
   simp[List.map_replicate]
  rw[e1]
  have hln:H l=none:=s0.free hl
  have s1:Same H (upd (upd H l0 (.lst [V.int 0])) l (.lst ((hRow k cs 0).map V.int))):=s0.grow hl
  have x1:=X.same s1
  have rg:RgC ((k.nodes:Int) - 1) (-1) (-1) k.nodes:=by
   have:=RgC.neg (i:=(k.nodes:Int) - 1) (j:=-1) (by omega) (by omega) (by omega) (by omega)
   have e:((k.nodes:Int) - 1 - (-1)).toNat=k.nodes:=by omega
   rw[e] at this
   exact this
  refine⟨_,rfl,p,C,_,_,_,rfl,x1.r.obj,c.cl,c.nodes,hf_nodes,_,_,rfl,rfl,_,rfl,_,rfl,_,_,_,k.nodes,rfl,rg,?_⟩
  refine for_rangeC (lo:=(k.nodes:Int) - 1) (c:=-1) (n:=k.nodes) (fun i σ G=>∃ (v2 v3 v4:Option V),σ=[some (.ref p),some (.ref l),v2,v3,v4]∧Same H G∧G l=some (.lst ((hRow k cs i).map V.int))) ⟨_,_,_,rfl,s1,k0f⟩ ?_ ?_
  ·rintro i σ G hi ⟨v2,v3,v4,rfl,s5,hl5⟩
   have ev:(k.nodes:Int) - 1+(i:Nat)*(-1)=((k.nodes - 1 - i:Nat):Int):=by omega
   have hv:k.nodes - 1 - i < k.nodes:=by omega
   generalize hve:k.nodes - 1 - i=v at ev hv
   have X5:=X.same s5
   refine⟨_,rfl,_,rfl,p,v,k,h,(by rw[ev];rfl),X5.r,wf,fun G1 l1 s6 n1 h1=>?_⟩
   have S6:=s5.trans s6
   have hl6:=s6 _ _ hl5
   have ul:(upEdges k v).length≤k.edges.length:=idxs_len _ _ _
   have ei:k.nodes - 1 - v=i:=by omega
   refine⟨_,rfl,l1,rfl,⟨_,SqL.of h1⟩,fun D2 hD2=>lc_L (xs:=(toInts (upEdges k v)).map V.int) (onI fun n=>some (V.int (cs.getD n.toNat 0+(hRow k cs i).getD (k.edges.getD n.toNat ⟨0,0,0,0⟩).dst 0))) hD2 (k1q (by rw[ints_len];omega)) (SqL.of h1) (fun j x H3 Y N e hS hY hN=>?_) (fun G3 s7 h3=>?_)⟩
   ·obtain⟨n,hn,rfl⟩:=get_nat e
    obtain⟨_,d,hd,_⟩:=idxs_mem _ _ _ _ (List.mem_of_getElem? hn)
    rw[Nat.sub_zero] at hd
    have hlt:n < k.edges.length:=(List.getElem?_eq_some_iff.mp hd).1
    have hdn:=(wf.ed d (List.mem_of_getElem? hd)).2.1
    have X7:=X.same (S6.trans hS)
    have hl7:=hS _ _ hl6
    have hcm:atI ((k.edges.map fun d=>(d.dst:Int)).map V.int) (n:Int)=some (.int (d.dst:Int)):=at_int (by rw[List.getElem?_map,hd];rfl)
    have hco:atI (cs.map V.int) (n:Int)=some (.int (cs.getD n 0)):=at_int (by rw[List.getD_eq_getElem?_getD,List.getElem?_eq_getElem (by rw[X.clen];exact hlt)];rfl)
    have hhr:atI ((hRow k cs i).map V.int) (d.dst:Int)=some (.int ((hRow k cs i).getD d.dst 0)):=at_int (by rw[List.getD_eq_getElem?_getD,List.getElem?_eq_getElem (by rw[hRow_len];exact hdn)];rfl)
    refine⟨rfl,_,rfl,p,C,_,_,_,rfl,X7.r.obj,c.cl,c.costs,hf_costs,_,rfl,h.aK,_,_,_,rfl,rfl,SqL.of X7.co,hco,_,rfl,_,rfl,p,C,_,_,_,rfl,X7.r.obj,c.cl,c.comes,hf_comes,_,rfl,h.aC,_,_,_,rfl,rfl,SqL.of X7.r.cm,hcm,l,_,_,_,rfl,rfl,SqL.of hl7,hhr,_,_,rfl,rfl,hY _ _ ?_ Same.rfl'⟩
    show some (V.int (cs.getD ((n:Nat):Int).toNat 0+(hRow k cs i).getD (k.edges.getD ((n:Nat):Int).toNat ⟨0,0,0,0⟩).dst 0))=_
    rw[Int.toNat_natCast,getD_of hd]
   have h3:G3 D2=some (.lst (((upEdges k v).map fun e=>cs.getD e 0+(hRow k cs i).getD (k.edges.getD e ⟨0,0,0,0⟩).dst 0).map V.int)):=by
    rw[h3,fm_ints _ (fun n=>cs.getD n.toNat 0+(hRow k cs i).getD (k.edges.getD n.toNat ⟨0,0,0,0⟩).dst 0)]
    have e2:(toInts (upEdges k v)).map (fun n=>cs.getD n.toNat 0+(hRow k cs i).getD (k.edges.getD n.toNat ⟨0,0,0,0⟩).dst 0)=(upEdges k v).map fun e=>cs.getD e 0+(hRow k cs i).getD (k.edges.getD e ⟨0,0,0,0⟩).dst 0:=by
     unfold toInts
     rw[List.map_map]
     rfl
    rw[e2]
   have pr:=pot_row (k:=k) (cs:=cs) hv (fun d hd=>(wf.ed d hd).2.1) X.clen
   rw[ei] at pr
   refine⟨D2,_,0,rfl,rfl,SqL.of h3,fun m hm=>?_⟩
   have em:m=(Vawctd.potentials k cs).getD v 0:=by
    rw[pr]
    rcases hm with ⟨z0,z1⟩|⟨z0,z1⟩
    ·rw[z0,z1];rfl
    ·exact greatest_unique z0 z1
   have hl8:=s7 _ _ hl6
   have S8:=S6.trans s7
   refine⟨_,rfl,_,rfl,l,_,_,v,rfl,rfl,hl8,ix_nat (by exact ev) (by rw[List.length_map,hRow_len];exact hv),?_⟩
   refine⟨_,_,_,rfl,S8.put hln,?_⟩
   rw[k0f,map_set_int,em,← hve,hRow_succ hi]
  ·rintro σ G ⟨v2,v3,v4,rfl,s5,hl5⟩
   rw[hRow_all] at hl5
   exact⟨_,rfl,q G l s5 hln hl5⟩
abbrev s_surpluses:Stmt:=top 40
theorem sc_surpluses:FnScope ["held","heights","cost","leave","come"] ["held","heights"] (k0m s_surpluses):=⟨rfl,rfl,rfl,by decide +kernel,rfl,by decide +kernel,by decide +kernel⟩
def sp_surpluses (K:PySem.W.Frag) (C:Addr):Sp:=fun vs H Q _=>∃ (p b:Addr) (k:Known) (cs:List Int) (h:HA),vs=[.ref p,.ref b]∧HeldC C H p k cs h∧Wf k∧SqL K H b ((Vawctd.potentials k cs).map V.int) ∧
 ∀ H' l,Same H H'->H l=none->H' l=some (.lst ((Vawctd.surpluses k cs).map V.int))->Q (.ref l) H'
theorem ok_surpluses (T:Txt K mg) (c:Cl K C) (D:Dfn K mg "surpluses" s_surpluses ["held","heights"]):Prom P w K mg base 1 "surpluses" ["held","heights"] (sp_surpluses K C):=by
 refine D.prom sc_surpluses (fun vs H Q E h=>?_) (fun f cdv A outer s H vs Q E hr h=>?_)
 ·obtain⟨_,_,_,_,_,rfl,_⟩:=h
  rfl
 ·obtain⟨p,b,k,cs,h,rfl,X,wf,hb,q⟩:=h
  refine⟨_,(k0j (k0q (pe_lc (own:=[("cost",2),("leave",3),("come",4)]) rfl sc_surpluses.nd (pi_zip3K K rfl rfl T.n_zip (k0a (k0v K rfl (pv 0) rfl) (k0a (k0v K rfl (pv 0) rfl) (k0a (k0v K rfl (pv 0) rfl) k0g)))) (blkOk_by (by exact (show blkC ["held","heights","cost","leave","come"] (k0m s_surpluses) _ _=true by decide +kernel))) (fun _ _ _ _ _=>(pg_tupK K (n:=3) rfl rfl (k1h (k1f (i:=2) sc_surpluses.nd rfl (by first|exact Or.inl rfl|exact Or.inr rfl)) (k1h (k1f (i:=3) sc_surpluses.nd rfl (by first|exact Or.inl rfl|exact Or.inr rfl)) (k1h (k1f (i:=4) sc_surpluses.nd rfl (by first|exact Or.inl rfl|exact Or.inr rfl)) pgs_nil))))) (fun _ _ _ _ _=>pts_nil) (fun _ _ _ _ _=>(pe_op op_add (pe_op op_sub (pv 2) (pe_ix (k0w K rfl) (pv 1) (pv 3) (fun _ _=>rfl))) (pe_ix (k0w K rfl) (pv 1) (pv 4) (fun _ _=>rfl))))))),?_⟩
  have e16:=wf.e16
  have sl:=surpluses_len (k:=k) X.clen
  have qa:SqL K H h.aK (cs.map V.int):=SqL.of X.co
  have ql:SqL K H h.aL ((k.edges.map fun d=>(d.src:Int)).map V.int):=SqL.of X.r.lv
  have qc:SqL K H h.aC ((k.edges.map fun d=>(d.dst:Int)).map V.int):=SqL.of X.r.cm
  refine⟨_,rfl,p,C,_,_,_,rfl,X.r.obj,c.cl,c.costs,hf_costs,_,rfl,p,C,_,_,_,rfl,X.r.obj,c.cl,c.leaves,hf_leaves,_,rfl,p,C,_,_,_,rfl,X.r.obj,c.cl,c.comes,hf_comes,h.aK,h.aL,h.aC,_,_,_,rfl,qa,ql,qc,
   fun D hD=>lc_pure (J:=Itz3 K h.aK h.aL h.aC) (n:=k.edges.length) (fun i=>((Vawctd.surpluses k cs)[i]?).map V.int) hD (k1q (by omega)) (fun G hS=>⟨_,hS.seq qa,by rw[List.length_map,X.clen];exact Nat.le_refl _⟩)
    (fun i G hi hS=>⟨_,_,_,_,_,_,hS.seq qa,hS.seq ql,hS.seq qc,List.getElem?_eq_getElem (by rw[List.length_map,X.clen];exact hi),List.getElem?_eq_getElem (by rw[List.length_map,List.length_map];exact hi),List.getElem?_eq_getElem (by rw[List.length_map,List.length_map];exact hi)⟩) ?_ (fun G hS hDG=>?_)⟩
  ·rintro i G x G' Y N hi hS ⟨T,x1,x2,x3,rfl,hT,rfl,y1,y2,y3⟩ hY hN
   have hd:=List.getElem?_eq_getElem hi
   have hmem:=List.getElem_mem hi
   generalize k.edges[i]=d at hd hmem
   obtain⟨w1,w2,_,_⟩:=wf.ed d hmem
   obtain⟨cc,hc,rfl⟩:=get_int (y1 _ (hS.seq qa))
   have e2:=y2 _ (hS.seq ql)
   have e3:=y3 _ (hS.seq qc)
   rw[List.getElem?_map,List.getElem?_map,hd] at e2 e3
   cases e2
   cases e3
   have s1:Same G (upd G T (.tup [.int cc,.int (d.src:Int),.int (d.dst:Int)])):=Same.new hT
   have hb':=(hS.trans s1).seq hb
   have at1:∀ n,n < k.nodes->atI ((Vawctd.potentials k cs).map V.int) (n:Int)=some (.int ((Vawctd.potentials k cs).getD n 0)):=fun n hn=>at_int (by rw[List.getD_eq_getElem?_getD,List.getElem?_eq_getElem (by rw[potentials_len];exact hn)];rfl)
   refine⟨T,_,rfl,SqT.of k0f,rfl,_,_,rfl,_,_,rfl,_,_,rfl,rfl,rfl,?_⟩
   refine⟨_,rfl,_,rfl,_,rfl,b,_,_,_,rfl,rfl,hb',at1 _ w1,_,_,rfl,rfl,_,rfl,_,rfl,b,_,_,_,rfl,rfl,hb',at1 _ w2,_,_,rfl,rfl,hY _ _ ?_ s1⟩
   show ((Vawctd.surpluses k cs)[i]?).map V.int=_
   rw[surpluses_get hd hc]
   rfl
  ·have e:=range_map (Vawctd.surpluses k cs) V.int
   rw[sl] at e
   rw[e] at hDG
   exact q G D hS hD hDG
end
end Ww
end
section
namespace Ww
open PySem PySem.Spec PyProof.Rows L2
open Vawctd (Known Edge Fact inRange toInts countsOf Box flowFact otherSign)
def BansAt (H:Hp) (D:Addr) (bs:List (Nat × Nat)):Prop:=∃ bts:List Addr,H D=some (.lst (bts.map V.ref))∧Row (fun a b=>H a=some (.tup [.int ((b.1:Nat):Int),.int ((b.2:Nat):Int)])) bts bs
theorem BansAt.same {H H':Hp} {D:Addr} {bs:List (Nat × Nat)} (s:Same H H') (x:BansAt H D bs):BansAt H' D bs:=by
 obtain⟨bts,h,r⟩:=x
 exact⟨bts,s _ _ h,r.mono fun a f _ p=>s _ _ p⟩
theorem HeldR.bansAt {C:Addr} {H:Hp} {p:Addr} {k:Known} {h:HA} (x:HeldR C H p k h):BansAt H h.aB k.bans:=⟨h.bts,x.ba,Row.of x.blen fun i a b ha hb=>x.bats i a b ha hb⟩
section
variable {H H':Hp} {m CM dx:Addr} {fs:List (Str × V)}
theorem But.of (s:Same H H'):But m H H':=fun b o e _=>s b o e
theorem But.lst (k:But m H H') (hm:H m=some (.ins CM dx fs)) {a:Addr} {xs:List V} (h:H a=some (.lst xs)):H' a=some (.lst xs):=k _ _ h (ne_of h hm (by intro q;cases q))
theorem But.tup (k:But m H H') (hm:H m=some (.ins CM dx fs)) {a:Addr} {xs:List V} (h:H a=some (.tup xs)):H' a=some (.tup xs):=k _ _ h (ne_of h hm (by intro q;cases q))
theorem TermsAt.but {t:Addr} {l:List (Nat × Int)} (hm:H m=some (.ins CM dx fs)) (k:But m H H') (x:TermsAt H t l):TermsAt H' t l:=by
 obtain⟨ts,h,r⟩:=x
 exact⟨ts,k.lst hm h,r.mono fun a z _ p=>k.tup hm p⟩
theorem CondsAt.but {D:Addr} {l:List Fact} (hm:H m=some (.ins CM dx fs)) (k:But m H H') (x:CondsAt H D l):CondsAt H' D l:=by
 obtain⟨cts,h,r⟩:=x
 refine⟨cts,k.lst hm h,r.mono fun a f _ p=>?_⟩
 obtain⟨t,n,h1,h2⟩:=p
 exact⟨t,n,k.tup hm h1,h2.but hm k⟩
theorem BansAt.but {D:Addr} {l:List (Nat × Nat)} (hm:H m=some (.ins CM dx fs)) (k:But m H H') (x:BansAt H D l):BansAt H' D l:=by
 obtain⟨bts,h,r⟩:=x
 exact⟨bts,k.lst hm h,r.mono fun a f _ p=>k.tup hm p⟩
theorem HeldR.but {C p:Addr} {k:Known} {h:HA} (hm:H m=some (.ins CM dx fs)) (n:p≠m) (b:But m H H') (x:HeldR C H p k h):HeldR C H' p k h :=
 ⟨b _ _ x.obj n,b.lst hm x.lv,b.lst hm x.cm,b.lst hm x.mo,b.lst hm x.fa,b.lst hm x.ba,x.flen,x.blen,fun i z f e1 e2=>⟨b.tup hm (x.fats i z f e1 e2).1,b.lst hm (x.fats i z f e1 e2).2⟩,fun i z f e1 e2=>b.tup hm (x.bats i z f e1 e2)⟩
theorem HeldC.but {C p:Addr} {k:Known} {cs:List Int} {h:HA} (hm:H m=some (.ins CM dx fs)) (n:p≠m) (b:But m H H') (x:HeldC C H p k cs h):HeldC C H' p k cs h:=⟨x.r.but hm n b,b.lst hm x.co,x.clen⟩
end
def mf (ac ab:Addr) (b:Int) (au:Addr):List (Str × V):=[("conditions",.ref ac),("bans",.ref ab),("base",.int b),("surpluses",.ref au)]
section
variable {ac ab au:Addr} {b:Int}
theorem mf_conditions:(mf ac ab b au).lookup ("conditions":Str)=some (V.ref ac):=lk_hit
theorem mf_bans:(mf ac ab b au).lookup ("bans":Str)=some (V.ref ab):=(lk_miss (by decide +kernel)).trans <| lk_hit
theorem mf_base:(mf ac ab b au).lookup ("base":Str)=some (V.int b):=(lk_miss (by decide +kernel)).trans <| (lk_miss (by decide +kernel)).trans <| lk_hit
theorem mf_surpluses:(mf ac ab b au).lookup ("surpluses":Str)=some (V.ref au):=(lk_miss (by decide +kernel)).trans <| (lk_miss (by decide +kernel)).trans <| (lk_miss (by decide +kernel)).trans <| lk_hit
end
structure ClM (K:PySem.W.Frag) (CM:Addr):Prop where
 cl:Cls K CM
 conditions:NoAttr K CM "conditions"
 bans:NoAttr K CM "bans"
 base:NoAttr K CM "base"
 surpluses:NoAttr K CM "surpluses"
def MeasAt (CM:Addr) (H:Hp) (m:Addr) (k:Known) (cs:List Int):Prop:=∃ dx ac ab au:Addr,H m=some (.ins CM dx (mf ac ab ((Vawctd.potentials k cs).getD 0 0) au))∧CondsAt H ac (Vawctd.conditions k)∧BansAt H ab k.bans∧H au=some (.lst ((Vawctd.surpluses k cs).map V.int))
theorem MeasAt.same {CM:Addr} {H H':Hp} {m:Addr} {k:Known} {cs:List Int} (s:Same H H') (x:MeasAt CM H m k cs):MeasAt CM H' m k cs:=by
 obtain⟨dx,ac,ab,au,h1,h2,h3,h4⟩:=x
 exact⟨dx,ac,ab,au,s _ _ h1,h2.same s,h3.same s,s _ _ h4⟩
section
variable {P:Program} {w:World} {K:PySem.W.Frag} {mg:Str->Option Value} {base:Heap} {C CM:Addr}
abbrev s_init_Measures:Stmt:=inClass (top 33) 0
theorem sc_init_Measures:FnScope ["self","held","heights"] ["self","held"] (k0m s_init_Measures):=⟨rfl,rfl,rfl,by decide +kernel,rfl,by decide +kernel,by decide +kernel⟩
def sp_init_Measures (C CM:Addr):Sp:=fun vs H Q _=>∃ (m dx p:Addr) (k:Known) (cs:List Int) (h:HA),vs=[.ref m,.ref p]∧H m=some (.ins CM dx [])∧HeldC C H p k cs h∧Wf k∧∀ H',MeasAt CM H' m k cs->But m H H'->Q .non H'
theorem ok_init_Measures {f:Addr} {fd:FuncData} (c:Cl K C) (cm:ClM K CM) (F:Fun K "__init__" "Measures.__init__" s_init_Measures f fd) (p_potentials:Prom P w K mg base 2 "potentials" ["held"] (sp_potentials C)) (p_conditions:Prom P w K mg base 2 "conditions" ["held"] (sp_conditions C)) (p_surpluses:Prom P w K mg base 1 "surpluses" ["held","heights"] (sp_surpluses K C)) :
  FnOk P w K mg base CX0 3 f fd ["self","held"] (sp_init_Measures C CM):=by
 refine F.ok sc_init_Measures (fun vs H Q E h=>?_) (fun cdv A outer s H0 vs Q E hr h=>?_)
 ·obtain⟨_,_,_,_,_,_,rfl,_⟩:=h
  rfl
 ·obtain⟨m,dx,p,k,cs,h,rfl,o0,X,wf,q⟩:=h
  refine⟨_,(k0e (k1m (i:=2) sc_init_Measures.nd rfl (Or.inl rfl) (k0u p_potentials (hr.mono (by decide)) rfl (k0a (pv 1) k0g))) (k0e (ps_fld (pv 0) (k0u p_conditions (hr.mono (by decide)) rfl (k0a (pv 1) k0g)) rfl) (k0e (ps_fld (pv 0) (k0v K rfl (pv 1) rfl) rfl) (k0e (ps_fld (pv 0) (pe_ix (k0w K rfl) (pv 2) k0n (fun _ _=>rfl)) rfl) (k0j (ps_fld (pv 0) (k0u p_surpluses (hr.mono (by decide)) rfl (k0a (pv 1) (k0a (pv 2) k0g))) rfl)))))),?_⟩
  have n2:=wf.n2
  have pm:p≠m:=fun e=>by
   have e1:=X.r.obj
   rw[e,o0] at e1
   injection e1 with e2
   injection e2 with _ _ e3
   cases e3
  refine⟨_,rfl,p,k,cs,h,rfl,X,wf,fun H1 l1 s1 n1 h1=>?_⟩
  have X1:=X.same s1
  refine⟨_,rfl,p,k,h,rfl,X1.r,wf,fun H2 l2 s2 n2' h2=>?_⟩
  have o2:=s2 _ _ (s1 _ _ o0)
  refine⟨_,rfl,m,CM,dx,[],rfl,o2,cm.cl,cm.conditions,(by show 0 < 1000;decide),?_⟩
  rw[putF_end]
  generalize hH3:upd H2 m (.ins CM dx [(("conditions":Str),V.ref l2)])=H3
  have k3:But m H2 H3:=by rw[← hH3];exact fld_put
  have o3:H3 m=some (.ins CM dx [(("conditions":Str),V.ref l2)]):=by rw[← hH3];exact k0f
  have X3:=(X1.same s2).but o2 pm k3
  refine⟨_,rfl,p,C,_,_,_,rfl,X3.r.obj,c.cl,c.bans,hf_bans,_,rfl,m,CM,dx,_,rfl,o3,cm.cl,cm.bans,(by show 1 < 1000;decide),?_⟩
  rw[k0r (by decide +kernel),putF_end]
  generalize hH4:upd H3 m (.ins CM dx [(("conditions":Str),V.ref l2),("bans",.ref h.aB)])=H4
  have k4:But m H3 H4:=by rw[← hH4];exact fld_put
  have o4:H4 m=some (.ins CM dx [(("conditions":Str),V.ref l2),("bans",.ref h.aB)]):=by rw[← hH4];exact k0f
  have X4:=X3.but o3 pm k4
  have h14:H4 l1=some (.lst ((Vawctd.potentials k cs).map V.int)):=k4.lst o3 (k3.lst o2 (s2 _ _ h1))
  have at0:atI ((Vawctd.potentials k cs).map V.int) (0:Int)=some (.int ((Vawctd.potentials k cs).getD 0 0)):=at_int (i:=0) (by rw[List.getD_eq_getElem?_getD,List.getElem?_eq_getElem (by rw[potentials_len];omega)];rfl)
  refine⟨_,rfl,l1,_,_,_,rfl,rfl,SqL.of h14,at0,_,rfl,m,CM,dx,_,rfl,o4,cm.cl,cm.base,(by show 2 < 1000;decide),?_⟩
  rw[k0r (by decide +kernel),k0r (by decide +kernel),putF_end]
  generalize hH5:upd H4 m (.ins CM dx [(("conditions":Str),V.ref l2),("bans",.ref h.aB),("base",.int ((Vawctd.potentials k cs).getD 0 0))])=H5
  have k5:But m H4 H5:=by rw[← hH5];exact fld_put
  have o5:H5 m=some (.ins CM dx [(("conditions":Str),V.ref l2),("bans",.ref h.aB),("base",.int ((Vawctd.potentials k cs).getD 0 0))]):=by rw[← hH5];exact k0f
  have X5:=X4.but o4 pm k5
  refine⟨_,rfl,_,rfl,p,l1,k,cs,h,rfl,X5,wf,SqL.of (k5.lst o4 h14),fun H6 l6 s6 n6 h6=>?_⟩
  have o6:=s6 _ _ o5
  refine⟨_,rfl,m,CM,dx,_,rfl,o6,cm.cl,cm.surpluses,(by show 3 < 1000;decide),?_⟩
  rw[k0r (by decide +kernel),k0r (by decide +kernel),k0r (by decide +kernel),putF_end]
  generalize hH7:upd H6 m (.ins CM dx [(("conditions":Str),V.ref l2),("bans",.ref h.aB),("base",.int ((Vawctd.potentials k cs).getD 0 0)),("surpluses",.ref l6)])=H7
  have k7:But m H6 H7:=by rw[← hH7];exact fld_put
  have o7:H7 m=some (.ins CM dx (mf l2 h.aB ((Vawctd.potentials k cs).getD 0 0) l6)):=by rw[← hH7];exact k0f
  have c2:=((((h2.but o2 k3).but o3 k4).but o4 k5).same s6).but o6 k7
  have b5:=(X5.r.bansAt.same s6).but o6 k7
  exact q H7 ⟨dx,l2,h.aB,l6,o7,c2,b5,k7.lst o6 h6⟩ ((But.of s1).trans ((But.of s2).trans (k3.trans (k4.trans (k5.trans ((But.of s6).trans k7))))))
end
end Ww
end
section
namespace Ww
open PySem PySem.Spec PyProof.Rows L2
open Vawctd (Known Edge Fact inRange toInts countsOf Box flowFact otherSign isEmptyBox isFixed)
def BoxAt (H:Hp) (t:Addr) (b:Box):Prop:=∃ al ah:Addr,H t=some (.tup [.ref al,.ref ah])∧H al=some (.lst ((lows b).map V.int))∧H ah=some (.lst ((highs b).map V.int))
theorem BoxAt.same {H H':Hp} {t:Addr} {b:Box} (s:Same H H') (x:BoxAt H t b):BoxAt H' t b:=by
 obtain⟨al,ah,h1,h2,h3⟩:=x
 exact⟨al,ah,s _ _ h1,s _ _ h2,s _ _ h3⟩
def BoxNew (H0 H:Hp) (t:Addr) (b:Box):Prop:=∃ al ah:Addr,H0 al=none∧H0 ah=none∧H t=some (.tup [.ref al,.ref ah])∧H al=some (.lst ((lows b).map V.int))∧H ah=some (.lst ((highs b).map V.int))
theorem BoxNew.box {H0 H:Hp} {t:Addr} {b:Box} (x:BoxNew H0 H t b):BoxAt H t b:=by
 obtain⟨al,ah,_,_,h1,h2,h3⟩:=x
 exact⟨al,ah,h1,h2,h3⟩
theorem BoxNew.same {H0 H H':Hp} {t:Addr} {b:Box} (s:Same H H') (x:BoxNew H0 H t b):BoxNew H0 H' t b:=by
 obtain⟨al,ah,n1,n2,h1,h2,h3⟩:=x
 exact⟨al,ah,n1,n2,s _ _ h1,s _ _ h2,s _ _ h3⟩
theorem BoxNew.old {H0 H1 H:Hp} {t:Addr} {b:Box} (s:Same H0 H1) (x:BoxNew H1 H t b):BoxNew H0 H t b:=by
 obtain⟨al,ah,n1,n2,h⟩:=x
 exact⟨al,ah,s.free n1,s.free n2,h⟩
def dInts (ns:List Int):PyData:=.list (ns.map PyData.int)
theorem dp_all {K:PySem.W.Frag} {H:Hp}:∀ ns:List Int,DpAll K H (ns.map V.int) (ns.map PyData.int)
 | []=>.nil
 | n::ns=>.cons (.int n) (dp_all ns)
theorem dp_ints {K:PySem.W.Frag} {H:Hp} {a:Addr} {ns:List Int} (h:H a=some (.lst (ns.map V.int))):Dp K H (.ref a) (dInts ns):=.lst (SqL.of h) (dp_all ns)
theorem dp_box {K:PySem.W.Frag} {H:Hp} {t:Addr} {b:Box} (h:BoxAt H t b):Dp K H (.ref t) (.tuple [dInts (lows b),dInts (highs b)]):=by
 obtain⟨al,ah,h1,h2,h3⟩:=h
 exact .tup (SqT.of h1) (.cons (dp_ints h2) (.cons (dp_ints h3) .nil))
theorem lay_all:∀ ns:List Int,PyData.canLayAll0 (ns.map PyData.int)=true
 | []=>rfl
 | n::ns=>by
  show (PyData.canLay0 (.int n)&&PyData.canLayAll0 (ns.map PyData.int))=true
  rw[lay_all ns]
  rfl
theorem depth_all:∀ ns:List Int,PyData.depthAll (ns.map PyData.int)≤1
 | []=>by simp[PyData.depthAll]
 | n::ns=>by
  have:=depth_all ns
  simp only[List.map_cons,PyData.depthAll,PyData.depth]
  omega
theorem shaped_ints (ns:List Int):SeqAt.shaped (dInts ns)=true:=by
 unfold SeqAt.shaped dInts
 have h1:PyData.canLay0 (.list (ns.map PyData.int))=true:=by
  simp only[PyData.canLay0]
  exact lay_all ns
 have h2:=depth_all ns
 rw[h1,Bool.true_and]
 refine decide_eq_true ?_
 simp only[PyData.depth]
 omega
theorem shaped_box (b:Box):SeqAt.shaped (.tuple [dInts (lows b),dInts (highs b)])=true:=by
 have h1:=shaped_ints (lows b)
 have h2:=shaped_ints (highs b)
 have c1:=SeqAt.canLay_of_shaped h1
 have c2:=SeqAt.canLay_of_shaped h2
 have d1:=depth_all (lows b)
 have d2:=depth_all (highs b)
 unfold SeqAt.shaped
 have e1:PyData.canLay0 (.tuple [dInts (lows b),dInts (highs b)])=true:=by
  simp only[PyData.canLay0,PyData.canLayAll0]
  rw[c1,c2]
  rfl
 rw[e1,Bool.true_and]
 refine decide_eq_true ?_
 simp only[PyData.depth,PyData.depthAll,dInts]
 omega
theorem eqv_all:∀ xs ys:List Int,PyData.eqvAll (xs.map PyData.int) (ys.map PyData.int)=decide (xs=ys)
 | [],[]=>by simp[PyData.eqvAll]
 | [],y::ys=>by simp[PyData.eqvAll]
 | x::xs,[]=>by simp[PyData.eqvAll]
 | x::xs,y::ys=>by
  simp only[List.map_cons,PyData.eqvAll,PyData.eqv]
  rw[eqv_all xs ys]
  by_cases h:x=y
  ·subst h;simp
  ·have:(x==y)=false:=by rw[beq_eq_false_iff_ne];exact h
   rw[this,Bool.false_and]
   symm
   exact decide_eq_false fun q=>h (List.cons.inj q).1
theorem eqv_ints (xs ys:List Int):PyData.eqv (dInts xs) (dInts ys)=decide (xs=ys):=by
 unfold dInts
 simp only[PyData.eqv]
 exact eqv_all xs ys
theorem eqv_box (c b:Box):PyData.eqv (.tuple [dInts (lows c),dInts (highs c)]) (.tuple [dInts (lows b),dInts (highs b)])=(c==b):=by
 simp only[PyData.eqv,PyData.eqvAll]
 rw[eqv_ints,eqv_ints,box_beq,Bool.and_true]
section
variable {P:Program} {w:World} {K:PySem.W.Frag} {mg:Str->Option Value} {base:Heap} {C CM:Addr}
abbrev s_whole_box:Stmt:=top 2
theorem sc_whole_box:FnScope ["held"] ["held"] (k0m s_whole_box):=⟨rfl,rfl,rfl,by decide +kernel,rfl,by decide +kernel,by decide +kernel⟩
def sp_whole_box (C:Addr):Sp:=fun vs H Q _=>∃ (p:Addr) (k:Known) (h:HA),vs=[.ref p]∧HeldR C H p k h∧Wf k∧∀ H' t,Same H H'->BoxNew H H' t (Vawctd.wholeBox k)->Q (.ref t) H'
theorem whole_lows (k:Known):lows (Vawctd.wholeBox k)=List.replicate k.edges.length 0:=by
 unfold lows Vawctd.wholeBox
 rw[List.map_map]
 exact List.map_const' ..
theorem whole_highs (k:Known):highs (Vawctd.wholeBox k)=k.edges.map fun d=>(d.most:Int):=by
 unfold highs Vawctd.wholeBox
 rw[List.map_map]
 rfl
theorem ok_whole_box (T:Txt K mg) (c:Cl K C) (D:Dfn K mg "whole_box" s_whole_box ["held"]):Prom P w K mg base 1 "whole_box" ["held"] (sp_whole_box C):=by
 refine D.prom sc_whole_box (fun vs H Q E h=>?_) (fun f cdv A outer s H vs Q E hr h=>?_)
 ·obtain⟨_,_,_,rfl,_⟩:=h
  rfl
 ·obtain⟨p,k,h,rfl,X,wf,q⟩:=h
  refine⟨_,(k0j (k0q (pe_tup (k0a (pe_op op_rep (k1g (k0a k0n k0g)) (k1a (lenK K rfl) (by rfl) T.n_len PySem.boot_len (k0a (k0v K rfl (pv 0) rfl) k0g))) (k0a (pe_callTy (listK K rfl) (by rfl) T.n_list b_list (k0a (k0v K rfl (pv 0) rfl) k0g)) k0g))))),?_⟩
  have e16:=wf.e16
  refine⟨(by show 1≤sizeLine;decide),fun l0 hl0=>?_⟩
  have s0:Same H (upd H l0 (.lst [V.int 0])):=Same.new hl0
  have x0:=X.same s0
  refine⟨_,rfl,p,C,_,_,_,rfl,x0.obj,c.cl,c.mosts,hf_mosts,_,_,rfl,.inl (SqL.of x0.mo),l0,_,_,rfl,rfl,k0f,(by omega),(by rw[List.length_map,List.length_map];omega),(by rw[List.length_map,List.length_map];show 1*_≤sizeLine;rw[Int.toNat_natCast,Nat.one_mul];exact Nat.le_trans e16 (by decide)),fun l hl=>?_⟩
  have e1:(List.replicate ((((k.edges.map fun d=>(d.most:Int)).map V.int).length:Int)).toNat [V.int 0]).flatten=(lows (Vawctd.wholeBox k)).map V.int:=by
   rw[List.length_map,List.length_map,Int.toNat_natCast,whole_lows]
   simp[List.map_replicate]
  rw[e1]
  have s1:Same H (upd (upd H l0 (.lst [V.int 0])) l (.lst ((lows (Vawctd.wholeBox k)).map V.int))):=s0.grow hl
  have x1:=X.same s1
  refine⟨_,rfl,p,C,_,_,_,rfl,x1.obj,c.cl,c.mosts,hf_mosts,_,_,rfl,.inl (SqL.of x1.mo),fun l2 hl2=>⟨(by show 2≤sizeLine;decide),fun t ht=>?_⟩⟩
  have s2:=s1.grow (o:=.lst ((k.edges.map fun d=>(d.most:Int)).map V.int)) hl2
  have n1:l≠l2:=fun e=>by rw[← e,k0f] at hl2;cases hl2
  refine q _ t (s2.grow ht) ⟨l,l2,s0.free hl,s1.free hl2,k0f,?_,?_⟩
  ·refine (Same.new ht) _ _ ?_
   rw[k0p n1,k0f]
  ·refine (Same.new ht) _ _ ?_
   rw[k0f,whole_highs]
abbrev s_is_empty:Stmt:=top 3
theorem sc_is_empty:FnScope ["box","low","high"] ["box"] (k0m s_is_empty):=⟨rfl,rfl,rfl,by decide +kernel,rfl,by decide +kernel,by decide +kernel⟩
def sp_is_empty:Sp:=fun vs H Q _=>∃ (t:Addr) (b:Box),vs=[.ref t]∧BoxAt H t b∧b.length≤1000∧∀ H',Same H H'->Q (.bl (isEmptyBox b)) H'
theorem ok_is_empty (T:Txt K mg) (D:Dfn K mg "is_empty" s_is_empty ["box"]):Prom P w K mg base 1 "is_empty" ["box"] sp_is_empty:=by
 refine D.prom sc_is_empty (fun vs H Q E h=>?_) (fun f cdv A outer s H vs Q E hr h=>?_)
 ·obtain⟨_,_,rfl,_⟩:=h
  rfl
 ·obtain⟨t,b,rfl,⟨al,ah,ht,hal,hah⟩,hn,q⟩:=h
  refine⟨_,(k0j (k0q (k1a (anyK K rfl rfl) (by rfl) T.n_any b_any (k0a (pe_lc (own:=[("low",1),("high",2)]) rfl sc_is_empty.nd (pi_zipK K rfl rfl T.n_zip (k0a (pe_ix (ixK_tup K rfl) (pv 0) k0n (fun _ _=>rfl)) (k0a (pe_ix (ixK_tup K rfl) (pv 0) k0n (fun _ _=>rfl)) k0g))) (blkOk_by (by exact (show blkC ["box","low","high"] (k0m s_is_empty) _ _=true by decide +kernel))) (fun _ _ _ _ _=>(pg_tupK K (n:=2) rfl rfl (k1h (k1f (i:=1) sc_is_empty.nd rfl (by first|exact Or.inl rfl|exact Or.inr rfl)) (k1h (k1f (i:=2) sc_is_empty.nd rfl (by first|exact Or.inl rfl|exact Or.inr rfl)) pgs_nil)))) (fun _ _ _ _ _=>pts_nil) (fun _ _ _ _ _=>(pe_cmpR op_gt (pv 1) (pv 2) (k1e _)))) k0g)))),?_⟩
  refine⟨_,rfl,t,_,_,_,rfl,rfl,SqT.of ht,k1n (j:=0) rfl,_,rfl,t,_,_,_,rfl,rfl,SqT.of ht,k1n (j:=1) rfl,al,ah,_,_,rfl,SqL.of hal,SqL.of hah,fun D hD=>lc_Z (xs:=(lows b).map V.int) (ys:=(highs b).map V.int) (onII fun a b=>some (.bl (decide (b < a)))) hD (k1q (by rw[List.length_map,lows_len];exact hn)) (SqL.of hal) (SqL.of hah) (fun i x y H2 T Y N e1 e2 hS hT hY hN=>?_) (fun H2 hS hD2=>?_)⟩
  ·obtain⟨m,hm,rfl⟩:=get_int e1
   obtain⟨n,hn,rfl⟩:=get_int e2
   refine⟨T,_,rfl,SqT.of hT,rfl,_,_,rfl,_,_,rfl,rfl,rfl,?_⟩
   exact⟨_,rfl,_,rfl,_,_,rfl,rfl,hY _ _ rfl Same.rfl'⟩
  ·have e:(((lows b).map V.int).zip ((highs b).map V.int)).filterMap (fun z=>onII (fun a b=>some (V.bl (decide (b < a)))) z.1 z.2)=(((lows b).zip (highs b)).map fun z=>decide (z.2 < z.1)).map V.bl:=by
    rw[fm_onII,List.filterMap_eq_map',List.map_map]
    rfl
   rw[e] at hD2
   refine⟨D,_,rfl,SqL.of hD2,?_⟩
   rw[List.any_map]
   have:=q H2 hS
   rw[empty_zip] at this
   exact this
abbrev s_has_one_count_each:Stmt:=top 4
theorem sc_has_one_count_each:FnScope ["box"] ["box"] (k0m s_has_one_count_each):=⟨rfl,rfl,rfl,by decide +kernel,rfl,by decide +kernel,by decide +kernel⟩
def sp_has_one:Sp:=fun vs H Q _=>∃ (t:Addr) (b:Box),vs=[.ref t]∧BoxAt H t b∧Q (.bl (isFixed b)) H
theorem ok_has_one_count_each (T:Txt K mg) (D:Dfn K mg "has_one_count_each" s_has_one_count_each ["box"]):Prom P w K mg base 1 "has_one_count_each" ["box"] sp_has_one:=by
 refine D.prom sc_has_one_count_each (fun vs H Q E h=>?_) (fun f cdv A outer s H vs Q E hr h=>?_)
 ·obtain⟨_,_,rfl,_⟩:=h
  rfl
 ·obtain⟨t,b,rfl,⟨al,ah,ht,hal,hah⟩,q⟩:=h
  refine⟨_,(k0j (k0q (pe_cmpR (eqDK K rfl hr.units) (pe_ix (ixK_tup K rfl) (pv 0) k0n (fun _ _=>rfl)) (pe_ix (ixK_tup K rfl) (pv 0) k0n (fun _ _=>rfl)) (k1e _)))),?_⟩
  refine⟨_,rfl,t,_,_,_,rfl,rfl,SqT.of ht,k1n (j:=0) rfl,_,rfl,t,_,_,_,rfl,rfl,SqT.of ht,k1n (j:=1) rfl,dInts (lows b),dInts (highs b),dp_ints hal,dp_ints hah,shaped_ints _,shaped_ints _,?_⟩
  rw[eqv_ints,← fixed_eq]
  exact q
end
end Ww
end
section
namespace Ww
open PySem PySem.Spec PyProof.Rows L2
open Vawctd (Known Edge Fact inRange toInts countsOf Box flowFact otherSign isEmptyBox isFixed leastPart narrow)
theorem get_at {b:Box} {i:Nat} (h:i < b.length):b[i]?=some (b.getD i (0,0)):=by rw[List.getD_eq_getElem?_getD,List.getElem?_eq_getElem h];rfl
theorem refs_get {ts:List Addr} {i:Nat} {x:V} (h:(ts.map V.ref)[i]?=some x):∃ a,ts[i]?=some a∧x=.ref a:=by
 rw[List.getElem?_map] at h
 obtain⟨a,ha,e⟩:=Option.map_eq_some_iff.mp h
 exact⟨a,ha,e.symm⟩
section
variable {P:Program} {w:World} {K:PySem.W.Frag} {mg:Str->Option Value} {base:Heap} {C CM:Addr}
abbrev s_narrow_by_condition:Stmt:=top 7
theorem k1p:FnScope ["lows","highs","terms","bound","room","edge","multiple","high","low"] ["lows","highs","terms","bound"] (k0m s_narrow_by_condition):=⟨rfl,rfl,rfl,by decide +kernel,rfl,by decide +kernel,by decide +kernel⟩
def sp_narrow:Sp:=fun vs H Q _=>∃ (al ah t:Addr) (H0:Hp) (b:Box) (f:Fact),vs=[.ref al,.ref ah,.ref t,.int f.bound]∧Same H0 H∧H0 al=none∧H0 ah=none∧al≠ah∧TermsAt H0 t (terms f.mults)∧f.mults.length=b.length∧(∀ a∈f.mults,-20≤a∧a≤20) ∧
 H al=some (.lst ((lows b).map V.int))∧H ah=some (.lst ((highs b).map V.int))∧∀ H',Same H0 H'->H' al=some (.lst ((lows (narrow f b)).map V.int))->H' ah=some (.lst ((highs (narrow f b)).map V.int))->Q .non H'
theorem ok_narrow_by_condition (T:Txt K mg) (D:Dfn K mg "narrow_by_condition" s_narrow_by_condition ["lows","highs","terms","bound"]):Prom P w K mg base 1 "narrow_by_condition" ["lows","highs","terms","bound"] sp_narrow:=by
 refine D.prom k1p (fun vs H Q E h=>?_) (fun f cdv A outer s H vs Q E hr h=>?_)
 ·obtain⟨_,_,_,_,_,_,rfl,_⟩:=h
  rfl
 ·obtain⟨al,ah,t,H0,b,f,rfl,s0,nal,nah,nlh,⟨ts,ht,rt⟩,hlen,hsm,hal,hah,q⟩:=h
  refine⟨_,(k0e (k1m (i:=4) k1p.nd rfl (Or.inl rfl) (pv 3)) (k0e (ps_for PassesOwn.never rfl (pi_listK K rfl (pv 2)) (pg_tupK K (n:=2) rfl rfl (k1h (k1f (i:=5) k1p.nd rfl (by first|exact Or.inl rfl|exact Or.inr rfl)) (k1h (k1f (i:=6) k1p.nd rfl (by first|exact Or.inl rfl|exact Or.inr rfl)) pgs_nil))) (k0j (ps_aug (i:=4) k1p.nd rfl (Or.inl rfl) (pe_op op_mul (pv 6) (pe_ifExp (k0x op_gt (pv 6) k0n (k1e _)) (pe_ix (k0w K rfl) (pv 0) (pv 5) (fun _ _=>rfl)) (pe_ix (k0w K rfl) (pv 1) (pv 5) (fun _ _=>rfl)))) ip_sub))) (k0j (ps_for PassesOwn.never rfl (pi_listK K rfl (pv 2)) (pg_tupK K (n:=2) rfl rfl (k1h (k1f (i:=5) k1p.nd rfl (by first|exact Or.inl rfl|exact Or.inr rfl)) (k1h (k1f (i:=6) k1p.nd rfl (by first|exact Or.inl rfl|exact Or.inr rfl)) pgs_nil))) (k0j (ps_if (k0x op_gt (pv 6) k0n (k1e _)) (k0e (k1m (i:=7) k1p.nd rfl (Or.inl rfl) (pe_op op_add (pe_ix (k0w K rfl) (pv 0) (pv 5) (fun _ _=>rfl)) (pe_op op_fdiv (pv 4) (pv 6)))) (k0j (ps_if (k0x op_lt (pv 7) (pe_ix (k0w K rfl) (pv 1) (pv 5) (fun _ _=>rfl)) (k1e _)) (k0j (ps_asg (pv 7) (pg_sub (pv 1) (pv 5) set_list))) k0z))) (k0e (k1m (i:=8) k1p.nd rfl (Or.inl rfl) (pe_op op_sub (pe_ix (k0w K rfl) (pv 1) (pv 5) (fun _ _=>rfl)) (pe_op op_fdiv (pv 4) (pe_un un_neg (pv 6))))) (k0j (ps_if (k0x op_gt (pv 8) (pe_ix (k0w K rfl) (pv 0) (pv 5) (fun _ _=>rfl)) (k1e _)) (k0j (ps_asg (pv 8) (pg_sub (pv 0) (pv 5) set_list))) k0z))))))))),?_⟩
  have qt:∀ {G:Hp},Same H0 G->SqL K G t (ts.map V.ref):=fun s=>SqL.of (s _ _ ht)
  have item:∀ {i:Nat} {a:Addr},ts[i]?=some a->∃ e m,(terms f.mults)[i]?=some (e,m)∧H0 a=some (.tup [.int ((e:Nat):Int),.int m])∧e < b.length∧m≠0∧-20≤m∧m≤20:=fun {i a} h=>by
   obtain⟨z,hz,ha⟩:=rt.get h
   obtain⟨m1,m2,m3⟩:=terms_mem (List.mem_of_getElem? hz)
   have:=hsm _ (List.mem_of_getElem? m2)
   exact⟨z.1,z.2,hz,ha,by omega,m3,this.1,this.2⟩
  refine⟨_,rfl,_,rfl,t,rfl,⟨_,qt s0⟩,for_list (K:=K) (a:=t) (xs:=ts.map V.ref) (fun i σ G=>∃ v5 v6 v7 v8:Option V,σ=[some (.ref al),some (.ref ah),some (.ref t),some (.int f.bound),some (.int (f.bound - partSum b ((terms f.mults).take i))),v5,v6,v7,v8]∧G=H)
   ⟨none,none,none,none,?_,rfl⟩ (fun i σ G _ ⟨_,_,_,_,_,e⟩=>by rw[e];exact qt s0) ?_ ?_⟩
  ·show [_,_,_,_,some (V.int f.bound),_,_,_,_]=[_,_,_,_,some (V.int (f.bound - 0)),_,_,_,_]
   rw[Int.sub_zero]
  ·rintro i x σ G hx ⟨v5,v6,v7,v8,rfl,rfl⟩
   obtain⟨a,ha,rfl⟩:=refs_get hx
   obtain⟨e,m,hz,h0,he,hm0,hm1,hm2⟩:=item ha
   have hb:=get_at he
   refine⟨a,_,rfl,SqT.of (s0 _ _ h0),rfl,_,_,rfl,_,_,rfl,rfl,?_⟩
   have pe:∀ y,y=leastPart m (b.getD e (0,0))->f.bound - partSum b ((terms f.mults).take i) - y=f.bound - partSum b ((terms f.mults).take (i+1)):=fun y hy=>by
    rw[List.take_add_one,hz,Option.toList_some,partSum_snoc,hy]
    dsimp only
    omega
   refine⟨_,rfl,_,rfl,_,rfl,_,_,rfl,rfl,_,rfl,ite2 (fun h1=>?_) (fun h1=>?_)⟩
   ·have h1:(0:Int) < m:=of_decide_eq_true h1
    refine⟨_,rfl,_,rfl,al,_,_,_,rfl,rfl,SqL.of hal,at_int (lows_get hb),_,_,rfl,rfl,.inl ⟨by omega,by omega⟩,_,_,rfl,rfl,?_⟩
    refine⟨some (.int (e:Int)),some (.int m),v7,v8,?_,rfl⟩
    rw[← pe (m*(b.getD e (0,0)).1) (by unfold leastPart;rw[if_pos h1])]
    rfl
   ·have h1:¬ (0:Int) < m:=of_decide_eq_false (eq_false_of_ne_true h1)
    refine⟨_,rfl,_,rfl,ah,_,_,_,rfl,rfl,SqL.of hah,at_int (highs_get hb),_,_,rfl,rfl,.inl ⟨by omega,by omega⟩,_,_,rfl,rfl,?_⟩
    refine⟨some (.int (e:Int)),some (.int m),v7,v8,?_,rfl⟩
    rw[← pe (m*(b.getD e (0,0)).2) (by unfold leastPart;rw[if_neg h1])]
    rfl
  rintro σ G ⟨v5,v6,v7,v8,rfl,rfl⟩
  have rl:=rt.length
  rw[List.length_map,rl,List.take_length]
  refine⟨_,rfl,t,rfl,⟨_,qt s0⟩,for_list (K:=K) (a:=t) (xs:=ts.map V.ref) (fun i σ G=>∃ v5 v6 v7 v8:Option V,σ=[some (.ref al),some (.ref ah),some (.ref t),some (.int f.bound),some (.int (f.bound - partSum b (terms f.mults))),v5,v6,v7,v8]∧Same H0 G ∧
    G al=some (.lst ((lows (((terms f.mults).take i).foldl (narStep (f.bound - partSum b (terms f.mults))) b)).map V.int))∧G ah=some (.lst ((highs (((terms f.mults).take i).foldl (narStep (f.bound - partSum b (terms f.mults))) b)).map V.int)))
   ⟨_,_,_,_,rfl,s0,hal,hah⟩ (fun i σ G _ ⟨_,_,_,_,_,e,_⟩=>qt e) ?_ ?_⟩
  ·generalize f.bound - partSum b (terms f.mults)=room
   rintro i x σ G hx ⟨v5,v6,v7,v8,rfl,s5,gal,gah⟩
   obtain⟨a,ha,rfl⟩:=refs_get hx
   obtain⟨e,m,hz,h0,he,hm0,hm1,hm2⟩:=item ha
   have ft:=foldl_take (narStep room) b hz
   have fl:=narFold_len (room:=room) ((terms f.mults).take i) b
   generalize ((terms f.mults).take i).foldl (narStep room) b=B at gal gah ft fl
   have heB:e < B.length:=by omega
   have hB:=get_at heB
   have hlo:=at_int (lows_get hB)
   have hhi:=at_int (highs_get hB)
   have lo':=lows_get hB
   have hi':=highs_get hB
   generalize hzz:B.getD e (0,0)=z at hB hlo hhi lo' hi'
   have st:narStep room B (e,m)=B.set e (narP room m z):=by unfold narStep;rw[hzz]
   refine⟨a,_,rfl,SqT.of (s5 _ _ h0),rfl,_,_,rfl,_,_,rfl,rfl,?_⟩
   refine⟨_,rfl,_,_,rfl,rfl,_,rfl,ite2 (fun h1=>?_) (fun h1=>?_)⟩
   ·have h1:(0:Int) < m:=of_decide_eq_true h1
    refine⟨_,rfl,_,rfl,al,_,_,_,rfl,rfl,SqL.of gal,hlo,_,rfl,_,rfl,_,_,rfl,rfl,⟨h1,by omega⟩,_,_,rfl,rfl,?_⟩
    refine⟨_,rfl,_,rfl,_,rfl,ah,_,_,_,rfl,rfl,SqL.of gah,hhi,_,_,rfl,rfl,_,rfl,ite2 (fun h2=>?_) (fun h2=>?_)⟩
    ·have h2:z.1+room / m < z.2:=of_decide_eq_true h2
     have ep:narP room m z=(z.1,z.1+room / m):=by unfold narP;rw[if_pos h1,Int.min_eq_right (by omega)]
     refine⟨_,rfl,_,rfl,_,rfl,ah,_,_,e,rfl,rfl,gah,ix_nat rfl (by rw[List.length_map,highs_len];exact heB),?_⟩
     refine⟨_,_,_,_,rfl,s5.put nah,?_,?_⟩
     ·rw[k0p nlh,ft,st,ep,lows_set,set_self lo']
      exact gal
     ·rw[k0f,ft,st,ep,highs_set,map_set_int]
    ·have h2:¬ z.1+room / m < z.2:=of_decide_eq_false (eq_false_of_ne_true h2)
     have ep:narP room m z=z:=by unfold narP;rw[if_pos h1,Int.min_eq_left (by omega)]
     refine⟨_,_,_,_,rfl,s5,?_,?_⟩
     ·rw[ft,st,ep,set_self hB]
      exact gal
     ·rw[ft,st,ep,set_self hB]
      exact gah
   ·have h1:¬ (0:Int) < m:=of_decide_eq_false (eq_false_of_ne_true h1)
    refine⟨_,rfl,_,rfl,ah,_,_,_,rfl,rfl,SqL.of gah,hhi,_,rfl,_,rfl,_,rfl,_,_,rfl,rfl,⟨by omega,by omega⟩,_,_,rfl,rfl,?_⟩
    refine⟨_,rfl,_,rfl,_,rfl,al,_,_,_,rfl,rfl,SqL.of gal,hlo,_,_,rfl,rfl,_,rfl,ite2 (fun h2=>?_) (fun h2=>?_)⟩
    ·have h2:z.1 < z.2 - room / (-m):=of_decide_eq_true h2
     have ep:narP room m z=(z.2 - room / (-m),z.2):=by unfold narP;rw[if_neg h1,Int.max_eq_right (by omega)]
     refine⟨_,rfl,_,rfl,_,rfl,al,_,_,e,rfl,rfl,gal,ix_nat rfl (by rw[List.length_map,lows_len];exact heB),?_⟩
     refine⟨_,_,_,_,rfl,s5.put nal,?_,?_⟩
     ·rw[k0f,ft,st,ep,lows_set,map_set_int]
     ·rw[k0p (Ne.symm nlh),ft,st,ep,highs_set,set_self hi']
      exact gah
    ·have h2:¬ z.1 < z.2 - room / (-m):=of_decide_eq_false (eq_false_of_ne_true h2)
     have ep:narP room m z=z:=by unfold narP;rw[if_neg h1,Int.max_eq_left (by omega)]
     refine⟨_,_,_,_,rfl,s5,?_,?_⟩
     ·rw[ft,st,ep,set_self hB]
      exact gal
     ·rw[ft,st,ep,set_self hB]
      exact gah
  ·rintro σ G ⟨v5,v6,v7,v8,rfl,s5,gal,gah⟩
   rw[List.length_map,rl,List.take_length,narrow_eq hlen] at gal gah
   exact q G s5 gal gah
abbrev s_narrow_by_ban:Stmt:=top 8
theorem sc_narrow_by_ban:FnScope ["lows","highs","e","f"] ["lows","highs","e","f"] (k0m s_narrow_by_ban):=⟨rfl,rfl,rfl,by decide +kernel,rfl,by decide +kernel,by decide +kernel⟩
def sp_narrowBan:Sp:=fun vs H Q _=>∃ (al ah:Addr) (e f:Nat) (H0:Hp) (b:Box),vs=[.ref al,.ref ah,.int (e:Int),.int (f:Int)]∧Same H0 H∧H0 al=none∧H0 ah=none∧al≠ah∧e < b.length∧f < b.length ∧
 H al=some (.lst ((lows b).map V.int))∧H ah=some (.lst ((highs b).map V.int))∧∀ H',Same H0 H'->H' al=some (.lst ((lows (Vawctd.narrowBan b (e,f))).map V.int))->H' ah=some (.lst ((highs (Vawctd.narrowBan b (e,f))).map V.int))->Q .non H'
def cutIf (b:Box) (e f:Nat):Box:=if 0 < Vawctd.lowAt b e then Vawctd.cutTo0 b f else b
theorem narrowBan_cut (b:Box) (e f:Nat):Vawctd.narrowBan b (e,f)=cutIf (cutIf b e f) f e:=rfl
theorem cut_is {b:Box} {f:Nat} (h:f < b.length):Vawctd.cutTo0 b f=b.set f ((b.getD f (0,0)).1,min (b.getD f (0,0)).2 0):=by
 unfold Vawctd.cutTo0
 rw[get_at h]
theorem cut_lows {b:Box} {f:Nat} (h:f < b.length):lows (Vawctd.cutTo0 b f)=lows b:=by
 rw[cut_is h,lows_set]
 exact set_self (lows_get (z:=b.getD f (0,0)) (get_at h))
theorem cut_highs {b:Box} {f:Nat} (h:f < b.length):highs (Vawctd.cutTo0 b f)=(highs b).set f (min (b.getD f (0,0)).2 0):=by
 rw[cut_is h,highs_set]
theorem cutIf_len {b:Box} {e f:Nat} (h:f < b.length):(cutIf b e f).length=b.length:=by
 unfold cutIf
 split
 ·rw[cut_is h,List.length_set]
 ·rfl
theorem min_if (a:Int):(if (0:Int) < a then (0:Int) else a)=min a 0:=by
 split<;>omega
theorem ok_narrow_by_ban (T:Txt K mg) (D:Dfn K mg "narrow_by_ban" s_narrow_by_ban ["lows","highs","e","f"]):Prom P w K mg base 1 "narrow_by_ban" ["lows","highs","e","f"] sp_narrowBan:=by
 refine D.prom sc_narrow_by_ban (fun vs H Q E h=>?_) (fun fa cdv A outer s H vs Q E hr h=>?_)
 ·obtain⟨_,_,_,_,_,_,rfl,_⟩:=h
  rfl
 ·obtain⟨al,ah,e,f,H0,b,rfl,s0,nal,nah,nlh,he,hf,hal,hah,q⟩:=h
  refine⟨_,(k0e (ps_if (k0x op_gt (pe_ix (k0w K rfl) (pv 0) (pv 2) (fun _ _=>rfl)) k0n (k1e _)) (k0j (ps_asg (k1a (call_min2 rfl) (by rfl) T.n_min b_min (k0a (pe_ix (k0w K rfl) (pv 1) (pv 3) (fun _ _=>rfl)) (k0a k0n k0g))) (pg_sub (pv 1) (pv 3) set_list))) k0z) (k0j (ps_if (k0x op_gt (pe_ix (k0w K rfl) (pv 0) (pv 3) (fun _ _=>rfl)) k0n (k1e _)) (k0j (ps_asg (k1a (call_min2 rfl) (by rfl) T.n_min b_min (k0a (pe_ix (k0w K rfl) (pv 1) (pv 2) (fun _ _=>rfl)) (k0a k0n k0g))) (pg_sub (pv 1) (pv 2) set_list))) k0z))),?_⟩
  rw[narrowBan_cut] at q
  have hb:=get_at he
  have hlo:=at_int (lows_get hb)
  have hbf:=get_at hf
  have hhf:=at_int (highs_get hbf)
  refine⟨_,rfl,_,rfl,al,_,_,_,rfl,rfl,SqL.of hal,hlo,_,_,rfl,rfl,_,rfl,ite2 (fun h1=>?_) (fun h1=>?_)⟩
  ·have h1:(0:Int) < (b.getD e (0,0)).1:=of_decide_eq_true h1
   have ec:cutIf b e f=Vawctd.cutTo0 b f:=by unfold cutIf Vawctd.lowAt;rw[if_pos h1]
   refine⟨_,rfl,_,rfl,ah,_,_,_,rfl,rfl,SqL.of hah,hhf,_,_,rfl,?_⟩
   refine⟨_,rfl,_,rfl,ah,_,_,f,rfl,rfl,hah,ix_nat rfl (by rw[List.length_map,highs_len];exact hf),?_⟩
   rw[map_set_int,min_if]
   have g2:(upd H ah (.lst (((highs b).set f (min (b.getD f (0,0)).2 0)).map V.int))) ah=some (.lst ((highs (cutIf b e f)).map V.int)):=by rw[k0f,ec,cut_highs hf]
   have g1:(upd H ah (.lst (((highs b).set f (min (b.getD f (0,0)).2 0)).map V.int))) al=some (.lst ((lows (cutIf b e f)).map V.int)):=by rw[k0p nlh,ec,cut_lows hf];exact hal
   have s1:Same H0 (upd H ah (.lst (((highs b).set f (min (b.getD f (0,0)).2 0)).map V.int))):=s0.put nah
   generalize upd H ah (.lst (((highs b).set f (min (b.getD f (0,0)).2 0)).map V.int))=G at g1 g2 s1
   have lB:=cutIf_len (e:=e) hf
   generalize cutIf b e f=B at g1 g2 lB q
   have hBf:=get_at (b:=B) (i:=f) (by omega)
   have hBe:=get_at (b:=B) (i:=e) (by omega)
   refine⟨_,rfl,_,rfl,al,_,_,_,rfl,rfl,SqL.of g1,at_int (lows_get hBf),_,_,rfl,rfl,_,rfl,ite2 (fun h2=>?_) (fun h2=>?_)⟩
   ·have h2:(0:Int) < (B.getD f (0,0)).1:=of_decide_eq_true h2
    have ec2:cutIf B f e=Vawctd.cutTo0 B e:=by unfold cutIf Vawctd.lowAt;rw[if_pos h2]
    refine⟨_,rfl,_,rfl,ah,_,_,_,rfl,rfl,SqL.of g2,at_int (highs_get hBe),_,_,rfl,?_⟩
    refine⟨_,rfl,_,rfl,ah,_,_,e,rfl,rfl,g2,ix_nat rfl (by rw[List.length_map,highs_len];omega),?_⟩
    rw[map_set_int,min_if]
    refine q _ (s1.put nah) ?_ ?_
    ·rw[k0p nlh,ec2,cut_lows (by omega)];exact g1
    ·rw[k0f,ec2,cut_highs (by omega)]
   ·have h2:¬ (0:Int) < (B.getD f (0,0)).1:=of_decide_eq_false (eq_false_of_ne_true h2)
    have ec2:cutIf B f e=B:=by unfold cutIf Vawctd.lowAt;rw[if_neg h2]
    rw[ec2] at q
    exact q _ s1 g1 g2
  ·have h1:¬ (0:Int) < (b.getD e (0,0)).1:=of_decide_eq_false (eq_false_of_ne_true h1)
   have ec:cutIf b e f=b:=by unfold cutIf Vawctd.lowAt;rw[if_neg h1]
   rw[ec] at q
   have hbe:=get_at he
   refine⟨_,rfl,_,rfl,al,_,_,_,rfl,rfl,SqL.of hal,at_int (lows_get hbf),_,_,rfl,rfl,_,rfl,ite2 (fun h2=>?_) (fun h2=>?_)⟩
   ·have h2:(0:Int) < (b.getD f (0,0)).1:=of_decide_eq_true h2
    have ec2:cutIf b f e=Vawctd.cutTo0 b e:=by unfold cutIf Vawctd.lowAt;rw[if_pos h2]
    refine⟨_,rfl,_,rfl,ah,_,_,_,rfl,rfl,SqL.of hah,at_int (highs_get hbe),_,_,rfl,?_⟩
    refine⟨_,rfl,_,rfl,ah,_,_,e,rfl,rfl,hah,ix_nat rfl (by rw[List.length_map,highs_len];omega),?_⟩
    rw[map_set_int,min_if]
    refine q _ (s0.put nah) ?_ ?_
    ·rw[k0p nlh,ec2,cut_lows he];exact hal
    ·rw[k0f,ec2,cut_highs he]
   ·have h2:¬ (0:Int) < (b.getD f (0,0)).1:=of_decide_eq_false (eq_false_of_ne_true h2)
    have ec2:cutIf b f e=b:=by unfold cutIf Vawctd.lowAt;rw[if_neg h2]
    rw[ec2] at q
    exact q _ s0 hal hah
end
end Ww
end
section
namespace Ww
open PySem PySem.Spec PyProof.Rows L2
open Vawctd (Known Edge Fact inRange toInts countsOf Box flowFact otherSign isEmptyBox isFixed leastPart narrow)
theorem condFold_len {n:Nat}:∀ (l:List Fact) (b:Box),b.length=n->(∀ f∈l,f.mults.length=n)->(l.foldl (fun c f=>narrow f c) b).length=n
 | [],b,h,_=>h
 | f::l,b,h,hf=>condFold_len l (narrow f b) (by rw[narrow_len (by rw[hf f (by simp),h]),h]) fun g hg=>hf g (List.mem_cons_of_mem _ hg)
theorem ban_len {b:Box} {e f:Nat} (he:e < b.length) (hf:f < b.length):(Vawctd.narrowBan b (e,f)).length=b.length:=by
 rw[narrowBan_cut,cutIf_len (by rw[cutIf_len hf];exact he),cutIf_len hf]
theorem banFold_len {n:Nat}:∀ (l:List (Nat × Nat)) (b:Box),b.length=n->(∀ p∈l,p.1 < n∧p.2 < n)->(l.foldl Vawctd.narrowBan b).length=n
 | [],b,h,_=>h
 | p::l,b,h,hp=>banFold_len l _ (by have:=hp p (by simp);rw[ban_len (by omega) (by omega),h]) fun g hg=>hp g (List.mem_cons_of_mem _ hg)
section
variable {P:Program} {w:World} {K:PySem.W.Frag} {mg:Str->Option Value} {base:Heap} {C CM:Addr}
abbrev s_after_round:Stmt:=top 6
theorem sc_after_round:FnScope ["measures","box","lows","highs","terms","bound","e","f"] ["measures","box"] (k0m s_after_round):=⟨rfl,rfl,rfl,by decide +kernel,rfl,by decide +kernel,by decide +kernel⟩
def sp_after_round (CM:Addr):Sp:=fun vs H Q _=>∃ (m t:Addr) (k:Known) (cs:List Int) (b:Box),vs=[.ref m,.ref t]∧MeasAt CM H m k cs∧Wf k∧BoxAt H t b∧b.length=k.edges.length∧∀ H' t',Same H H'->BoxNew H H' t' (Vawctd.round k b)->Q (.ref t') H'
theorem ok_after_round (T:Txt K mg) (cm:ClM K CM) (D:Dfn K mg "after_round" s_after_round ["measures","box"]) (p_narrow_by_condition:Prom P w K mg base 1 "narrow_by_condition" ["lows","highs","terms","bound"] sp_narrow) (p_narrow_by_ban:Prom P w K mg base 1 "narrow_by_ban" ["lows","highs","e","f"] sp_narrowBan):Prom P w K mg base 2 "after_round" ["measures","box"] (sp_after_round CM):=by
 refine D.prom sc_after_round (fun vs H Q E h=>?_) (fun f cdv A outer s H vs Q E hr h=>?_)
 ·obtain⟨_,_,_,_,_,rfl,_⟩:=h
  rfl
 ·obtain⟨m,t,k,cs,b,rfl,⟨dx,ac,ab,au,hm,⟨cts,hac,rc⟩,⟨bts,hab,rb⟩,hau⟩,wf,⟨al,ah,ht,hal,hah⟩,hlen,q⟩:=h
  refine⟨_,(k0e (k1m (i:=2) sc_after_round.nd rfl (Or.inl rfl) (pe_callTy (listK K rfl) (by rfl) T.n_list b_list (k0a (pe_ix (ixK_tup K rfl) (pv 1) k0n (fun _ _=>rfl)) k0g))) (k0e (k1m (i:=3) sc_after_round.nd rfl (Or.inl rfl) (pe_callTy (listK K rfl) (by rfl) T.n_list b_list (k0a (pe_ix (ixK_tup K rfl) (pv 1) k0n (fun _ _=>rfl)) k0g))) (k0e (ps_for PassesOwn.never rfl (pi_listK K rfl (k0v K rfl (pv 0) rfl)) (pg_tupK K (n:=2) rfl rfl (k1h (k1f (i:=4) sc_after_round.nd rfl (by first|exact Or.inl rfl|exact Or.inr rfl)) (k1h (k1f (i:=5) sc_after_round.nd rfl (by first|exact Or.inl rfl|exact Or.inr rfl)) pgs_nil))) (k0j (ps_expr (k0u p_narrow_by_condition (hr.mono (by decide)) rfl (k0a (pv 2) (k0a (pv 3) (k0a (pv 4) (k0a (pv 5) k0g)))))))) (k0e (ps_for PassesOwn.never rfl (pi_listK K rfl (k0v K rfl (pv 0) rfl)) (pg_tupK K (n:=2) rfl rfl (k1h (k1f (i:=6) sc_after_round.nd rfl (by first|exact Or.inl rfl|exact Or.inr rfl)) (k1h (k1f (i:=7) sc_after_round.nd rfl (by first|exact Or.inl rfl|exact Or.inr rfl)) pgs_nil))) (k0j (ps_expr (k0u p_narrow_by_ban (hr.mono (by decide)) rfl (k0a (pv 2) (k0a (pv 3) (k0a (pv 6) (k0a (pv 7) k0g)))))))) (k0j (k0q (pe_tup (k0a (pv 2) (k0a (pv 3) k0g))))))))),?_⟩
  have cl:=conditions_len (k:=k) (fun f hf=>(wf.fm f hf).1)
  have csm:=conditions_small (k:=k) (fun f hf=>(wf.fm f hf).2.1)
  refine⟨_,rfl,t,_,_,_,rfl,rfl,SqT.of ht,k1n (j:=0) rfl,_,_,rfl,.inl (SqL.of hal),fun l1 hl1=>?_⟩
  have s1:Same H (upd H l1 (.lst ((lows b).map V.int))):=Same.new hl1
  refine⟨_,rfl,t,_,_,_,rfl,rfl,SqT.of (s1 _ _ ht),k1n (j:=1) rfl,_,_,rfl,.inl (SqL.of (s1 _ _ hah)),fun l2 hl2=>?_⟩
  have n12:l1≠l2:=fun e=>by rw[← e,k0f] at hl2;cases hl2
  have hl2n:H l2=none:=s1.free hl2
  have s2:Same H (upd (upd H l1 (.lst ((lows b).map V.int))) l2 (.lst ((highs b).map V.int))):=s1.grow hl2
  have g1:(upd (upd H l1 (.lst ((lows b).map V.int))) l2 (.lst ((highs b).map V.int))) l1=some (.lst ((lows b).map V.int)):=by rw[k0p n12,k0f]
  generalize hG2:upd (upd H l1 (.lst ((lows b).map V.int))) l2 (.lst ((highs b).map V.int))=G2 at s2 g1
  have g2:G2 l2=some (.lst ((highs b).map V.int)):=by rw[← hG2,k0f]
  refine⟨_,rfl,m,CM,_,_,_,rfl,s2 _ _ hm,cm.cl,cm.conditions,mf_conditions,ac,rfl,⟨_,SqL.of (s2 _ _ hac)⟩,for_list (K:=K) (a:=ac) (xs:=cts.map V.ref) (fun i σ G=>∃ v4 v5 v6 v7:Option V,σ=[some (.ref m),some (.ref t),some (.ref l1),some (.ref l2),v4,v5,v6,v7]∧Same H G ∧
    G l1=some (.lst ((lows (((Vawctd.conditions k).take i).foldl (fun c f=>narrow f c) b)).map V.int))∧G l2=some (.lst ((highs (((Vawctd.conditions k).take i).foldl (fun c f=>narrow f c) b)).map V.int)))
   ⟨_,_,_,_,rfl,s2,g1,g2⟩ (fun i σ G _ ⟨_,_,_,_,_,e,_⟩=>SqL.of (e _ _ hac)) ?_ ?_⟩
  ·rintro i x σ G hx ⟨v4,v5,v6,v7,rfl,s5,h1,h2⟩
   obtain⟨a,ha,rfl⟩:=refs_get hx
   obtain⟨f,hf,tt,nt,hat,htt⟩:=rc.get ha
   have hfm:=List.mem_of_getElem? hf
   refine⟨a,_,rfl,SqT.of (s5 _ _ hat),rfl,_,_,rfl,_,_,rfl,rfl,?_⟩
   have ft:=foldl_take (fun (c:Box) f=>narrow f c) b hf
   have fl:=condFold_len ((Vawctd.conditions k).take i) b hlen (fun g hg=>cl g (List.mem_of_mem_take hg))
   generalize ((Vawctd.conditions k).take i).foldl (fun (c:Box) f=>narrow f c) b=B at h1 h2 ft fl
   refine⟨_,rfl,_,rfl,_,rfl,_,rfl,l1,l2,tt,H,B,f,rfl,s5,hl1,hl2n,n12,htt,by rw[cl f hfm,fl],csm f hfm,h1,h2,fun G3 s6 h3 h4=>?_⟩
   rw[← ft] at h3 h4
   exact⟨_,_,_,_,rfl,s6,h3,h4⟩
  rintro σ G ⟨v4,v5,v6,v7,rfl,s5,h1,h2⟩
  rw[List.length_map,rc.length,List.take_length] at h1 h2
  have fl:=condFold_len (Vawctd.conditions k) b hlen cl
  have er:Vawctd.round k b=k.bans.foldl Vawctd.narrowBan ((Vawctd.conditions k).foldl (fun c f=>narrow f c) b):=rfl
  rw[er] at q
  generalize (Vawctd.conditions k).foldl (fun (c:Box) f=>narrow f c) b=B at h1 h2 fl q
  refine⟨_,rfl,m,CM,_,_,_,rfl,s5 _ _ hm,cm.cl,cm.bans,mf_bans,ab,rfl,⟨_,SqL.of (s5 _ _ hab)⟩,for_list (K:=K) (a:=ab) (xs:=bts.map V.ref) (fun i σ G=>∃ v4 v5 v6 v7:Option V,σ=[some (.ref m),some (.ref t),some (.ref l1),some (.ref l2),v4,v5,v6,v7]∧Same H G ∧
    G l1=some (.lst ((lows ((k.bans.take i).foldl Vawctd.narrowBan B)).map V.int))∧G l2=some (.lst ((highs ((k.bans.take i).foldl Vawctd.narrowBan B)).map V.int)))
   ⟨_,_,_,_,rfl,s5,h1,h2⟩ (fun i σ G _ ⟨_,_,_,_,_,e,_⟩=>SqL.of (e _ _ hab)) ?_ ?_⟩
  ·rintro i x σ G hx ⟨v4,v5,v6,v7,rfl,s5,h1,h2⟩
   obtain⟨a,ha,rfl⟩:=refs_get hx
   obtain⟨⟨e,f⟩,hf,hat⟩:=rb.get ha
   obtain⟨b1,b2,_⟩:=wf.bm _ (List.mem_of_getElem? hf)
   refine⟨a,_,rfl,SqT.of (s5 _ _ hat),rfl,_,_,rfl,_,_,rfl,rfl,?_⟩
   have ft:=foldl_take Vawctd.narrowBan B hf
   have fl2:=banFold_len (k.bans.take i) B fl (fun p hp=>⟨(wf.bm p (List.mem_of_mem_take hp)).1,(wf.bm p (List.mem_of_mem_take hp)).2.1⟩)
   generalize (k.bans.take i).foldl Vawctd.narrowBan B=B2 at h1 h2 ft fl2
   refine⟨_,rfl,_,rfl,_,rfl,_,rfl,l1,l2,e,f,H,B2,rfl,s5,hl1,hl2n,n12,by rw[fl2];exact b1,by rw[fl2];exact b2,h1,h2,fun G3 s6 h3 h4=>?_⟩
   rw[← ft] at h3 h4
   exact⟨_,_,_,_,rfl,s6,h3,h4⟩
  ·rintro σ G ⟨v4,v5,v6,v7,rfl,s5,h1,h2⟩
   rw[List.length_map,rb.length,List.take_length] at h1 h2
   refine⟨_,rfl,_,rfl,(by show 2≤sizeLine;decide),fun t' ht'=>q _ t' (s5.grow ht') ⟨l1,l2,hl1,hl2n,k0f,(Same.new ht') _ _ h1,(Same.new ht') _ _ h2⟩⟩
abbrev s_tightened:Stmt:=top 5
theorem sc_tightened:FnScope ["measures","box","turn","before"] ["measures","box"] (k0m s_tightened):=⟨rfl,rfl,rfl,by decide +kernel,rfl,by decide +kernel,by decide +kernel⟩
theorem round_len {k:Known} (wf:Wf k) {b:Box} (h:b.length=k.edges.length):(Vawctd.round k b).length=k.edges.length:=by
 unfold Vawctd.round
 exact banFold_len _ _ (condFold_len _ _ h (conditions_len (fun f hf=>(wf.fm f hf).1))) fun p hp=>⟨(wf.bm p hp).1,(wf.bm p hp).2.1⟩
def sp_tightened (CM:Addr):Sp:=fun vs H Q _=>∃ (m t:Addr) (k:Known) (cs:List Int) (b:Box),vs=[.ref m,.ref t]∧MeasAt CM H m k cs∧Wf k∧BoxAt H t b∧b.length=k.edges.length∧∀ H' t',Same H H'->BoxNew H H' t' (Vawctd.tighten k b)->Q (.ref t') H'
theorem ok_tightened (T:Txt K mg) (cm:ClM K CM) (D:Dfn K mg "tightened" s_tightened ["measures","box"]) (p_after_round:Prom P w K mg base 2 "after_round" ["measures","box"] (sp_after_round CM)) (p_is_empty:Prom P w K mg base 1 "is_empty" ["box"] sp_is_empty):Prom P w K mg base 3 "tightened" ["measures","box"] (sp_tightened CM):=by
 refine D.prom sc_tightened (fun vs H Q E h=>?_) (fun f cdv A outer s H vs Q E hr h=>?_)
 ·obtain⟨_,_,_,_,_,rfl,_⟩:=h
  rfl
 ·obtain⟨m,t,k,cs,b,rfl,M,wf,hb,hlen,q⟩:=h
  refine⟨_,(k0e (ps_for PassesOwn.never rfl (pi_range1 rfl T.n_range (k0a (k0y rfl T.c_MOST_ROUNDS) k0g)) (k1f (i:=2) sc_tightened.nd rfl (by first|exact Or.inl rfl|exact Or.inr rfl)) (k0e (k1m (i:=3) sc_tightened.nd rfl (Or.inl rfl) (pv 1)) (k0e (k1m (i:=1) sc_tightened.nd rfl (Or.inl rfl) (k0u p_after_round (hr.mono (by decide)) rfl (k0a (pv 0) (k0a (pv 3) k0g)))) (k0j (ps_if (PW.pt (pw_or (k0x (eqDK K rfl hr.units) (pv 1) (pv 3) (k1e _)) (pw_or1 (k1r K rfl (k0u p_is_empty (hr.mono (by decide)) rfl (k0a (pv 1) k0g)) (fun _=>rfl))))) (k0j ps_break) k0z))))) (k0j (k0q (pv 1)))),?_⟩
  have e16:=wf.e16
  refine⟨6,rfl,by decide,by decide,for_range (lo:=0) (n:=6) (fun i σ G=>∃ (v2 v3:Option V) (t':Addr) (b':Box),σ=[some (.ref m),some (.ref t'),v2,v3]∧Same H G∧BoxAt G t' b'∧(0 < i->BoxNew H G t' b')∧b'.length=k.edges.length∧Vawctd.tighten k b=Vawctd.tightenIn k (6 - i) b')
   ⟨_,_,t,b,rfl,Same.rfl',hb,fun z=>absurd z (Nat.lt_irrefl _),hlen,rfl⟩ ?_ ?_⟩
  ·rintro i σ G hi ⟨v2,v3,t',b',rfl,s5,hb',_,hl',ht'⟩
   refine⟨_,rfl,_,rfl,_,rfl,m,t',k,cs,b',rfl,M.same s5,wf,hb',hl',fun G1 t1 s6 hn1=>?_⟩
   have hb1:=hn1.box
   have hN1:=hn1.old s5
   have l1:=round_len wf hl'
   have e6:6 - i=(6 - (i+1))+1:=by omega
   rw[e6] at ht'
   have ht':Vawctd.tighten k b=if Vawctd.round k b'==b' || isEmptyBox (Vawctd.round k b') then Vawctd.round k b' else Vawctd.tightenIn k (6 - (i+1)) (Vawctd.round k b'):=ht'
   generalize Vawctd.round k b'=c at hb1 hn1 hN1 l1 ht'
   have S6:=s5.trans s6
   refine⟨_,rfl,_,rfl,_,_,dp_box hb1,dp_box (hb'.same s6),shaped_box _,shaped_box _,_,rfl,?_⟩
   rw[eqv_box]
   cases h1:c==b' with
   | true =>
    rw[h1] at ht'
    simp only[Bool.true_or,if_true] at ht'
    rw[ht'] at q
    exact iteT (iteT ⟨_,rfl,q G1 t1 S6 hN1⟩)
   | false =>
    rw[h1] at ht'
    simp only[Bool.false_or] at ht'
    refine iteF ⟨_,rfl,t1,c,rfl,hb1,by omega,fun G2 s7=>⟨_,rfl,?_⟩⟩
    cases h2:isEmptyBox c with
    | true =>
     rw[h2] at ht'
     simp only[if_true] at ht'
     rw[ht'] at q
     exact iteT ⟨_,rfl,q G2 t1 (S6.trans s7) (hN1.same s7)⟩
    | false =>
     rw[h2] at ht'
     simp only[Bool.false_eq_true,if_false] at ht'
     exact iteF ⟨_,_,t1,c,rfl,S6.trans s7,hb1.same s7,fun _=>hN1.same s7,l1,ht'⟩
  ·rintro σ G ⟨v2,v3,t',b',rfl,s5,hb',hnew,hl',ht'⟩
   have ht':Vawctd.tighten k b=b':=ht'
   rw[ht'] at q
   exact⟨_,rfl,q G t' s5 (hnew (by decide))⟩
abbrev s_bound_of:Stmt:=top 9
theorem sc_bound_of:FnScope ["measures","box","together","surplus","low","high"] ["measures","box"] (k0m s_bound_of):=⟨rfl,rfl,rfl,by decide +kernel,rfl,by decide +kernel,by decide +kernel⟩
def SmallC (cs:List Int):Prop:=∀ z∈cs,-1000≤z∧z≤1000
def sp_bound_of (CM:Addr):Sp:=fun vs H Q _=>∃ (m t:Addr) (k:Known) (cs:List Int) (b:Box),vs=[.ref m,.ref t]∧MeasAt CM H m k cs∧Wf k∧cs.length=k.edges.length∧SmallC cs∧BoxAt H t b∧b.length=k.edges.length∧∀ H',Same H H'->Q (.int (Vawctd.boundOf k cs b)) H'
theorem surplus_small {k:Known} {cs:List Int} (wf:Wf k) (hc:SmallC cs):∀ z∈Vawctd.surpluses k cs,-17000≤z∧z≤17000:=by
 intro z hz
 unfold Vawctd.surpluses at hz
 obtain⟨y,hy,rfl⟩:=List.mem_map.mp hz
 have h1:=hc y.2 (List.of_mem_zip hy).2
 have h2:=pot_small (k:=k) wf.n8 hc y.1.src
 have h3:=pot_small (k:=k) wf.n8 hc y.1.dst
 omega
theorem ok_bound_of (T:Txt K mg) (cm:ClM K CM) (D:Dfn K mg "bound_of" s_bound_of ["measures","box"]):Prom P w K mg base 1 "bound_of" ["measures","box"] (sp_bound_of CM):=by
 refine D.prom sc_bound_of (fun vs H Q E h=>?_) (fun f cdv A outer s H vs Q E hr h=>?_)
 ·obtain⟨_,_,_,_,_,rfl,_⟩:=h
  rfl
 ·obtain⟨m,t,k,cs,b,rfl,⟨dx,ac,ab,au,hm,_,_,hau⟩,wf,hc,hsm,⟨al,ah,ht,hal,hah⟩,hlen,q⟩:=h
  refine⟨_,(k0e (k1m (i:=2) sc_bound_of.nd rfl (Or.inl rfl) (k0v K rfl (pv 0) rfl)) (k0e (ps_for PassesOwn.never rfl (pi_zip3K K rfl rfl T.n_zip (k0a (k0v K rfl (pv 0) rfl) (k0a (pe_ix (ixK_tup K rfl) (pv 1) k0n (fun _ _=>rfl)) (k0a (pe_ix (ixK_tup K rfl) (pv 1) k0n (fun _ _=>rfl)) k0g)))) (pg_tupK K (n:=3) rfl rfl (k1h (k1f (i:=3) sc_bound_of.nd rfl (by first|exact Or.inl rfl|exact Or.inr rfl)) (k1h (k1f (i:=4) sc_bound_of.nd rfl (by first|exact Or.inl rfl|exact Or.inr rfl)) (k1h (k1f (i:=5) sc_bound_of.nd rfl (by first|exact Or.inl rfl|exact Or.inr rfl)) pgs_nil)))) (k0j (ps_aug (i:=2) sc_bound_of.nd rfl (Or.inl rfl) (pe_op op_mul (pv 3) (pe_ifExp (k0x op_gt (pv 3) k0n (k1e _)) (pv 5) (pv 4))) ip_add))) (k0j (k0q (pv 2))))),?_⟩
  have sl:=surpluses_len (k:=k) hc
  have ss:=surplus_small wf hsm
  have qu:SqL K H au ((Vawctd.surpluses k cs).map V.int):=SqL.of hau
  have ql:SqL K H al ((lows b).map V.int):=SqL.of hal
  have qh:SqL K H ah ((highs b).map V.int):=SqL.of hah
  refine⟨_,rfl,m,CM,_,_,_,rfl,hm,cm.cl,cm.base,mf_base,_,rfl,m,CM,_,_,_,rfl,hm,cm.cl,cm.surpluses,mf_surpluses,_,rfl,t,_,_,_,rfl,rfl,SqT.of ht,k1n (j:=0) rfl,_,rfl,t,_,_,_,rfl,rfl,SqT.of ht,k1n (j:=1) rfl,au,al,ah,_,_,_,rfl,qu,ql,qh,
   for_gen (J:=Itz3 K au al ah) (n:=k.edges.length) (fun i σ G=>∃ v3 v4 v5:Option V,σ=[some (.ref m),some (.ref t),some (.int (boundTo k cs b i)),v3,v4,v5]∧Same H G)
   ⟨none,none,none,by rw[boundTo_zero];rfl,Same.rfl'⟩ (fun i σ G hi ⟨_,_,_,_,s5⟩=>⟨_,_,_,_,_,_,s5.seq qu,s5.seq ql,s5.seq qh,List.getElem?_eq_getElem (by rw[List.length_map,sl];exact hi),List.getElem?_eq_getElem (by rw[List.length_map,lows_len,hlen];exact hi),List.getElem?_eq_getElem (by rw[List.length_map,highs_len,hlen];exact hi)⟩)
   (fun σ G ⟨_,_,_,_,s5⟩=>⟨_,s5.seq qu,by rw[List.length_map,sl];exact Nat.le_refl _⟩) ?_ ?_⟩
  ·rintro i x σ G G' hi ⟨v3,v4,v5,rfl,s5⟩ ⟨T,x1,x2,x3,rfl,hT,rfl,y1,y2,y3⟩
   obtain⟨su,hsu,rfl⟩:=get_int (y1 _ (s5.seq qu))
   have hb:=get_at (b:=b) (i:=i) (by omega)
   have e2:=y2 _ (s5.seq ql)
   have e3:=y3 _ (s5.seq qh)
   rw[List.getElem?_map,lows_get hb] at e2
   rw[List.getElem?_map,highs_get hb] at e3
   cases e2
   cases e3
   have bs:=boundTo_succ hsu hb
   have sb:=ss su (List.mem_of_getElem? hsu)
   generalize b.getD i (0,0)=z at bs
   have s6:Same G (upd G T (.tup [.int su,.int z.1,.int z.2])):=Same.new hT
   refine⟨T,_,rfl,SqT.of k0f,rfl,_,_,rfl,_,_,rfl,_,_,rfl,rfl,?_⟩
   refine⟨_,rfl,_,rfl,_,rfl,_,_,rfl,rfl,_,rfl,ite2 (fun h1=>?_) (fun h1=>?_)⟩
   ·have h1:(0:Int) < su:=of_decide_eq_true h1
    refine⟨_,rfl,_,_,rfl,rfl,.inl ⟨by omega,by omega⟩,_,_,rfl,rfl,some (.int su),some (.int z.1),some (.int z.2),?_,s5.trans s6⟩
    have:bpart (su,z)=su*z.2:=by unfold bpart;rw[if_pos h1]
    rw[bs,this]
    rfl
   ·have h1:¬ (0:Int) < su:=of_decide_eq_false (eq_false_of_ne_true h1)
    refine⟨_,rfl,_,_,rfl,rfl,.inl ⟨by omega,by omega⟩,_,_,rfl,rfl,some (.int su),some (.int z.1),some (.int z.2),?_,s5.trans s6⟩
    have:bpart (su,z)=su*z.1:=by unfold bpart;rw[if_neg h1]
    rw[bs,this]
    rfl
  ·rintro σ G ⟨v3,v4,v5,rfl,s5⟩
   rw[boundTo_all hc hlen]
   exact⟨_,rfl,q G s5⟩
abbrev s_parts_of:Stmt:=top 10
theorem sc_parts_of:FnScope ["measures","box","edge","m","lows","highs","upper","lower"] ["measures","box","edge","m"] (k0m s_parts_of):=⟨rfl,rfl,rfl,by decide +kernel,rfl,by decide +kernel,by decide +kernel⟩
def BoxL (H:Hp) (t al ah:Addr) (b:Box):Prop:=H t=some (.tup [.ref al,.ref ah])∧H al=some (.lst ((lows b).map V.int))∧H ah=some (.lst ((highs b).map V.int))
def BoxIn (R:Addr->Prop) (H:Hp) (t:Addr) (b:Box):Prop:=∃ al ah:Addr,R al∧R ah∧H t=some (.tup [.ref al,.ref ah])∧H al=some (.lst ((lows b).map V.int))∧H ah=some (.lst ((highs b).map V.int))
theorem BoxIn.same {R:Addr->Prop} {H H':Hp} {t:Addr} {b:Box} (s:Same H H') (x:BoxIn R H t b):BoxIn R H' t b:=by
 obtain⟨al,ah,r1,r2,h1,h2,h3⟩:=x
 exact⟨al,ah,r1,r2,s _ _ h1,s _ _ h2,s _ _ h3⟩
theorem BoxIn.box {R:Addr->Prop} {H:Hp} {t:Addr} {b:Box} (x:BoxIn R H t b):BoxAt H t b:=by
 obtain⟨al,ah,_,_,h1,h2,h3⟩:=x
 exact⟨al,ah,h1,h2,h3⟩
def sp_parts_of (CM:Addr):Sp:=fun vs H Q _=>∃ (m t:Addr) (e:Nat) (n:Int) (k:Known) (cs:List Int) (b:Box) (al ah:Addr),vs=[.ref m,.ref t,.int (e:Int),.int n]∧MeasAt CM H m k cs∧cs.length=k.edges.length∧BoxL H t al ah b∧b.length=k.edges.length∧e < k.edges.length ∧
 ∀ H' l t1 t2 b1 b2,Same H H'->H l=none->H' l=some (.lst [.ref t1,.ref t2])->BoxIn (fun x=>H x=none∨x=al∨x=ah) H' t1 b1->BoxIn (fun x=>H x=none∨x=al∨x=ah) H' t2 b2->Vawctd.parts k cs b e n=[b2,b1]->Q (.ref l) H'
theorem ok_parts_of (T:Txt K mg) (cm:ClM K CM) (D:Dfn K mg "parts_of" s_parts_of ["measures","box","edge","m"]):Prom P w K mg base 1 "parts_of" ["measures","box","edge","m"] (sp_parts_of CM):=by
 refine D.prom sc_parts_of (fun vs H Q E h=>?_) (fun f cdv A outer s H vs Q E hr h=>?_)
 ·obtain⟨_,_,_,_,_,_,_,_,_,rfl,_⟩:=h
  rfl
 ·obtain⟨m,t,e,n,k,cs,b,al,ah,rfl,⟨dx,ac,ab,au,hm,_,_,hau⟩,hc,⟨ht,hal,hah⟩,hlen,he,q⟩:=h
  refine⟨_,(k0e (k1m (i:=4) sc_parts_of.nd rfl (Or.inl rfl) (pe_callTy (listK K rfl) (by rfl) T.n_list b_list (k0a (pe_ix (ixK_tup K rfl) (pv 1) k0n (fun _ _=>rfl)) k0g))) (k0e (k1m (i:=5) sc_parts_of.nd rfl (Or.inl rfl) (pe_callTy (listK K rfl) (by rfl) T.n_list b_list (k0a (pe_ix (ixK_tup K rfl) (pv 1) k0n (fun _ _=>rfl)) k0g))) (k0e (ps_asg (pe_op op_add (pv 3) k0n) (pg_sub (pv 4) (pv 2) set_list)) (k0e (ps_asg (pv 3) (pg_sub (pv 5) (pv 2) set_list)) (k0e (k1m (i:=6) sc_parts_of.nd rfl (Or.inl rfl) (pe_tup (k0a (pv 4) (k0a (pe_ix (ixK_tup K rfl) (pv 1) k0n (fun _ _=>rfl)) k0g)))) (k0e (k1m (i:=7) sc_parts_of.nd rfl (Or.inl rfl) (pe_tup (k0a (pe_ix (ixK_tup K rfl) (pv 1) k0n (fun _ _=>rfl)) (k0a (pv 5) k0g)))) (k0j (k0q (pe_ifExp (k0x op_ge (pe_ix (k0w K rfl) (k0v K rfl (pv 0) rfl) (pv 2) (fun _ _=>rfl)) k0n (k1e _)) (k1g (k0a (pv 7) (k0a (pv 6) k0g))) (k1g (k0a (pv 6) (k0a (pv 7) k0g)))))))))))),?_⟩
  have heb:e < b.length:=by omega
  have sl:=surpluses_len (k:=k) hc
  refine⟨_,rfl,t,_,_,_,rfl,rfl,SqT.of ht,k1n (j:=0) rfl,_,_,rfl,.inl (SqL.of hal),fun l1 hl1=>?_⟩
  have s1:Same H (upd H l1 (.lst ((lows b).map V.int))):=Same.new hl1
  refine⟨_,rfl,t,_,_,_,rfl,rfl,SqT.of (s1 _ _ ht),k1n (j:=1) rfl,_,_,rfl,.inl (SqL.of (s1 _ _ hah)),fun l2 hl2=>?_⟩
  have n12:l1≠l2:=fun e=>by rw[← e,k0f] at hl2;cases hl2
  have hl2n:H l2=none:=s1.free hl2
  have s2:Same H (upd (upd H l1 (.lst ((lows b).map V.int))) l2 (.lst ((highs b).map V.int))):=s1.grow hl2
  have g1:(upd (upd H l1 (.lst ((lows b).map V.int))) l2 (.lst ((highs b).map V.int))) l1=some (.lst ((lows b).map V.int)):=by rw[k0p n12,k0f]
  generalize hG2:upd (upd H l1 (.lst ((lows b).map V.int))) l2 (.lst ((highs b).map V.int))=G2 at s2 g1
  have g2:G2 l2=some (.lst ((highs b).map V.int)):=by rw[← hG2,k0f]
  refine⟨_,rfl,_,_,rfl,rfl,_,rfl,_,rfl,l1,_,_,e,rfl,rfl,g1,ix_nat rfl (by rw[List.length_map,lows_len];exact heb),?_⟩
  have g2':(upd G2 l1 (.lst (((lows b).map V.int).set e (.int (n+1))))) l2=some (.lst ((highs b).map V.int)):=by rw[k0p (Ne.symm n12)];exact g2
  refine⟨_,rfl,_,rfl,_,rfl,l2,_,_,e,rfl,rfl,g2',ix_nat rfl (by rw[List.length_map,highs_len];exact heb),?_⟩
  have s4:Same H (upd (upd G2 l1 (.lst (((lows b).map V.int).set e (.int (n+1))))) l2 (.lst (((highs b).map V.int).set e (.int n)))):=(s2.put hl1).put hl2n
  have w1:(upd (upd G2 l1 (.lst (((lows b).map V.int).set e (.int (n+1))))) l2 (.lst (((highs b).map V.int).set e (.int n)))) l1=some (.lst ((lows (Vawctd.withLow b e (n+1))).map V.int)):=by rw[k0p n12,k0f,map_set_int,withLow_lows]
  have w2:(upd (upd G2 l1 (.lst (((lows b).map V.int).set e (.int (n+1))))) l2 (.lst (((highs b).map V.int).set e (.int n)))) l2=some (.lst ((highs (Vawctd.withHigh b e n)).map V.int)):=by rw[k0f,map_set_int,withHigh_highs]
  generalize hG4:upd (upd G2 l1 _) l2 _=G4
  have e4:upd (upd G2 l1 (.lst (((lows b).map V.int).set e (.int (n+1))))) l2 (.lst (((highs b).map V.int).set e (.int n)))=G4:=hG4
  rw[e4] at s4 w1 w2
  refine⟨_,rfl,_,rfl,t,_,_,_,rfl,rfl,SqT.of (s4 _ _ ht),k1n (j:=1) rfl,(by show 2≤sizeLine;decide),fun tu htu=>?_⟩
  have s5:=s4.grow (o:=.tup [.ref l1,.ref ah]) htu
  refine⟨_,rfl,t,_,_,_,rfl,rfl,SqT.of (s5 _ _ ht),k1n (j:=0) rfl,_,rfl,(by show 2≤sizeLine;decide),fun tl htl=>?_⟩
  have s6:=s5.grow (o:=.tup [.ref al,.ref l2]) htl
  have n6:=(Same.new (o:=.tup [.ref l1,.ref ah]) htu).trans (Same.new (o:=.tup [.ref al,.ref l2]) htl)
  have up:BoxIn (fun x=>H x=none∨x=al∨x=ah) (upd (upd G4 tu (.tup [.ref l1,.ref ah])) tl (.tup [.ref al,.ref l2])) tu (Vawctd.withLow b e (n+1)) :=
   ⟨l1,ah,.inl hl1,.inr (.inr rfl),(Same.new htl) _ _ k0f,n6 _ _ w1,by rw[withLow_highs heb];exact s6 _ _ hah⟩
  have lo:BoxIn (fun x=>H x=none∨x=al∨x=ah) (upd (upd G4 tu (.tup [.ref l1,.ref ah])) tl (.tup [.ref al,.ref l2])) tl (Vawctd.withHigh b e n) :=
   ⟨al,l2,.inr (.inl rfl),.inl hl2n,k0f,by rw[withHigh_lows heb];exact s6 _ _ hal,n6 _ _ w2⟩
  generalize upd (upd G4 tu (.tup [.ref l1,.ref ah])) tl (.tup [.ref al,.ref l2])=G6 at s6 up lo
  have hsu:(Vawctd.surpluses k cs)[e]?=some ((Vawctd.surpluses k cs).getD e 0):=by rw[List.getD_eq_getElem?_getD,List.getElem?_eq_getElem (by omega)];rfl
  refine⟨_,rfl,m,CM,_,_,_,rfl,s6 _ _ hm,cm.cl,cm.surpluses,mf_surpluses,_,rfl,au,_,_,_,rfl,rfl,SqL.of (s6 _ _ hau),at_int hsu,_,_,rfl,rfl,_,rfl,ite2 (fun h1=>?_) (fun h1=>?_)⟩
  ·have h1:(0:Int)≤(Vawctd.surpluses k cs).getD e 0:=of_decide_eq_true h1
   refine⟨_,rfl,_,rfl,(by show 2≤sizeLine;decide),fun r hr=>q _ r tl tu _ _ (s6.grow hr) (s6.free hr) k0f (lo.same (Same.new hr)) (up.same (Same.new hr)) ?_⟩
   unfold Vawctd.parts
   rw[if_neg (by omega)]
  ·have h1:¬ (0:Int)≤(Vawctd.surpluses k cs).getD e 0:=of_decide_eq_false (eq_false_of_ne_true h1)
   refine⟨_,rfl,_,rfl,(by show 2≤sizeLine;decide),fun r hr=>q _ r tu tl _ _ (s6.grow hr) (s6.free hr) k0f (up.same (Same.new hr)) (lo.same (Same.new hr)) ?_⟩
   unfold Vawctd.parts
   rw[if_pos (by omega)]
end
end Ww
end
section
namespace Ww
open PySem PySem.Spec PyProof.Rows L2
open Vawctd (Known Edge Fact inRange toInts countsOf Box isEmptyBox isFixed Found isGood isLet fixedCounts widest costBy)
def ofl (ac:Addr) (c n:Int) (ap:Addr) (br:Bool):List (Str × V):=[("counts",.ref ac),("cost",.int c),("taken",.int n),("proof",.ref ap),("broken",.bl br)]
section
variable {ac ap ac':Addr} {c n c' n':Int} {br br':Bool}
theorem ofl_counts:(ofl ac c n ap br).lookup ("counts":Str)=some (V.ref ac):=lk_hit
theorem ofl_cost:(ofl ac c n ap br).lookup ("cost":Str)=some (V.int c):=(lk_miss (by decide +kernel)).trans <| lk_hit
theorem ofl_taken:(ofl ac c n ap br).lookup ("taken":Str)=some (V.int n):=(lk_miss (by decide +kernel)).trans <| (lk_miss (by decide +kernel)).trans <| lk_hit
theorem ofl_proof:(ofl ac c n ap br).lookup ("proof":Str)=some (V.ref ap):=(lk_miss (by decide +kernel)).trans <| (lk_miss (by decide +kernel)).trans <| (lk_miss (by decide +kernel)).trans <| lk_hit
theorem ofl_broken:(ofl ac c n ap br).lookup ("broken":Str)=some (V.bl br):=(lk_miss (by decide +kernel)).trans <| (lk_miss (by decide +kernel)).trans <| (lk_miss (by decide +kernel)).trans <| (lk_miss (by decide +kernel)).trans <| lk_hit
theorem pfo_counts:putF ("counts":Str) (.ref ac') (ofl ac c n ap br)=ofl ac' c n ap br:=putF_hit
theorem pfo_cost:putF ("cost":Str) (.int c') (ofl ac c n ap br)=ofl ac c' n ap br:=by
 unfold ofl;rw[k0r (by decide +kernel),putF_hit]
theorem pfo_taken:putF ("taken":Str) (.int n') (ofl ac c n ap br)=ofl ac c n' ap br:=by
 unfold ofl;rw[k0r (by decide +kernel),k0r (by decide +kernel),putF_hit]
theorem pfo_broken:putF ("broken":Str) (.bl br') (ofl ac c n ap br)=ofl ac c n ap br':=by
 unfold ofl;rw[k0r (by decide +kernel),k0r (by decide +kernel),k0r (by decide +kernel),k0r (by decide +kernel),putF_hit]
theorem ofl_len:(ofl ac c n ap br).length < 1000:=by show 5 < 1000;decide
end
structure ClO (K:PySem.W.Frag) (CO:Addr):Prop where
 cl:Cls K CO
 counts:NoAttr K CO "counts"
 cost:NoAttr K CO "cost"
 taken:NoAttr K CO "taken"
 proof:NoAttr K CO "proof"
 broken:NoAttr K CO "broken"
theorem held_ne_out {H:Hp} {p o C CO dx dx' aL aC aK aM aF aB ac ap:Addr} {k c n:Int} {br:Bool} (h1:H p=some (.ins C dx (hf k aL aC aK aM aF aB))) (h2:H o=some (.ins CO dx' (ofl ac c n ap br))):p≠o:=fun e=>by
 rw[e,h2] at h1
 injection h1 with q1
 injection q1 with _ _ q3
 have q4:=congrArg (fun l:List (Str × V)=>(l.map Prod.fst).head?) q3
 have q5:some ("counts":Str)=some ("nodes":Str):=q4
 exact absurd (Option.some.inj q5) (by decide +kernel)
def BestAt (H:Hp) (ac:Addr) (c:Int) (best:Option Found):Prop:=(best=none∧H ac=some (.lst [])∧c=0)∨∃ f,best=some f∧H ac=some (.lst ((toInts f.counts).map V.int))∧c=f.cost∧0 < f.counts.length
theorem BestAt.get {H:Hp} {ac:Addr} {c:Int} {best:Option Found} (x:BestAt H ac c best):∃ xs,H ac=some (.lst xs):=by
 rcases x with ⟨_,h,_⟩|⟨f,_,h,_⟩
 ·exact⟨_,h⟩
 ·exact⟨_,h⟩
theorem BestAt.keep {H H':Hp} {ac:Addr} {c:Int} {best:Option Found} (x:BestAt H ac c best) (k:∀ xs,H ac=some (.lst xs)->H' ac=some (.lst xs)):BestAt H' ac c best:=by
 rcases x with ⟨e,h,z⟩|⟨f,e,h,z⟩
 ·exact .inl ⟨e,k _ h,z⟩
 ·exact .inr ⟨f,e,k _ h,z⟩
theorem But.free {o r:Addr} {H H':Hp} {ob:HO} (k:But o H H') (ho:H' o=some ob) (hr:H' r=none):H r=none:=by
 cases e:H r with
 | none=>rfl
 | some x =>
  have n:r≠o:=fun q=>by rw[q,ho] at hr;cases hr
  rw[k _ _ e n] at hr
  cases hr
theorem zip_widths (b:Box):(((lows b).zip (highs b)).map fun z=>z.2 - z.1)=b.map fun z=>z.2 - z.1:=by
 unfold lows highs
 induction b with
 | nil=>rfl
 | cons z b ih=>rw[List.map_cons,List.map_cons,List.zip_cons_cons,List.map_cons,ih,List.map_cons]
section
variable {P:Program} {w:World} {K:PySem.W.Frag} {mg:Str->Option Value} {base:Heap} {C CM CO:Addr}
abbrev s_is_let:Stmt:=top 56
theorem sc_is_let:FnScope ["held","counts"] ["held","counts"] (k0m s_is_let):=⟨rfl,rfl,rfl,by decide +kernel,rfl,by decide +kernel,by decide +kernel⟩
def sp_let (K:PySem.W.Frag) (C:Addr) (g:Known->Vawctd.Counts->Bool):Sp:=fun vs H Q _=>∃ (p b:Addr) (x:Vawctd.Counts) (k:Known) (h:HA),vs=[.ref p,.ref b]∧HeldR C H p k h∧Wf k∧x.length=k.edges.length∧SqL K H b ((toInts x).map V.int)∧∀ H',Same H H'->Q (.bl (g k x)) H'
theorem let_eq (k:Known) (x:Vawctd.Counts):isLet k x=(decide (aboveOf k x=[])&&(decide (unkeptOf k x=[])&&decide (unbanOf k x=[]))):=by
 have h:=isLet_iff k x
 cases e:isLet k x with
 | true =>
  obtain⟨h1,h2,h3⟩:=h.mp e
  rw[decide_eq_true (p:=aboveOf k x=[]) h1,decide_eq_true (p:=unkeptOf k x=[]) h2,decide_eq_true (p:=unbanOf k x=[]) h3]
  rfl
 | false =>
  symm
  rw[Bool.eq_false_iff]
  intro q
  simp only[Bool.and_eq_true,decide_eq_true_eq] at q
  rw[h.mpr q] at e
  cases e
theorem ok_is_let (T:Txt K mg) (c:Cl K C) (D:Dfn K mg "is_let" s_is_let ["held","counts"]) (p_edges_above_most:Prom P w K mg base 1 "edges_above_most" ["held","counts"] (sp_idx K C aboveOf)) (p_facts_not_kept:Prom P w K mg base 2 "facts_not_kept" ["held","counts"] (sp_idx K C unkeptOf)) (p_bans_not_kept:Prom P w K mg base 1 "bans_not_kept" ["held","counts"] (sp_idx K C unbanOf)):Prom P w K mg base 3 "is_let" ["held","counts"] (sp_let K C isLet):=by
 refine D.prom sc_is_let (fun vs H Q E h=>?_) (fun f cdv A outer s H vs Q E hr h=>?_)
 ·obtain⟨_,_,_,_,_,rfl,_⟩:=h
  rfl
 ·obtain⟨p,b,x,k,h,rfl,X,wf,hxl,hb,q⟩:=h
  refine⟨_,(k0e (ps_if (PW.pt (pw_or (k0x op_gt (k1a (lenK K rfl) (by rfl) T.n_len PySem.boot_len (k0a (k0u p_edges_above_most (hr.mono (by decide)) rfl (k0a (pv 0) (k0a (pv 1) k0g))) k0g)) k0n (k1e _)) (pw_or1 (k0x op_gt (k1a (lenK K rfl) (by rfl) T.n_len PySem.boot_len (k0a (k0u p_facts_not_kept (hr.mono (by decide)) rfl (k0a (pv 0) (k0a (pv 1) k0g))) k0g)) k0n (k1e _))))) (k0j (k0q pe_bl)) k0z) (k0j (k0q (pe_cmpR op_eq (k1a (lenK K rfl) (by rfl) T.n_len PySem.boot_len (k0a (k0u p_bans_not_kept (hr.mono (by decide)) rfl (k0a (pv 0) (k0a (pv 1) k0g))) k0g)) k0n (k1e _))))),?_⟩
  rw[let_eq] at q
  refine⟨_,rfl,_,rfl,p,b,x,k,h,rfl,X,wf,hxl,hb,fun H1 l1 s1 h1=>⟨l1,_,rfl,.inl (SqL.of h1),_,_,rfl,rfl,_,rfl,?_⟩⟩
  rw[ints_len]
  by_cases c1:aboveOf k x=[]
  case neg =>
   have l1p:0 < (aboveOf k x).length:=List.length_pos_iff.mpr c1
   rw[decide_eq_true (p:=(0:Int) < ((aboveOf k x).length:Int)) (by omega)]
   rw[decide_eq_false c1,Bool.false_and] at q
   exact iteT (iteT (q _ s1))
  rw[decide_eq_true c1,Bool.true_and] at q
  rw[c1]
  refine iteF ⟨_,rfl,_,rfl,p,b,x,k,h,rfl,X.same s1,wf,hxl,s1.seq hb,fun H2 l2 s2 h2=>⟨l2,_,rfl,.inl (SqL.of h2),_,_,rfl,rfl,_,rfl,?_⟩⟩
  rw[ints_len]
  by_cases c2:unkeptOf k x=[]
  case neg =>
   have l2p:0 < (unkeptOf k x).length:=List.length_pos_iff.mpr c2
   rw[decide_eq_true (p:=(0:Int) < ((unkeptOf k x).length:Int)) (by omega)]
   rw[decide_eq_false c2,Bool.false_and] at q
   exact iteT (q _ (s1.trans s2))
  rw[decide_eq_true c2,Bool.true_and] at q
  rw[c2]
  have S2:=s1.trans s2
  refine iteF ⟨_,rfl,_,rfl,p,b,x,k,h,rfl,X.same S2,wf,hxl,S2.seq hb,fun H3 l3 s3 h3=>⟨l3,_,rfl,.inl (SqL.of h3),rfl,?_⟩⟩
  rw[ints_len,k1u]
  have e3:decide (((unbanOf k x).length:Int)=0)=decide (unbanOf k x=[]):=by
   by_cases c3:unbanOf k x=[]
   ·rw[c3];rfl
   ·have l3p:0 < (unbanOf k x).length:=List.length_pos_iff.mpr c3
    rw[decide_eq_false c3,decide_eq_false (by omega)]
  rw[e3]
  exact q _ (S2.trans s3)
abbrev s_fit_and_let:Stmt:=top 57
theorem sc_fit_and_let:FnScope ["held","counts"] ["held","counts"] (k0m s_fit_and_let):=⟨rfl,rfl,rfl,by decide +kernel,rfl,by decide +kernel,by decide +kernel⟩
theorem ok_fit_and_let (T:Txt K mg) (c:Cl K C) (D:Dfn K mg "fit_and_let" s_fit_and_let ["held","counts"]) (p_counts_fit:Prom P w K mg base 3 "counts_fit" ["held","start","counts"] (sp_from K C Vawctd.fitsFrom)) (p_is_let:Prom P w K mg base 3 "is_let" ["held","counts"] (sp_let K C isLet)):Prom P w K mg base 4 "fit_and_let" ["held","counts"] (sp_let K C isGood):=by
 refine D.prom sc_fit_and_let (fun vs H Q E h=>?_) (fun f cdv A outer s H vs Q E hr h=>?_)
 ·obtain⟨_,_,_,_,_,rfl,_⟩:=h
  rfl
 ·obtain⟨p,b,x,k,h,rfl,X,wf,hxl,hb,q⟩:=h
  refine⟨_,(k0j (k0q (pe_and (k0u p_counts_fit (hr.mono (by decide)) rfl (k0a (pv 0) (k0a k0n (k0a (pv 1) k0g)))) (pe_one (k0u p_is_let (hr.mono (by decide)) rfl (k0a (pv 0) (k0a (pv 1) k0g))))))),?_⟩
  have n2:=wf.n2
  have q:∀ H',Same H H'->Q (.bl (Vawctd.fitsFrom k x 0&&isLet k x)) H':=q
  refine⟨_,rfl,_,rfl,p,b,x,0,k,h,rfl,X,wf,hxl,by omega,hb,fun H1 s1=>⟨_,rfl,?_⟩⟩
  refine ite2 (fun h1=>?_) (fun h1=>?_)
  ·rw[h1] at q
   simp only[Bool.true_and] at q
   exact⟨_,rfl,_,rfl,p,b,x,k,h,rfl,X.same s1,wf,hxl,s1.seq hb,fun H2 s2=>q H2 (s1.trans s2)⟩
  ·rw[eq_false_of_ne_true h1] at q
   simp only[Bool.false_and] at q
   exact q H1 s1
abbrev s_widest_edge:Stmt:=top 75
theorem sc_widest_edge:FnScope ["box","widths","low","high"] ["box"] (k0m s_widest_edge):=⟨rfl,rfl,rfl,by decide +kernel,rfl,by decide +kernel,by decide +kernel⟩
def sp_widest:Sp:=fun vs H Q _=>∃ (t:Addr) (b:Box),vs=[.ref t]∧BoxAt H t b∧0 < b.length∧b.length≤1000∧∀ H',Same H H'->Q (.int ((widest b:Nat):Int)) H'
theorem ok_widest_edge (T:Txt K mg) (D:Dfn K mg "widest_edge" s_widest_edge ["box"]):Prom P w K mg base 1 "widest_edge" ["box"] sp_widest:=by
 refine D.prom sc_widest_edge (fun vs H Q E h=>?_) (fun f cdv A outer s H vs Q E hr h=>?_)
 ·obtain⟨_,_,rfl,_⟩:=h
  rfl
 ·obtain⟨t,b,rfl,⟨al,ah,ht,hal,hah⟩,hpos,hn,q⟩:=h
  refine⟨_,(k0e (ps_setLc (i:=1) (own:=[("low",2),("high",3)]) rfl sc_widest_edge.nd rfl rfl (sw_true rfl rfl rfl rfl) (pi_zipK K rfl rfl T.n_zip (k0a (pe_ix (ixK_tup K rfl) (pv 0) k0n (fun _ _=>rfl)) (k0a (pe_ix (ixK_tup K rfl) (pv 0) k0n (fun _ _=>rfl)) k0g))) (blkOk_by (by exact (show blkC ["box","widths","low","high"] (k0m s_widest_edge) _ _=true by decide +kernel))) (fun _ _ _ _ _=>(pg_tupK K (n:=2) rfl rfl (k1h (k1f (i:=2) sc_widest_edge.nd rfl (by first|exact Or.inl rfl|exact Or.inr rfl)) (k1h (k1f (i:=3) sc_widest_edge.nd rfl (by first|exact Or.inl rfl|exact Or.inr rfl)) pgs_nil)))) (fun _ _ _ _ _=>pts_nil) (fun _ _ _ _ _=>(pe_op op_sub (pv 3) (pv 2)))) (k0j (k0q (pe_bm PySem.F.plainAttrs_list PySem.F.slot_list_index PySem.F.type_list_index (mt_indexK K rfl) (pv 1) (k0a (k1a (maxK K rfl rfl) (by rfl) T.n_max b_max (k0a (pv 1) k0g)) k0g))))),?_⟩
  refine⟨_,rfl,t,_,_,_,rfl,rfl,SqT.of ht,k1n (j:=0) rfl,_,rfl,t,_,_,_,rfl,rfl,SqT.of ht,k1n (j:=1) rfl,al,ah,_,_,rfl,SqL.of hal,SqL.of hah,fun D hD=>lc_Z (xs:=(lows b).map V.int) (ys:=(highs b).map V.int) (onII fun a b=>some (.int (b - a))) hD (k1q (by rw[List.length_map,lows_len];exact hn)) (SqL.of hal) (SqL.of hah) (fun i x y H2 T Y N e1 e2 hS hT hY hN=>?_) (fun H2 hS hD2=>?_)⟩
  ·obtain⟨m,hm,rfl⟩:=get_int e1
   obtain⟨n,hn,rfl⟩:=get_int e2
   refine⟨T,_,rfl,SqT.of hT,rfl,_,_,rfl,_,_,rfl,rfl,rfl,?_⟩
   exact⟨_,rfl,_,rfl,_,_,rfl,rfl,hY _ _ rfl Same.rfl'⟩
  ·rw[fm_ints2 (lows b) (highs b) (fun a b=>b - a),zip_widths] at hD2
   refine⟨_,rfl,.inl ⟨rfl,_,SqL.of hD2⟩,_,rfl,D,_,rfl,SqL.of hD2,by rw[List.length_map];exact hpos,fun m hm1 hm2=>?_⟩
   obtain⟨w1,w2,w3⟩:=widest_spec hm1 hm2
   refine⟨D,_,.int m,widest b,.int m,rfl,rfl,SqL.of hD2,rfl,?_,by rw[List.getElem?_map,w1];rfl,?_,fun i z hi hz=>?_,q H2 hS⟩
   ·rw[List.all_eq_true]
    intro v hv
    obtain⟨n,_,rfl⟩:=List.mem_map.mp hv
    rfl
   ·show (m==m)=true
    simp
   ·obtain⟨n,hn',rfl⟩:=get_int hz
    have:=w2 i n hi hn'
    show (n==m)=false
    rw[beq_eq_false_iff_ne]
    exact this
abbrev s_settled:Stmt:=top 74
theorem sc_settled:FnScope ["held","outcome","counts"] ["held","outcome","counts"] (k0m s_settled):=⟨rfl,rfl,rfl,by decide +kernel,rfl,by decide +kernel,by decide +kernel⟩
def sp_settled (K:PySem.W.Frag) (C CO:Addr):Sp:=fun vs H Q _=>∃ (p o b:Addr) (x:Vawctd.Counts) (k:Known) (cs:List Int) (h:HA) (dx ac ap:Addr) (c n:Int),vs=[.ref p,.ref o,.ref b]∧HeldC C H p k cs h∧Wf k∧SmallC cs∧x.length=k.edges.length∧H o=some (.ins CO dx (ofl ac c n ap false))∧H b=some (.lst ((toInts x).map V.int)) ∧
 ∀ H',But o H H'->H' o=some (.ins CO dx (ofl (if isGood k x then b else ac) (if isGood k x then costBy cs x else c) n ap false))->Q (.int (if isGood k x then 1 else 2)) H'
theorem ok_settled (T:Txt K mg) (c:Cl K C) (co:ClO K CO) (D:Dfn K mg "settled" s_settled ["held","outcome","counts"]) (p_fit_and_let:Prom P w K mg base 4 "fit_and_let" ["held","counts"] (sp_let K C isGood)) (p_product_sum:Prom P w K mg base 1 "product_sum" ["multiples","counts"] (sp_product_sum K)):Prom P w K mg base 5 "settled" ["held","outcome","counts"] (sp_settled K C CO):=by
 refine D.prom sc_settled (fun vs H Q E h=>?_) (fun f cdv A outer s H vs Q E hr h=>?_)
 ·obtain⟨_,_,_,_,_,_,_,_,_,_,_,_,rfl,_⟩:=h
  rfl
 ·obtain⟨p,o,b,x,k,cs,h,dx,ac,ap,cc,n,rfl,X,wf,hsm,hxl,ho,hb,q⟩:=h
  refine⟨_,(k0e (ps_if (pt_not (k1r K rfl (k0u p_fit_and_let (hr.mono (by decide)) rfl (k0a (pv 0) (k0a (pv 2) k0g))) (fun _=>rfl))) (k0j (k0q (k0y rfl T.c_NO_WAY_THERE))) k0z) (k0e (ps_fld (pv 1) (pv 2) rfl) (k0e (ps_fld (pv 1) (k0u p_product_sum (hr.mono (by decide)) rfl (k0a (k0v K rfl (pv 0) rfl) (k0a (pv 2) k0g))) rfl) (k0j (k0q (k0y rfl T.c_BOUNDED)))))),?_⟩
  have e16:=wf.e16
  have po:=held_ne_out X.r.obj ho
  refine⟨_,rfl,_,rfl,p,b,x,k,h,rfl,X.r,wf,hxl,SqL.of hb,fun H1 s1=>⟨_,rfl,?_⟩⟩
  cases g:isGood k x with
  | false =>
   rw[g] at q
   exact iteT (q H1 (But.of s1) (s1 _ _ ho))
  | true =>
   rw[g] at q
   have o1:=s1 _ _ ho
   refine iteF ⟨_,rfl,_,rfl,o,CO,dx,_,rfl,o1,co.cl,co.counts,ofl_len,?_⟩
   rw[pfo_counts]
   have k2:But o H1 (upd H1 o (.ins CO dx (ofl b cc n ap false))):=fld_put
   have X2:=(X.same s1).but o1 po k2
   have b2:=k2.lst o1 (s1 _ _ hb)
   have o2:(upd H1 o (.ins CO dx (ofl b cc n ap false))) o=some (.ins CO dx (ofl b cc n ap false)):=k0f
   generalize upd H1 o (.ins CO dx (ofl b cc n ap false))=H2 at k2 X2 b2 o2
   refine⟨_,rfl,p,C,_,_,_,rfl,X2.r.obj,c.cl,c.costs,hf_costs,_,rfl,h.aK,b,cs,toInts x,rfl,SqL.of X2.co,SqL.of b2,k1q (by rw[X.clen];omega),(fun z hz=>by have:=hsm z hz;omega),fun H3 s3=>?_⟩
   have o3:=s3 _ _ o2
   refine⟨_,rfl,o,CO,dx,_,rfl,o3,co.cl,co.cost,ofl_len,?_⟩
   rw[pfo_cost,← costBy_dot]
   exact q _ ((But.of s1).trans (k2.trans ((But.of s3).trans fld_put))) k0f
end
end Ww
end
section
namespace Ww
open PySem PySem.Spec PyProof.Rows L2
open Vawctd (Known Edge Fact inRange toInts countsOf Box isEmptyBox isFixed Found isGood isLet fixedCounts widest costBy)
theorem BoxL.box {H:Hp} {t al ah:Addr} {b:Box} (x:BoxL H t al ah b):BoxAt H t b:=⟨al,ah,x.1,x.2.1,x.2.2⟩
theorem BoxL.same {H H':Hp} {t al ah:Addr} {b:Box} (s:Same H H') (x:BoxL H t al ah b):BoxL H' t al ah b:=⟨s _ _ x.1,s _ _ x.2.1,s _ _ x.2.2⟩
theorem BestAt.same {H H':Hp} {ac:Addr} {c:Int} {best:Option Found} (s:Same H H') (x:BestAt H ac c best):BestAt H' ac c best:=x.keep fun _ h=>s _ _ h
theorem after_not {k:Known} {cs:List Int} {best:Option Found} {b:Box} (h:settles k cs best b=false):bestAfter k cs best b=best:=by unfold bestAfter;rw[h];rfl
section
variable {P:Program} {w:World} {K:PySem.W.Frag} {mg:Str->Option Value} {base:Heap} {C CM CO:Addr}
abbrev s_step_of:Stmt:=top 73
theorem sc_step_of:FnScope ["held","measures","outcome","box","edge"] ["held","measures","outcome","box"] (k0m s_step_of):=⟨rfl,rfl,rfl,by decide +kernel,rfl,by decide +kernel,by decide +kernel⟩
def sp_step_of (K:PySem.W.Frag) (C CM CO:Addr):Sp:=fun vs H Q _=>∃ (p m o t al ah:Addr) (k:Known) (cs:List Int) (h:HA) (b:Box) (dx ac ap:Addr) (c n:Int) (best:Option Found),vs=[.ref p,.ref m,.ref o,.ref t]∧HeldC C H p k cs h∧MeasAt CM H m k cs∧Wf k∧SmallC cs ∧
 H o=some (.ins CO dx (ofl ac c n ap false))∧BestAt H ac c best∧BoxL H t al ah b∧BoxOk k.edges.length b ∧
 ∀ H' l ac' c',But o H H'->H l=none->H' o=some (.ins CO dx (ofl ac' c' n ap false))->BestAt H' ac' c' (bestAfter k cs best b)->(ac'=ac∨ac'=al)->H' l=some (.lst ((stepRow k cs best b).map V.int))->Q (.ref l) H'
theorem ok_step_of (T:Txt K mg) (c:Cl K C) (co:ClO K CO) (D:Dfn K mg "step_of" s_step_of ["held","measures","outcome","box"]) (p_is_empty:Prom P w K mg base 1 "is_empty" ["box"] sp_is_empty) (p_bound_of:Prom P w K mg base 1 "bound_of" ["measures","box"] (sp_bound_of CM)) (p_has_one_count_each:Prom P w K mg base 1 "has_one_count_each" ["box"] sp_has_one)
  (p_settled:Prom P w K mg base 5 "settled" ["held","outcome","counts"] (sp_settled K C CO)) (p_widest_edge:Prom P w K mg base 1 "widest_edge" ["box"] sp_widest):Prom P w K mg base 6 "step_of" ["held","measures","outcome","box"] (sp_step_of K C CM CO):=by
 refine D.prom sc_step_of (fun vs H Q E h=>?_) (fun f cdv A outer s H vs Q E hr h=>?_)
 ·obtain⟨_,_,_,_,_,_,_,_,_,_,_,_,_,_,_,_,rfl,_⟩:=h
  rfl
 ·obtain⟨p,m,o,t,al,ah,k,cs,h,b,dx,ac,ap,cc,n,best,rfl,X,M,wf,hsm,ho,hbest,hbox,hok,q⟩:=h
  refine⟨_,(k0e (ps_if (k1r K rfl (k0u p_is_empty (hr.mono (by decide)) rfl (k0a (pv 3) k0g)) (fun _=>rfl)) (k0j (k0q (k1g (k0a (k0y rfl T.c_EMPTY) k0g)))) k0z) (k0e (ps_if (PW.pt (pw_and (k0x op_gt (k1a (lenK K rfl) (by rfl) T.n_len PySem.boot_len (k0a (k0v K rfl (pv 2) rfl) k0g)) k0n (k1e _)) (pw_and1 (k0x op_le (k0u p_bound_of (hr.mono (by decide)) rfl (k0a (pv 1) (k0a (pv 3) k0g))) (k0v K rfl (pv 2) rfl) (k1e _))))) (k0j (k0q (k1g (k0a (k0y rfl T.c_BOUNDED) k0g)))) k0z) (k0e (ps_if (k1r K rfl (k0u p_has_one_count_each (hr.mono (by decide)) rfl (k0a (pv 3) k0g)) (fun _=>rfl)) (k0j (k0q (k1g (k0a (k0u p_settled (hr.mono (by decide)) rfl (k0a (pv 0) (k0a (pv 2) (k0a (pe_ix (ixK_tup K rfl) (pv 3) k0n (fun _ _=>rfl)) k0g)))) k0g)))) k0z) (k0e (k1m (i:=4) sc_step_of.nd rfl (Or.inl rfl) (k0u p_widest_edge (hr.mono (by decide)) rfl (k0a (pv 3) k0g))) (k0j (k0q (k1g (k0a (k0y rfl T.c_PARTED) (k0a (pv 4) (k0a (pe_op op_fdiv (pe_op op_add (pe_ix (k0w K rfl) (pe_ix (ixK_tup K rfl) (pv 3) k0n (fun _ _=>rfl)) (pv 4) (fun _ _=>rfl)) (pe_ix (k0w K rfl) (pe_ix (ixK_tup K rfl) (pv 3) k0n (fun _ _=>rfl)) (pv 4) (fun _ _=>rfl))) k0n) k0g)))))))))),?_⟩
  have e16:=wf.e16
  have e1:=wf.e1
  have hlen:=hok.len
  refine⟨_,rfl,t,b,rfl,hbox.box,by omega,fun H1 s1=>⟨_,rfl,?_⟩⟩
  cases h1:isEmptyBox b with
  | true =>
   have er:stepRow k cs best b=[0]:=by unfold stepRow;rw[h1];rfl
   have ea:bestAfter k cs best b=best:=after_not (by unfold settles;rw[h1];rfl)
   rw[er,ea] at q
   exact iteT ⟨(by show 1≤sizeLine;decide),fun r hr=>q _ r ac cc (But.of (s1.grow hr)) (s1.free hr) ((s1.grow hr) _ _ ho) (hbest.same (s1.grow hr)) (.inl rfl) k0f⟩
  | false =>
   refine iteF ?_
   have o1:=s1 _ _ ho
   have best1:=hbest.same s1
   obtain⟨xs,hxs⟩:=best1.get
   refine⟨_,rfl,o,CO,_,_,_,rfl,o1,co.cl,co.counts,ofl_counts,_,_,rfl,.inl (SqL.of hxs),_,_,rfl,rfl,_,rfl,?_⟩
   rcases best1 with ⟨be,bl,bc⟩|⟨fd,be,bl,bc,bp⟩
   ·have ex:xs=[]:=by rw[hxs] at bl;cases bl;rfl
    subst ex
    have nb:bounded k cs best b=false:=by rw[be];rfl
    have S2:Same H H1:=s1
    obtain⟨H2,eH2⟩:∃ H2,H2=H1:=⟨_,rfl⟩
    rw[← eH2] at S2
    refine iteF (iteF ?_)
    rw[← eH2]
    clear eH2 bl hxs o1 s1
    all_goals skip
    have o2:=S2 _ _ ho
    have best2:=hbest.same S2
    have box2:=hbox.same S2
    have X2:=X.same S2
    refine⟨_,rfl,t,b,rfl,box2.box,_,rfl,?_⟩
    cases h3:isFixed b with
    | true =>
     have er:stepRow k cs best b=[if isGood k (fixedCounts b) then 1 else 2]:=by
      unfold stepRow
      rw[h1,nb,h3]
      cases isGood k (fixedCounts b)<;>rfl
     have es:settles k cs best b=isGood k (fixedCounts b):=by unfold settles;rw[h1,nb,h3];rfl
     rw[er] at q
     refine iteT ⟨_,rfl,_,rfl,_,rfl,t,_,_,_,rfl,rfl,SqT.of box2.1,k1n (j:=0) rfl,p,o,al,fixedCounts b,k,cs,h,dx,ac,ap,cc,n,rfl,X2,wf,hsm,fixed_len hok,o2,(by rw[fixed_counts hok];exact box2.2.1),fun H3 k3 o3=>⟨(by show 1≤sizeLine;decide),fun r hr=>?_⟩⟩
     have kr:But o H (upd H3 r (.lst [.int (if isGood k (fixedCounts b) then 1 else 2)])):=(But.of S2).trans (k3.trans (But.of (Same.new hr)))
     have hrn:H r=none:=S2.free (k3.free o3 hr)
     refine q _ r _ _ kr hrn ((Same.new hr) _ _ o3) ?_ ?_ k0f
     ·unfold bestAfter
      rw[es]
      cases g:isGood k (fixedCounts b) with
      | true =>
       refine .inr ⟨_,rfl,?_,rfl,by rw[fixed_len hok];omega⟩
       refine (Same.new hr) _ _ ?_
       show H3 al=_
       rw[fixed_counts hok]
       exact k3.lst o2 box2.2.1
      | false =>
       exact best2.keep fun xs hx=>(Same.new hr) _ _ (k3.lst o2 hx)
     ·cases isGood k (fixedCounts b)
      ·exact .inl rfl
      ·exact .inr rfl
    | false =>
     have er:stepRow k cs best b=[3,(widest b:Int),mid b]:=by unfold stepRow;rw[h1,nb,h3];rfl
     have ea:bestAfter k cs best b=best:=after_not (by unfold settles;rw[h3];simp)
     rw[er,ea] at q
     obtain⟨w1,_,_⟩:=wide_ok hok (by omega) h1 h3
     have hz:=get_at (b:=b) (i:=widest b) (by omega)
     refine iteF ⟨_,rfl,t,b,rfl,box2.box,by omega,by omega,fun H3 s3=>?_⟩
     have box3:=box2.same s3
     have S3:=S2.trans s3
     refine⟨_,rfl,_,rfl,t,_,_,_,rfl,rfl,SqT.of box3.1,k1n (j:=0) rfl,_,rfl,al,_,_,_,rfl,rfl,SqL.of box3.2.1,at_int (lows_get hz),_,rfl,t,_,_,_,rfl,rfl,SqT.of box3.1,k1n (j:=1) rfl,_,rfl,ah,_,_,_,rfl,rfl,SqL.of box3.2.2,at_int (highs_get hz),_,_,rfl,rfl,_,_,rfl,rfl,⟨by decide,by decide⟩,(by show 3≤sizeLine;decide),fun r hr=>?_⟩
     exact q _ r ac cc (But.of (S3.grow hr)) (S3.free hr) ((S3.grow hr) _ _ ho) (hbest.same (S3.grow hr)) (.inl rfl) k0f
   ·have ex:xs=(toInts fd.counts).map V.int:=by rw[hxs] at bl;cases bl;rfl
    subst ex
    rw[ints_len,decide_eq_true (p:=(0:Int) < (fd.counts.length:Int)) (by omega)]
    refine iteT ⟨_,rfl,_,rfl,m,t,k,cs,b,rfl,M.same s1,wf,X.clen,hsm,(hbox.same s1).box,hlen,fun H2 s2=>?_⟩
    have S2:Same H H2:=s1.trans s2
    have o2:=S2 _ _ ho
    refine⟨_,rfl,o,CO,_,_,_,rfl,o2,co.cl,co.cost,ofl_cost,_,_,rfl,rfl,_,rfl,?_⟩
    have bd:bounded k cs best b=decide (Vawctd.boundOf k cs b≤cc):=by rw[be,bc];rfl
    rw[← bd]
    cases nb:bounded k cs best b with
    | true =>
     have er:stepRow k cs best b=[1]:=by unfold stepRow;rw[h1,nb];rfl
     have ea:bestAfter k cs best b=best:=after_not (by unfold settles;rw[nb];simp)
     rw[er,ea] at q
     exact iteT ⟨(by show 1≤sizeLine;decide),fun r hr=>q _ r ac cc (But.of (S2.grow hr)) (S2.free hr) ((S2.grow hr) _ _ ho) (hbest.same (S2.grow hr)) (.inl rfl) k0f⟩
    | false =>
     refine iteF ?_
     have best2:=hbest.same S2
     have box2:=hbox.same S2
     have X2:=X.same S2
     refine⟨_,rfl,t,b,rfl,box2.box,_,rfl,?_⟩
     cases h3:isFixed b with
     | true =>
      have er:stepRow k cs best b=[if isGood k (fixedCounts b) then 1 else 2]:=by
       unfold stepRow
       rw[h1,nb,h3]
       cases isGood k (fixedCounts b)<;>rfl
      have es:settles k cs best b=isGood k (fixedCounts b):=by unfold settles;rw[h1,nb,h3];rfl
      rw[er] at q
      refine iteT ⟨_,rfl,_,rfl,_,rfl,t,_,_,_,rfl,rfl,SqT.of box2.1,k1n (j:=0) rfl,p,o,al,fixedCounts b,k,cs,h,dx,ac,ap,cc,n,rfl,X2,wf,hsm,fixed_len hok,o2,(by rw[fixed_counts hok];exact box2.2.1),fun H3 k3 o3=>⟨(by show 1≤sizeLine;decide),fun r hr=>?_⟩⟩
      have kr:But o H (upd H3 r (.lst [.int (if isGood k (fixedCounts b) then 1 else 2)])):=(But.of S2).trans (k3.trans (But.of (Same.new hr)))
      have hrn:H r=none:=S2.free (k3.free o3 hr)
      refine q _ r _ _ kr hrn ((Same.new hr) _ _ o3) ?_ ?_ k0f
      ·unfold bestAfter
       rw[es]
       cases g:isGood k (fixedCounts b) with
       | true =>
        refine .inr ⟨_,rfl,?_,rfl,by rw[fixed_len hok];omega⟩
        refine (Same.new hr) _ _ ?_
        show H3 al=_
        rw[fixed_counts hok]
        exact k3.lst o2 box2.2.1
       | false =>
        exact best2.keep fun xs hx=>(Same.new hr) _ _ (k3.lst o2 hx)
      ·cases isGood k (fixedCounts b)
       ·exact .inl rfl
       ·exact .inr rfl
     | false =>
      have er:stepRow k cs best b=[3,(widest b:Int),mid b]:=by unfold stepRow;rw[h1,nb,h3];rfl
      have ea:bestAfter k cs best b=best:=after_not (by unfold settles;rw[h3];simp)
      rw[er,ea] at q
      obtain⟨w1,_,_⟩:=wide_ok hok (by omega) h1 h3
      have hz:=get_at (b:=b) (i:=widest b) (by omega)
      refine iteF ⟨_,rfl,t,b,rfl,box2.box,by omega,by omega,fun H3 s3=>?_⟩
      have box3:=box2.same s3
      have S3:=S2.trans s3
      refine⟨_,rfl,_,rfl,t,_,_,_,rfl,rfl,SqT.of box3.1,k1n (j:=0) rfl,_,rfl,al,_,_,_,rfl,rfl,SqL.of box3.2.1,at_int (lows_get hz),_,rfl,t,_,_,_,rfl,rfl,SqT.of box3.1,k1n (j:=1) rfl,_,rfl,ah,_,_,_,rfl,rfl,SqL.of box3.2.2,at_int (highs_get hz),_,_,rfl,rfl,_,_,rfl,rfl,⟨by decide,by decide⟩,(by show 3≤sizeLine;decide),fun r hr=>?_⟩
      exact q _ r ac cc (But.of (S3.grow hr)) (S3.free hr) ((S3.grow hr) _ _ ho) (hbest.same (S3.grow hr)) (.inl rfl) k0f
abbrev s_init_Outcome:Stmt:=inClass (top 71) 0
theorem sc_init_Outcome:FnScope ["self"] ["self"] (k0m s_init_Outcome):=⟨rfl,rfl,rfl,by decide +kernel,rfl,by decide +kernel,by decide +kernel⟩
def sp_init_Outcome (CO:Addr):Sp:=fun vs H Q _=>∃ (o dx:Addr),vs=[.ref o]∧H o=some (.ins CO dx [])∧∀ (H':Hp) (ac ap:Addr),H' o=some (.ins CO dx (ofl ac 0 0 ap false))->H' ac=some (.lst [])->H' ap=some (.lst [])->ac≠ap->H ac=none->H ap=none->But o H H'->Q .non H'
theorem ok_init_Outcome {f:Addr} {fd:FuncData} (co:ClO K CO) (F:Fun K "__init__" "Outcome.__init__" s_init_Outcome f fd):FnOk P w K mg base CX0 1 f fd ["self"] (sp_init_Outcome CO):=by
 refine F.ok sc_init_Outcome (fun vs H Q E h=>?_) (fun cdv A outer s H0 vs Q E hr h=>?_)
 ·obtain⟨_,_,rfl,_⟩:=h
  rfl
 ·obtain⟨o,dx,rfl,o0,q⟩:=h
  refine⟨_,(k0e (ps_fld (pv 0) (k1g k0g) rfl) (k0e (ps_fld (pv 0) k0n rfl) (k0e (ps_fld (pv 0) k0n rfl) (k0e (ps_fld (pv 0) (k1g k0g) rfl) (k0j (ps_fld (pv 0) pe_bl rfl)))))),?_⟩
  refine⟨Nat.zero_le _,fun l1 hl1=>⟨_,rfl,o,CO,dx,_,rfl,(by rw[k0p (k0h o0 hl1)];exact o0),co.cl,co.counts,(by show 0 < 1000;decide),?_⟩⟩
  obtain⟨k1,o1,v1,n1⟩:=fld_new (fs':=putF ("counts":Str) (.ref l1) []) (v:=[]) o0 hl1
  generalize hH1:upd (upd H0 l1 (.lst [])) o (.ins CO dx (putF ("counts":Str) (.ref l1) []))=H1 at k1 o1 v1
  rw[putF_end] at o1
  refine⟨_,rfl,o,CO,dx,_,rfl,o1,co.cl,co.cost,(by show 1 < 1000;decide),?_⟩
  rw[k0r (by decide +kernel),putF_end]
  generalize hH2:upd H1 o (.ins CO dx [(("counts":Str),V.ref l1),("cost",.int 0)])=H2
  have k2:But o H1 H2:=by rw[← hH2];exact fld_put
  have o2:H2 o=some (.ins CO dx [(("counts":Str),V.ref l1),("cost",.int 0)]):=by rw[← hH2];exact k0f
  refine⟨_,rfl,o,CO,dx,_,rfl,o2,co.cl,co.taken,(by show 2 < 1000;decide),?_⟩
  rw[k0r (by decide +kernel),k0r (by decide +kernel),putF_end]
  generalize hH3:upd H2 o (.ins CO dx [(("counts":Str),V.ref l1),("cost",.int 0),("taken",.int 0)])=H3
  have k3:But o H2 H3:=by rw[← hH3];exact fld_put
  have o3:H3 o=some (.ins CO dx [(("counts":Str),V.ref l1),("cost",.int 0),("taken",.int 0)]):=by rw[← hH3];exact k0f
  refine⟨Nat.zero_le _,fun l4 hl4=>⟨_,rfl,o,CO,dx,_,rfl,(by rw[k0p (k0h o3 hl4)];exact o3),co.cl,co.proof,(by show 3 < 1000;decide),?_⟩⟩
  obtain⟨k4,o4,v4,n4⟩:=fld_new (fs':=putF ("proof":Str) (.ref l4) [(("counts":Str),V.ref l1),("cost",.int 0),("taken",.int 0)]) (v:=[]) o3 hl4
  generalize hH4:upd (upd H3 l4 (.lst [])) o (.ins CO dx (putF ("proof":Str) (.ref l4) [(("counts":Str),V.ref l1),("cost",.int 0),("taken",.int 0)]))=H4 at k4 o4 v4
  rw[k0r (by decide +kernel),k0r (by decide +kernel),k0r (by decide +kernel),putF_end] at o4
  refine⟨_,rfl,o,CO,dx,_,rfl,o4,co.cl,co.broken,(by show 4 < 1000;decide),?_⟩
  rw[k0r (by decide +kernel),k0r (by decide +kernel),k0r (by decide +kernel),k0r (by decide +kernel),putF_end]
  have k5:But o H4 (upd H4 o (.ins CO dx [(("counts":Str),V.ref l1),("cost",.int 0),("taken",.int 0),("proof",.ref l4),("broken",.bl false)])):=fld_put
  have v13:=k3.lst o2 (k2.lst o1 v1)
  have k03:But o H0 H3:=k1.trans (k2.trans k3)
  refine q _ l1 l4 k0f (k5.lst o4 (k4.lst o3 v13)) (k5.lst o4 v4) (k0h v13 hl4) hl1 (k03.free o3 hl4) (k03.trans (k4.trans k5))
end
end Ww
end
section
namespace Ww
open PySem PySem.Spec PyProof.Rows L2
open Vawctd (Known Edge Fact inRange toInts countsOf Box isEmptyBox isFixed Found isGood isLet fixedCounts widest costBy)
def Keep3 (o a w:Addr) (H H':Hp):Prop:=∀ x ob,H x=some ob->x≠o->x≠a->x≠w->H' x=some ob
theorem Keep3.trans {o a w:Addr} {H H1 H2:Hp} (k:Keep3 o a w H H1) (l:Keep3 o a w H1 H2):Keep3 o a w H H2:=fun x ob e n1 n2 n3=>l x ob (k x ob e n1 n2 n3) n1 n2 n3
theorem Keep3.of {o a w:Addr} {H H':Hp} (s:Same H H'):Keep3 o a w H H':=fun x ob e _ _ _=>s x ob e
theorem Keep3.but {o a w:Addr} {H H':Hp} (k:But o H H'):Keep3 o a w H H':=fun x ob e n _ _=>k x ob e n
theorem Keep3.put2 {o a w:Addr} {H:Hp} {ob:HO}:Keep3 o a w H (upd H a ob):=fun x _ e _ n _=>by rw[k0p n];exact e
theorem Keep3.put3 {o a w:Addr} {H:Hp} {ob:HO}:Keep3 o a w H (upd H w ob):=fun x _ e _ _ n=>by rw[k0p n];exact e
theorem Keep3.same {o a w:Addr} {H0 H H':Hp} (k:Keep3 o a w H H') (s:Same H0 H) (ho:H0 o=none) (ha:H0 a=none) (hw:H0 w=none):Same H0 H':=fun x ob e =>
 k x ob (s x ob e) (k0h e ho) (k0h e ha) (k0h e hw)
def Far (a w x:Addr):Prop:=x≠a∧x≠w
theorem BoxIn.keep {o a w t CO dx:Addr} {H H':Hp} {fs:List (Str × V)} {xs ys:List V} {b:Box} (ho:H o=some (.ins CO dx fs)) (ha:H a=some (.lst xs)) (hw:H w=some (.lst ys)) (k:Keep3 o a w H H') (x:BoxIn (Far a w) H t b):BoxIn (Far a w) H' t b:=by
 obtain⟨al,ah,r1,r2,h1,h2,h3⟩:=x
 exact⟨al,ah,r1,r2,k _ _ h1 (ne_of h1 ho (by intro q;cases q)) (ne_of h1 ha (by intro q;cases q)) (ne_of h1 hw (by intro q;cases q)),k _ _ h2 (ne_of h2 ho (by intro q;cases q)) r1.1 r1.2,k _ _ h3 (ne_of h3 ho (by intro q;cases q)) r2.1 r2.2⟩
def Waits (R:Addr->Prop) (n:Nat) (H:Hp) (ts:List Addr) (bs:List Box):Prop:=Row (fun t b=>BoxIn R H t b∧BoxOk n b) ts bs
theorem last_get {ts:List Addr} {t:Addr}:((ts++[t]).map V.ref)[((ts++[t]).map V.ref).length - 1]?=some (.ref t):=by simp
theorem last_drop {ts:List Addr} {t:Addr}:((ts++[t]).map V.ref).dropLast=ts.map V.ref:=by simp
def takenLeft (x:Option HO):Nat:=match x with
 | some (.ins _ _ fs)=>match fs.lookup ("taken":Str) with
  | some (.int n)=>400 - n.toNat
  | _=>0
 | _=>0
theorem takenLeft_is {CO dx ac ap:Addr} {c:Int} {n:Nat} {br:Bool}:takenLeft (some (.ins CO dx (ofl ac c (n:Int) ap br)))=400 - n:=by
 unfold takenLeft
 dsimp only
 rw[ofl_taken]
 rfl
def OutAt (CO:Addr) (H:Hp) (o:Addr) (r:Vawctd.Result):Prop:=∃ (dx ac ap:Addr) (c:Int),H o=some (.ins CO dx (ofl ac c (r.taken:Int) ap r.broken))∧BestAt H ac c r.best∧H ap=some (.lst (r.proof.map V.int))
theorem OutAt.same {CO:Addr} {H H':Hp} {o:Addr} {r:Vawctd.Result} (s:Same H H') (x:OutAt CO H o r):OutAt CO H' o r:=by
 obtain⟨dx,ac,ap,c,h1,h2,h3⟩:=x
 exact⟨dx,ac,ap,c,s _ _ h1,h2.same s,s _ _ h3⟩
theorem fin_ints (l:List Int) (m:List Int):l.map V.int++m.map V.int=(l++m).map V.int:=by rw[List.map_append]
section
variable {P:Program} {w:World} {K:PySem.W.Frag} {mg:Str->Option Value} {base:Heap} {C CM CO:Addr}
abbrev s_search:Stmt:=top 72
theorem sc_search:FnScope ["held","measures","outcome","waiting","box","step"] ["held"] (k0m s_search):=⟨rfl,rfl,rfl,by decide +kernel,rfl,by decide +kernel,by decide +kernel⟩
def sp_search (C CO:Addr):Sp:=fun vs H Q _=>∃ (p:Addr) (k:Known) (cs:List Int) (h:HA),vs=[.ref p]∧HeldC C H p k cs h∧Wf k∧SmallC cs ∧
 ∀ H' o,Same H H'->OutAt CO H' o (Vawctd.search k cs)->GoodBest k (Vawctd.search k cs).best->(Vawctd.search k cs).taken≤400->(Vawctd.search k cs).proof.length≤1200->Q (.ref o) H'
theorem ok_search {fM fO:Addr} {fdM fdO:FuncData} (T:Txt K mg) (c:Cl K C) (cm:ClM K CM) (co:ClO K CO) (D:Dfn K mg "search" s_search ["held"]) (M_Measures:Mk K CM fM) (G_Measures:FnOk P w K mg base CX0 3 fM fdM ["self","held"] (sp_init_Measures C CM)) (m_Measures:mg "Measures"=some (.ref CM)) (b_Measures:Binds K fdM ["self","held"] [])
  (M_Outcome:Mk K CO fO) (G_Outcome:FnOk P w K mg base CX0 1 fO fdO ["self"] (sp_init_Outcome CO)) (m_Outcome:mg "Outcome"=some (.ref CO)) (b_Outcome:Binds K fdO ["self"] [])
  (p_whole_box:Prom P w K mg base 1 "whole_box" ["held"] (sp_whole_box C)) (p_tightened:Prom P w K mg base 3 "tightened" ["measures","box"] (sp_tightened CM)) (p_step_of:Prom P w K mg base 6 "step_of" ["held","measures","outcome","box"] (sp_step_of K C CM CO)) (p_parts_of:Prom P w K mg base 1 "parts_of" ["measures","box","edge","m"] (sp_parts_of CM)):Prom P w K mg base 7 "search" ["held"] (sp_search C CO):=by
 refine D.prom sc_search (fun vs H Q E h=>?_) (fun f cdv A outer s H vs Q E hr h=>?_)
 ·obtain⟨_,_,_,_,rfl,_⟩:=h
  rfl
 ·obtain⟨p,k,cs,h,rfl,X,wf,hsm,q⟩:=h
  refine⟨_,(k0e (k1m (i:=1) sc_search.nd rfl (Or.inl rfl) (pe_make M_Measures G_Measures (hr.mono (by decide)) rfl m_Measures b_Measures .nil pass0 (k0a (pv 0) k0g))) (k0e (k1m (i:=2) sc_search.nd rfl (Or.inl rfl) (pe_make0 M_Outcome G_Outcome (hr.mono (by decide)) rfl m_Outcome b_Outcome .nil pass0)) (k0e (k1m (i:=3) sc_search.nd rfl (Or.inl rfl) (k1g (k0a (k0u p_whole_box (hr.mono (by decide)) rfl (k0a (pv 0) k0g)) k0g))) (k0e (ps_while PassesOwn.never (PW.pt (pw_and (k0x op_gt (k1a (lenK K rfl) (by rfl) T.n_len PySem.boot_len (k0a (pv 3) k0g)) k0n (k1e _)) (pw_and1 (k0x op_lt (k0v K rfl (pv 2) rfl) (k0y rfl T.c_MOST_TAKEN) (k1e _))))) (k0e (k1m (i:=4) sc_search.nd rfl (Or.inl rfl) (k0u p_tightened (hr.mono (by decide)) rfl (k0a (pv 1) (k0a (pe_bm0 PySem.F.plainAttrs_list PySem.F.slot_list_pop PySem.F.type_list_pop mt_pop (pv 3)) k0g)))) (k0e (ps_fldaug (pv 2) k0n in_add) (k0e (k1m (i:=5) sc_search.nd rfl (Or.inl rfl) (k0u p_step_of (hr.mono (by decide)) rfl (k0a (pv 0) (k0a (pv 1) (k0a (pv 2) (k0a (pv 4) k0g)))))) (k0e (ps_expr (pe_bm PySem.F.plainAttrs_list PySem.F.slot_list_extend PySem.F.type_list_extend mt_extend (k0v K rfl (pv 2) rfl) (k0a (pv 5) k0g))) (k0j (ps_if (k0x op_eq (pe_ix (k0w K rfl) (pv 5) k0n (fun _ _=>rfl)) (k0y rfl T.c_PARTED) (k1e _)) (k0j (ps_expr (pe_bm PySem.F.plainAttrs_list PySem.F.slot_list_extend PySem.F.type_list_extend mt_extend (pv 3) (k0a (k0u p_parts_of (hr.mono (by decide)) rfl (k0a (pv 1) (k0a (pv 4) (k0a (pe_ix (k0w K rfl) (pv 5) k0n (fun _ _=>rfl)) (k0a (pe_ix (k0w K rfl) (pv 5) k0n (fun _ _=>rfl)) k0g))))) k0g)))) k0z))))))) (k0e (ps_fld (pv 2) (pe_cmpR op_gt (k1a (lenK K rfl) (by rfl) T.n_len PySem.boot_len (k0a (pv 3) k0g)) k0n (k1e _)) rfl) (k0j (k0q (pv 2)))))))),?_⟩
  have e1:=wf.e1
  have e16:=wf.e16
  have fml:∀ f∈k.facts,f.mults.length=k.edges.length:=fun f hf=>(wf.fm f hf).1
  refine⟨_,rfl,fun m dx hm hdx hne=>?_⟩
  have s0:Same H (upd (upd H dx (.own m)) m (.ins CM dx [])):=fun b o e=>by rw[k0p (k0h e hm),k0p (k0h e hdx)];exact e
  refine⟨m,dx,p,k,cs,h,rfl,k0f,X.same s0,wf,fun H1 M1 b1=>⟨rfl,?_⟩⟩
  have S1:Same H H1:=fun b o e=>b1 b o (s0 b o e) (k0h e hm)
  intro o dxo ho hdxo hneo
  refine⟨o,dxo,rfl,k0f,fun H2 ac ap o2 hac hap nap nac nap1 b2=>⟨rfl,?_⟩⟩
  have s1':Same H1 (upd (upd H1 dxo (.own o)) o (.ins CO dxo [])):=fun b x e=>by rw[k0p (k0h e ho),k0p (k0h e hdxo)];exact e
  have S2:Same H1 H2:=fun b x e=>b2 b x (s1' b x e) (k0h e ho)
  have ap1:H1 ap=none:=s1'.free nap1
  refine⟨_,rfl,p,k,h,rfl,(X.same (S1.trans S2)).r,wf,fun H3 t0 s3 hb0=>⟨(by show 1≤sizeLine;decide),fun wt hwt=>?_⟩⟩
  have S3:=S2.trans s3
  have wt1:H1 wt=none:=S3.free hwt
  have o3:=s3 _ _ o2
  have ap3:=s3 _ _ hap
  have ac3:=s3 _ _ hac
  have now:wt≠ap:=fun e=>by rw[e,ap3] at hwt;cases hwt
  have nowc:ac≠wt:=fun e=>by rw[← e,ac3] at hwt;cases hwt
  have nt0:Same H3 (upd H3 wt (.lst [.ref t0])):=Same.new hwt
  have fin:∀ (G:Hp) (v4 v5:Option V) (ac:Addr) (c:Int) (n:Nat) (pf:List Int) (best:Option Found) (ts:List Addr) (bs:List Box),Same H1 G->G o=some (.ins CO dxo (ofl ac c (n:Int) ap false))->G ap=some (.lst (pf.map V.int))->BestAt G ac c best->G wt=some (.lst (ts.map V.ref)) ->
    ts.length=bs.length->GoodBest k best->n≤400->pf.length≤3*n->Vawctd.search k cs=Vawctd.searchFrom k cs (400 - n) bs.reverse best pf.reverse n->(bs=[]∨n=400) ->
    Q (.ref o) (upd G o (.ins CO dxo (putF ("broken":Str) (.bl (decide ((0:Int) < ((ts.map V.ref).length:Int)))) (ofl ac c (n:Int) ap false)))):=by
   intro G v4 v5 ac c n pf best ts bs s5 g1 g2 g3 g4 hl hg hn hp he hend
   have er:=search_end k cs (400 - n) bs.reverse best pf.reverse n (by
    rcases hend with e|e
    ·left;rw[e];rfl
    ·right;omega)
   rw[er,List.reverse_reverse,List.length_reverse] at he
   have hS:Same H (upd G o (.ins CO dxo (putF ("broken":Str) (.bl (decide ((0:Int) < ((ts.map V.ref).length:Int)))) (ofl ac c (n:Int) ap false)))):=S1.trans (s5.put ho)
   refine q _ o hS ?_ (by rw[he];exact hg) (by rw[he];exact hn) (by rw[he];show pf.length≤1200;omega)
   rw[he]
   obtain⟨xs,hx⟩:=g3.get
   refine⟨dxo,ac,ap,c,?_,g3.keep fun ys hy=>by rw[k0p (ne_of hy g1 (by intro q;cases q))];exact hy,by rw[k0p (ne_of g2 g1 (by intro q;cases q))];exact g2⟩
   rw[k0f,pfo_broken,List.length_map,hl]
   have:decide ((0:Int) < (bs.length:Int))=decide (0 < bs.length):=by
    by_cases z:0 < bs.length
    ·rw[decide_eq_true z,decide_eq_true (by omega)]
    ·rw[decide_eq_false z,decide_eq_false (by omega)]
   rw[this]
  refine while_by (fun σ G=>∃ (v4 v5:Option V) (ac:Addr) (c:Int) (n:Nat) (pf:List Int) (best:Option Found) (ts:List Addr) (bs:List Box),σ=[some (.ref p),some (.ref m),some (.ref o),some (.ref wt),v4,v5]∧Same H1 G∧G o=some (.ins CO dxo (ofl ac c (n:Int) ap false))∧G ap=some (.lst (pf.map V.int)) ∧
    BestAt G ac c best∧Far ap wt ac∧G wt=some (.lst (ts.map V.ref))∧Waits (Far ap wt) k.edges.length G ts bs∧GoodBest k best∧n≤400∧pf.length≤3*n∧ts.length≤n+1∧Vawctd.search k cs=Vawctd.searchFrom k cs (400 - n) bs.reverse best pf.reverse n)
   (fun σ G=>takenLeft (G o)) ⟨none,none,ac,0,0,[],none,[t0],[Vawctd.wholeBox k],rfl,S3.trans nt0,nt0 _ _ o3,nt0 _ _ ap3,.inl ⟨rfl,nt0 _ _ ac3,rfl⟩,⟨nap,nowc⟩,k0f,?_,⟨fun f hf=>by cases hf⟩,by omega,by simp,by simp,rfl⟩ ?_ ?_
  ·refine .cons ⟨?_,whole_ok fun d hd=>(wf.ed d hd).2.2.2⟩ .nil
   obtain⟨al,ah,n1,n2,h1,h2,h3⟩:=hb0
   have far:∀ x xs,H3 x=some (.lst xs)->H2 x=none->Far ap wt x:=fun x xs e n=>⟨(fun z=>by rw[z,hap] at n;cases n),(fun z=>by rw[z,hwt] at e;cases e)⟩
   exact⟨al,ah,far al _ h2 n1,far ah _ h3 n2,nt0 _ _ h1,nt0 _ _ h2,nt0 _ _ h3⟩
  ·rintro σ G ⟨v4,v5,ac,c,n,pf,best,ts,bs,rfl,s5,g1,g2,g3,gf,g4,gw,gg,hn,hp,htl,he⟩
   have rl:ts.length=bs.length:=gw.length
   refine⟨_,rfl,wt,_,rfl,.inl (SqL.of g4),_,_,rfl,rfl,_,rfl,?_⟩
   rcases List.eq_nil_or_concat ts with et|⟨ts0,t,et⟩
   ·subst et
    have eb:bs=[]:=List.eq_nil_of_length_eq_zero rl.symm
    refine iteF (iteF ?_)
    refine⟨_,rfl,wt,_,rfl,.inl (SqL.of g4),_,_,rfl,rfl,_,rfl,o,CO,dxo,_,rfl,g1,co.cl,co.broken,ofl_len,_,rfl,?_⟩
    exact fin G v4 v5 ac c n pf best [] bs s5 g1 g2 g3 g4 rl gg hn hp he (.inl eb)
   rw[List.concat_eq_append] at et
   subst et
   rw[decide_eq_true (p:=(0:Int) < (((ts0++[t]).map V.ref).length:Int)) (by simp)]
   refine iteT ⟨_,rfl,o,CO,_,_,_,rfl,g1,co.cl,co.taken,ofl_taken,_,_,rfl,rfl,_,rfl,?_⟩
   by_cases h400:n < 400
   case neg =>
    rw[decide_eq_false (p:=(n:Int) < 400) (by omega)]
    refine iteF ?_
    refine⟨_,rfl,wt,_,rfl,.inl (SqL.of g4),_,_,rfl,rfl,_,rfl,o,CO,dxo,_,rfl,g1,co.cl,co.broken,ofl_len,_,rfl,?_⟩
    exact fin G v4 v5 ac c n pf best (ts0++[t]) bs s5 g1 g2 g3 g4 rl gg hn hp he (.inr (by omega))
   rw[decide_eq_true (p:=(n:Int) < 400) (by omega)]
   obtain⟨bs0,b,eb,gw0,gb,gok⟩:=gw.last
   subst eb
   have e400:400 - n=(400 - (n+1))+1:=by omega
   rw[e400,List.reverse_append] at he
   have he:Vawctd.search k cs=Vawctd.searchFrom k cs ((400 - (n+1))+1) (b::bs0.reverse) best pf.reverse n:=he
   rw[search_step] at he
   refine iteT ⟨_,rfl,_,rfl,.inl ⟨rfl,_,SqL.of g4⟩,wt,_,_,rfl,rfl,g4,last_get,?_⟩
   rw[last_drop]
   have kA:Keep3 o ap wt G (upd G wt (.lst (ts0.map V.ref))):=Keep3.put3
   have sA:Same H1 (upd G wt (.lst (ts0.map V.ref))):=s5.put wt1
   have bA:=(gb.keep g1 g2 g4 kA).box
   refine⟨m,t,k,cs,b,rfl,M1.same sA,wf,bA,gok.len,fun GB t2 sB hb2=>?_⟩
   have kB:Keep3 o ap wt G GB:=kA.trans (Keep3.of sB)
   have SB:Same H1 GB:=sA.trans sB
   have now1:o≠wt:=ne_of g1 g4 (by intro q;cases q)
   have now2:o≠ap:=ne_of g1 g2 (by intro q;cases q)
   have oB:GB o=some (.ins CO dxo (ofl ac c (n:Int) ap false)):=sB _ _ (by rw[k0p now1];exact g1)
   have apB:GB ap=some (.lst (pf.map V.int)):=sB _ _ (by rw[k0p (Ne.symm now)];exact g2)
   have wtB:GB wt=some (.lst (ts0.map V.ref)):=sB _ _ k0f
   have tok:=tighten_ok fml gok
   generalize Vawctd.tighten k b=tb at hb2 tok he
   obtain⟨al,ah,na,nh,q1,q2,q3⟩:=hb2
   have far:∀ x,(upd G wt (.lst (ts0.map V.ref))) x=none->Far ap wt x:=fun x e=>⟨(fun z=>by rw[z,k0p (Ne.symm now),g2] at e;cases e),(fun z=>by rw[z,k0f] at e;cases e)⟩
   have fal:=far al na
   have fah:=far ah nh
   refine⟨_,rfl,o,CO,dxo,_,_,rfl,oB,co.cl,co.taken,ofl_taken,_,_,rfl,rfl,dxo,_,oB,ofl_len,?_⟩
   have ptk:putF ("taken":Str) (.int ((n:Int)+1)) (ofl ac c (n:Int) ap false)=ofl ac c ((n+1:Nat):Int) ap false:=pfo_taken
   rw[ptk]
   have kC:But o GB (upd GB o (.ins CO dxo (ofl ac c ((n+1:Nat):Int) ap false))):=fld_put
   have SC:Same H1 (upd GB o (.ins CO dxo (ofl ac c ((n+1:Nat):Int) ap false))):=SB.put ho
   have oC:(upd GB o (.ins CO dxo (ofl ac c ((n+1:Nat):Int) ap false))) o=some (.ins CO dxo (ofl ac c ((n+1:Nat):Int) ap false)):=k0f
   generalize upd GB o (.ins CO dxo (ofl ac c ((n+1:Nat):Int) ap false))=GC at kC SC oC
   have kC3:Keep3 o ap wt G GC:=kB.trans (Keep3.but kC)
   have bestC:BestAt GC ac c best:=g3.keep fun xs hx=>kC3 _ _ hx (ne_of hx g1 (by intro q;cases q)) gf.1 gf.2
   have boxC:BoxL GC t2 al ah tb:=⟨kC.tup oB q1,kC.lst oB q2,kC.lst oB q3⟩
   refine⟨_,rfl,_,rfl,_,rfl,_,rfl,p,m,o,t2,al,ah,k,cs,h,tb,dxo,ac,ap,c,_,best,rfl,X.same (S1.trans SC),M1.same SC,wf,hsm,oC,bestC,boxC,tok,fun GD l4 ac4 c4 kD nl4 oD bestD hac4 hl4=>?_⟩
   have kD3:Keep3 o ap wt G GD:=kC3.trans (Keep3.but kD)
   have SD:Same H1 GD:=kD3.same s5 ho ap1 wt1
   have apC:=kC.lst oB apB
   have wtC:=kC.lst oB wtB
   have apD:=kD.lst oC apC
   have wtD:=kD.lst oC wtC
   have boxD:BoxL GD t2 al ah tb:=⟨kD.tup oC boxC.1,kD.lst oC boxC.2.1,kD.lst oC boxC.2.2⟩
   have fac4:Far ap wt ac4:=by
    rcases hac4 with e|e
    ·rw[e];exact gf
    ·rw[e];exact fal
   have nl4a:l4≠ap:=fun e=>by rw[e,apC] at nl4;cases nl4
   have nl4w:l4≠wt:=fun e=>by rw[e,wtC] at nl4;cases nl4
   have sl:=step_len k cs best tb
   have gg':=best_good (cs:=cs) gg tok
   have nok:=new_ok (cs:=cs) (best:=best) tok (by omega)
   refine⟨_,rfl,o,CO,_,_,_,rfl,oD,co.cl,co.proof,ofl_proof,.inl ⟨rfl,_,SqL.of apD⟩,_,rfl,ap,l4,_,_,rfl,rfl,apD,hl4,(by rw[List.length_map,List.length_map];exact Nat.le_trans (show pf.length+(stepRow k cs best tb).length≤1203 by omega) (by decide)),?_⟩
   rw[fin_ints]
   have kE3:Keep3 o ap wt G (upd GD ap (.lst ((pf++stepRow k cs best tb).map V.int))):=kD3.trans Keep3.put2
   have oE:(upd GD ap (.lst ((pf++stepRow k cs best tb).map V.int))) o=some (.ins CO dxo (ofl ac4 c4 ((n+1:Nat):Int) ap false)):=by rw[k0p now2];exact oD
   have wtE:(upd GD ap (.lst ((pf++stepRow k cs best tb).map V.int))) wt=some (.lst (ts0.map V.ref)):=by rw[k0p now];exact wtD
   have l4E:(upd GD ap (.lst ((pf++stepRow k cs best tb).map V.int))) l4=some (.lst ((stepRow k cs best tb).map V.int)):=by rw[k0p nl4a];exact hl4
   have apE:(upd GD ap (.lst ((pf++stepRow k cs best tb).map V.int))) ap=some (.lst ((pf++stepRow k cs best tb).map V.int)):=k0f
   have bestE:BestAt (upd GD ap (.lst ((pf++stepRow k cs best tb).map V.int))) ac4 c4 (bestAfter k cs best tb):=bestD.keep fun xs hx=>by rw[k0p fac4.1];exact hx
   have boxE:BoxL (upd GD ap (.lst ((pf++stepRow k cs best tb).map V.int))) t2 al ah tb:=⟨by rw[k0p (ne_of boxD.1 apD (by intro q;cases q))];exact boxD.1,by rw[k0p fal.1];exact boxD.2.1,by rw[k0p fah.1];exact boxD.2.2⟩
   generalize upd GD ap (.lst ((pf++stepRow k cs best tb).map V.int))=GE at kE3 oE wtE l4E apE bestE boxE
   have SE:Same H1 GE:=kE3.same s5 ho ap1 wt1
   have rvp:(stepRow k cs best tb).reverse++pf.reverse=(pf++stepRow k cs best tb).reverse:=by rw[List.reverse_append]
   rw[rvp] at he
   have plen:(pf++stepRow k cs best tb).length≤3*(n+1):=by rw[List.length_append];omega
   have mu:takenLeft (GE o) < takenLeft (G o):=by rw[oE,g1,takenLeft_is,takenLeft_is];omega
   have gwE:Waits (Far ap wt) k.edges.length GE ts0 bs0:=gw0.mono fun x y _ z=>⟨z.1.keep g1 g2 g4 kE3,z.2⟩
   have tl0:ts0.length+1≤n+1:=by simpa using htl
   cases hpt:isParted k cs best tb with
   | false =>
    obtain⟨z,ez,nz⟩:=step_whole hpt
    have l4z:GE l4=some (.lst [.int z]):=by rw[l4E,ez];rfl
    have en:newBoxes k cs best tb=[]:=by unfold newBoxes;rw[hpt];rfl
    rw[en,List.nil_append] at he
    refine⟨_,rfl,l4,_,_,_,rfl,rfl,SqL.of l4z,k1n (j:=0) rfl,rfl,_,rfl,?_⟩
    rw[k1u,decide_eq_false nz]
    exact iteF ⟨⟨_,_,ac4,c4,n+1,pf++stepRow k cs best tb,bestAfter k cs best tb,ts0,bs0,rfl,SE,oE,apE,bestE,fac4,wtE,gwE,gg',by omega,plen,by omega,he⟩,mu⟩
   | true =>
    have ez:=step_parted hpt
    have l4z:GE l4=some (.lst [.int 3,.int ((widest tb:Nat):Int),.int (mid tb)]):=by rw[l4E,ez];rfl
    have en:newBoxes k cs best tb=Vawctd.parts k cs tb (widest tb) (mid tb):=by unfold newBoxes;rw[hpt];rfl
    rw[en] at he nok
    have wlt:widest tb < k.edges.length:=by
     unfold isParted at hpt
     simp only[Bool.and_eq_true,Bool.not_eq_true'] at hpt
     exact (wide_ok tok (by omega) hpt.1 hpt.2.2).1
    refine⟨_,rfl,l4,_,_,_,rfl,rfl,SqL.of l4z,k1n (j:=0) rfl,rfl,_,rfl,?_⟩
    refine iteT ⟨_,rfl,.inl ⟨rfl,_,SqL.of wtE⟩,_,rfl,_,rfl,_,rfl,l4,_,_,_,rfl,rfl,SqL.of l4z,k1n (j:=1) rfl,_,rfl,l4,_,_,_,rfl,rfl,SqL.of l4z,k1n (j:=2) rfl,m,t2,widest tb,mid tb,k,cs,tb,al,ah,rfl,M1.same SE,X.clen,boxE,tok.len,wlt,fun GF l6 t3 t4 b3 b4 sF nl6 hl6 in3 in4 ep=>?_⟩
    have wtF:=sF _ _ wtE
    have kF3:Keep3 o ap wt G (upd GF wt (.lst (ts0.map V.ref++[.ref t3,.ref t4]))):=(kE3.trans (Keep3.of sF)).trans Keep3.put3
    refine⟨wt,l6,_,_,rfl,rfl,wtF,hl6,(by rw[List.length_map];exact k1q (by show ts0.length+2≤1000;omega)),?_⟩
    have oF:(upd GF wt (.lst (ts0.map V.ref++[.ref t3,.ref t4]))) o=some (.ins CO dxo (ofl ac4 c4 ((n+1:Nat):Int) ap false)):=by rw[k0p now1];exact sF _ _ oE
    have farF:∀ x,(GE x=none∨x=al∨x=ah)->Far ap wt x:=fun x e=>by
     rcases e with e|e|e
     ·exact⟨(fun z=>by rw[z,apE] at e;cases e),(fun z=>by rw[z,wtE] at e;cases e)⟩
     ·rw[e];exact fal
     ·rw[e];exact fah
    have inF:∀ {x:Addr} {y:Box},BoxIn (fun x=>GE x=none∨x=al∨x=ah) GF x y->BoxIn (Far ap wt) (upd GF wt (.lst (ts0.map V.ref++[.ref t3,.ref t4]))) x y:=fun {x y} z=>by
     obtain⟨a1,a2,r1,r2,z1,z2,z3⟩:=z
     have f1:=farF a1 r1
     have f2:=farF a2 r2
     exact⟨a1,a2,f1,f2,by rw[k0p (ne_of z1 wtF (by intro q;cases q))];exact z1,by rw[k0p f1.2];exact z2,by rw[k0p f2.2];exact z3⟩
    have gwF:Waits (Far ap wt) k.edges.length (upd GF wt (.lst (ts0.map V.ref++[.ref t3,.ref t4]))) (ts0++[t3]++[t4]) (bs0++[b3]++[b4]):=by
     rw[ep] at nok
     refine ((gw0.mono fun x y _ z=>⟨z.1.keep g1 g2 g4 kF3,z.2⟩).snoc ⟨inF in3,nok b3 (by simp)⟩).snoc ⟨inF in4,nok b4 (by simp)⟩
    have bestF:BestAt (upd GF wt (.lst (ts0.map V.ref++[.ref t3,.ref t4]))) ac4 c4 (bestAfter k cs best tb):=bestE.keep fun xs hx=>by rw[k0p fac4.2];exact sF _ _ hx
    refine⟨⟨_,_,ac4,c4,n+1,pf++stepRow k cs best tb,bestAfter k cs best tb,ts0++[t3]++[t4],bs0++[b3]++[b4],rfl,kF3.same s5 ho ap1 wt1,oF,by rw[k0p (Ne.symm now)];exact sF _ _ apE,bestF,fac4,by rw[k0f];simp,gwF,gg',by omega,plen,by simp;omega,?_⟩,?_⟩
    ·rw[he,ep]
     congr 1
     simp
    ·show takenLeft ((upd GF wt (.lst (ts0.map V.ref++[.ref t3,.ref t4]))) o) < takenLeft (G o)
     rw[oF,g1,takenLeft_is,takenLeft_is]
     omega
  ·rintro σ G Q1 Q2 hq ⟨v1,z1,p1,ys,z2,z3,i,j,z4,z5,kk,z6,z7⟩
   refine⟨v1,z1,p1,ys,z2,z3,i,j,z4,z5,kk,z6,?_⟩
   revert z7
   refine fun z7=>?_
   by_cases hk:kk=true
   ·rw[if_pos hk] at z7 ⊢
    obtain⟨u1,u2,u3,u4,u5,u6,u7,u8,u9,u10,u11,u12,u13,u14,u15,u16,u17,u18,u19⟩:=z7
    exact⟨u1,u2,u3,u4,u5,u6,u7,u8,u9,u10,u11,u12,u13,u14,u15,u16,u17,u18,hq _ _ u19⟩
   ·rw[if_neg hk] at z7 ⊢
    exact hq _ _ z7
end
end Ww
end
section
namespace Ww
open PySem PySem.Spec PyProof.Rows L2
open Vawctd (Known Edge Fact inRange toInts countsOf Box isEmptyBox isFixed Found isGood isLet fixedCounts widest costBy)
def partBy (k:Known) (b:Box):List Int->Bool
 | [_,e,m]=>mayPart k b e m
 | _=>false
section
variable {P:Program} {w:World} {K:PySem.W.Frag} {mg:Str->Option Value} {base:Heap} {C CM CO:Addr}
abbrev s_may_be_parted:Stmt:=top 79
theorem sc_may_be_parted:FnScope ["held","box","step"] ["held","box","step"] (k0m s_may_be_parted):=⟨rfl,rfl,rfl,by decide +kernel,rfl,by decide +kernel,by decide +kernel⟩
def sp_may_be_parted (K:PySem.W.Frag) (C:Addr):Sp:=fun vs H Q _=>∃ (p t s:Addr) (b:Box) (ns:List Int) (k:Known) (h:HA),vs=[.ref p,.ref t,.ref s]∧HeldAt C H p k h∧Wf k∧BoxAt H t b∧b.length=k.edges.length∧SqL K H s (ns.map V.int)∧ns.length≤3∧∀ H',Same H H'->Q (.bl (partBy k b ns)) H'
theorem ok_may_be_parted (T:Txt K mg) (c:Cl K C) (D:Dfn K mg "may_be_parted" s_may_be_parted ["held","box","step"]) (p_is_edge:Prom P w K mg base 2 "is_edge" ["held","edge"] (sp_is_edge K C)) (p_is_empty:Prom P w K mg base 1 "is_empty" ["box"] sp_is_empty):Prom P w K mg base 3 "may_be_parted" ["held","box","step"] (sp_may_be_parted K C):=by
 refine D.prom sc_may_be_parted (fun vs H Q E h=>?_) (fun f cdv A outer s H vs Q E hr h=>?_)
 ·obtain⟨_,_,_,_,_,_,_,rfl,_⟩:=h
  rfl
 ·obtain⟨p,t,s,b,ns,k,h,rfl,X,wf,hbox,hlen,hs,hn,q⟩:=h
  refine⟨_,(k0e (ps_if (PW.pt (pw_or (k0x op_lt (k1a (lenK K rfl) (by rfl) T.n_len PySem.boot_len (k0a (pv 2) k0g)) (k0y rfl T.c_PARTED_NUMBERS) (k1e _)) (pw_or (pt_not (k1r K rfl (k0u p_is_edge (hr.mono (by decide)) rfl (k0a (pv 0) (k0a (pe_ix (k0w K rfl) (pv 2) k0n (fun _ _=>rfl)) k0g))) (fun _=>rfl))) (pw_or1 (k1r K rfl (k0u p_is_empty (hr.mono (by decide)) rfl (k0a (pv 1) k0g)) (fun _=>rfl)))))) (k0j (k0q pe_bl)) k0z) (k0j (k0q (pe_chain op_le op_lt (pe_ix (k0w K rfl) (pe_ix (ixK_tup K rfl) (pv 1) k0n (fun _ _=>rfl)) (pe_ix (k0w K rfl) (pv 2) k0n (fun _ _=>rfl)) (fun _ _=>rfl)) (pe_ix (k0w K rfl) (pv 2) k0n (fun _ _=>rfl)) (pe_ix (k0w K rfl) (pe_ix (ixK_tup K rfl) (pv 1) k0n (fun _ _=>rfl)) (pe_ix (k0w K rfl) (pv 2) k0n (fun _ _=>rfl)) (fun _ _=>rfl)))))),?_⟩
  have e16:=wf.e16
  refine⟨_,rfl,s,_,rfl,.inl hs,_,_,rfl,rfl,_,rfl,?_⟩
  rw[List.length_map]
  match ns,hn,hs,q with
  | [],_,hs,q=>exact iteT (iteT (q _ Same.rfl'))
  | [_],_,hs,q=>exact iteT (iteT (q _ Same.rfl'))
  | [_,_],_,hs,q=>exact iteT (iteT (q _ Same.rfl'))
  | _::_::_::_::_,hn,_,_=>simp at hn
  | [x,e,m],_,hs,q =>
   have q:∀ H',Same H H'->Q (.bl (mayPart k b e m)) H':=q
   unfold mayPart at q
   refine iteF ⟨_,rfl,_,rfl,s,_,_,_,rfl,rfl,hs,k1n (j:=1) rfl,p,e,k,h,rfl,X,_,rfl,?_⟩
   cases he:Vawctd.isEdge k e with
   | false =>
    rw[he,Bool.false_and] at q
    exact iteT (iteT (q _ Same.rfl'))
   | true =>
    rw[he,Bool.true_and] at q
    obtain⟨e0,e1⟩:=(isEdge_iff k e).mp he
    refine iteF ⟨_,rfl,t,b,rfl,hbox,by omega,fun H1 s1=>⟨_,rfl,?_⟩⟩
    cases hem:isEmptyBox b with
    | true =>
     rw[hem] at q
     simp only[Bool.not_true,Bool.false_and] at q
     exact iteT (q _ s1)
    | false =>
     rw[hem] at q
     simp only[Bool.not_false,Bool.true_and] at q
     obtain⟨al,ah,ht,hal,hah⟩:=hbox.same s1
     have hz:=get_at (b:=b) (i:=e.toNat) (by omega)
     have ee:e=((e.toNat:Nat):Int):=by omega
     have hs1:=s1.seq hs
     refine iteF ⟨_,rfl,t,_,_,_,rfl,rfl,SqT.of ht,k1n (j:=0) rfl,_,rfl,s,_,_,_,rfl,rfl,hs1,k1n (j:=1) rfl,al,_,_,_,rfl,rfl,SqL.of hal,at_int' ee (lows_get hz),_,rfl,s,_,_,_,rfl,rfl,hs1,k1n (j:=2) rfl,_,_,rfl,rfl,_,rfl,ite2 (fun h1=>?_) (fun h1=>?_)⟩
     ·have h1:decide ((b.getD e.toNat (0,0)).1≤m)=true:=h1
      rw[h1,Bool.true_and] at q
      exact⟨_,rfl,t,_,_,_,rfl,rfl,SqT.of ht,k1n (j:=1) rfl,_,rfl,s,_,_,_,rfl,rfl,hs1,k1n (j:=1) rfl,ah,_,_,_,rfl,rfl,SqL.of hah,at_int' ee (highs_get hz),_,_,rfl,rfl,q _ s1⟩
     ·have h1:decide ((b.getD e.toNat (0,0)).1≤m)=false:=eq_false_of_ne_true h1
      rw[h1,Bool.false_and] at q
      exact q _ s1
abbrev s_may_be_left:Stmt:=top 80
theorem sc_may_be_left:FnScope ["held","measures","box","number","b"] ["held","measures","box","number","b"] (k0m s_may_be_left):=⟨rfl,rfl,rfl,by decide +kernel,rfl,by decide +kernel,by decide +kernel⟩
def sp_may_be_left (C CM:Addr):Sp:=fun vs H Q _=>∃ (p m t:Addr) (x lim:Int) (b:Box) (k:Known) (cs:List Int) (h:HA),vs=[.ref p,.ref m,.ref t,.int x,.int lim]∧HeldC C H p k cs h∧MeasAt CM H m k cs∧Wf k∧SmallC cs∧BoxAt H t b∧BoxOk k.edges.length b∧∀ H',Same H H'->Q (.bl (mayLeave k cs lim b x)) H'
theorem ok_may_be_left (T:Txt K mg) (c:Cl K C) (D:Dfn K mg "may_be_left" s_may_be_left ["held","measures","box","number","b"]) (p_is_empty:Prom P w K mg base 1 "is_empty" ["box"] sp_is_empty) (p_bound_of:Prom P w K mg base 1 "bound_of" ["measures","box"] (sp_bound_of CM)) (p_has_one_count_each:Prom P w K mg base 1 "has_one_count_each" ["box"] sp_has_one) (p_fit_and_let:Prom P w K mg base 4 "fit_and_let" ["held","counts"] (sp_let K C isGood)) :
  Prom P w K mg base 5 "may_be_left" ["held","measures","box","number","b"] (sp_may_be_left C CM):=by
 refine D.prom sc_may_be_left (fun vs H Q E h=>?_) (fun f cdv A outer s H vs Q E hr h=>?_)
 ·obtain⟨_,_,_,_,_,_,_,_,_,rfl,_⟩:=h
  rfl
 ·obtain⟨p,m,t,x,lim,b,k,cs,h,rfl,X,M,wf,hsm,hbox,hok,q⟩:=h
  refine⟨_,(k0e (ps_if (k0x op_eq (pv 3) (k0y rfl T.c_EMPTY) (k1e _)) (k0j (k0q (k0u p_is_empty (hr.mono (by decide)) rfl (k0a (pv 2) k0g)))) k0z) (k0e (ps_if (k0x op_eq (pv 3) (k0y rfl T.c_BOUNDED) (k1e _)) (k0j (k0q (pe_or (k0u p_is_empty (hr.mono (by decide)) rfl (k0a (pv 2) k0g)) (pe_one (pe_cmpR op_le (k0u p_bound_of (hr.mono (by decide)) rfl (k0a (pv 1) (k0a (pv 2) k0g))) (pv 4) (k1e _)))))) k0z) (k0e (ps_if (k0x op_eq (pv 3) (k0y rfl T.c_NO_WAY_THERE) (k1e _)) (k0j (k0q (pe_and (k0u p_has_one_count_each (hr.mono (by decide)) rfl (k0a (pv 2) k0g)) (pe_one (pe_not (k0u p_fit_and_let (hr.mono (by decide)) rfl (k0a (pv 0) (k0a (pe_ix (ixK_tup K rfl) (pv 2) k0n (fun _ _=>rfl)) k0g)))))))) k0z) (k0j (k0q pe_bl))))),?_⟩
  have e16:=wf.e16
  have hlen:=hok.len
  unfold mayLeave at q
  refine⟨_,rfl,rfl,_,rfl,?_⟩
  rw[k1u]
  by_cases h0:x=0
  ·rw[decide_eq_true h0]
   rw[if_pos h0] at q
   exact iteT ⟨_,rfl,t,b,rfl,hbox,by omega,q⟩
  rw[decide_eq_false h0]
  rw[if_neg h0] at q
  refine iteF ⟨_,rfl,rfl,_,rfl,?_⟩
  rw[k1u]
  by_cases h1:x=1
  ·rw[decide_eq_true h1]
   rw[if_pos h1] at q
   refine iteT ⟨_,rfl,t,b,rfl,hbox,by omega,fun H1 s1=>⟨_,rfl,?_⟩⟩
   refine ite2 (fun g=>?_) (fun g=>?_)
   ·rw[g] at q
    simp only[Bool.true_or] at q
    exact q _ s1
   ·rw[eq_false_of_ne_true g] at q
    simp only[Bool.false_or] at q
    exact⟨_,rfl,_,rfl,m,t,k,cs,b,rfl,M.same s1,wf,X.clen,hsm,hbox.same s1,hlen,fun H2 s2=>⟨_,rfl,_,_,rfl,rfl,q _ (s1.trans s2)⟩⟩
  rw[decide_eq_false h1]
  rw[if_neg h1] at q
  refine iteF ⟨_,rfl,rfl,_,rfl,?_⟩
  rw[k1u]
  by_cases h2:x=2
  ·rw[decide_eq_true h2]
   rw[if_pos h2] at q
   refine iteT ⟨_,rfl,t,b,rfl,hbox,_,rfl,?_⟩
   refine ite2 (fun g=>?_) (fun g=>?_)
   ·rw[g] at q
    simp only[Bool.true_and] at q
    obtain⟨al,ah,ht,hal,hah⟩:=hbox
    exact⟨_,rfl,_,rfl,t,_,_,_,rfl,rfl,SqT.of ht,k1n (j:=0) rfl,p,al,fixedCounts b,k,h,rfl,X.r,wf,fixed_len hok,SqL.of (by rw[fixed_counts hok];exact hal),fun H1 s1=>⟨_,rfl,q _ s1⟩⟩
   ·rw[eq_false_of_ne_true g] at q
    simp only[Bool.false_and] at q
    exact q _ Same.rfl'
  rw[decide_eq_false h2]
  rw[if_neg h2] at q
  exact iteF (q _ Same.rfl')
end
end Ww
end
section
namespace Ww
open PySem PySem.Spec PyProof.Rows L2
open Vawctd (Known Edge Fact inRange toInts countsOf Box isEmptyBox isFixed Found isGood isLet fixedCounts widest costBy)
theorem cut_three (xs:List V) (i:Nat) (j:Int) (hi:i≤xs.length) (hj:j=(i:Int)+3):cutV xs (some (i:Int)) (some j)=(xs.drop i).take 3:=by
 subst hj
 unfold cutV
 have e1:HT.sIx xs.length 0 (some (i:Int))=i:=by
  show (if (i:Int) < 0 then ((i:Int)+(xs.length:Int)).toNat else min ((i:Int)).toNat xs.length)=_
  rw[if_neg (by omega),Int.toNat_natCast]
  omega
 have e2:HT.sIx xs.length xs.length (some ((i:Int)+3))=min (i+3) xs.length:=by
  show (if (i:Int)+3 < 0 then ((i:Int)+3+(xs.length:Int)).toNat else min ((i:Int)+3).toNat xs.length)=_
  rw[if_neg (by omega)]
  omega
 rw[e1,e2]
 rcases Nat.le_total (i+3) xs.length with h|h
 ·rw[Nat.min_eq_left h]
  congr 1
  omega
 ·rw[Nat.min_eq_right h,List.take_of_length_le (by rw[List.length_drop];omega),List.take_of_length_le (by rw[List.length_drop];omega)]
theorem BoxIn.keepW {w t:Addr} {H H':Hp} {ys:List V} {b:Box} (hw:H w=some (.lst ys)) (k:Off w H H') (x:BoxIn (fun y=>y≠w) H t b):BoxIn (fun y=>y≠w) H' t b:=by
 obtain⟨al,ah,r1,r2,h1,h2,h3⟩:=x
 exact⟨al,ah,r1,r2,k _ _ (ne_of h1 hw (by intro q;cases q)) h1,k _ _ r1 h2,k _ _ r2 h3⟩
theorem Off.trans {w:Addr} {H H1 H2:Hp} (k:Off w H H1) (l:Off w H1 H2):Off w H H2:=fun b o n e=>l b o n (k b o n e)
theorem Off.of {w:Addr} {H H1:Hp} (s:Same H H1):Off w H H1:=fun b o _ e=>s b o e
theorem Off.put {w:Addr} {H:Hp} {ob:HO}:Off w H (upd H w ob):=fun b o n e=>by rw[k0p n];exact e
theorem Off.same {w:Addr} {H0 H H1:Hp} (k:Off w H H1) (s:Same H0 H) (hw:H0 w=none):Same H0 H1:=fun b o e=>k b o (k0h e hw) (s b o e)
section
variable {P:Program} {w:World} {K:PySem.W.Frag} {mg:Str->Option Value} {base:Heap} {C CM CO:Addr}
abbrev s_proves:Stmt:=top 78
theorem sc_proves:FnScope ["held","b","proof","measures","waiting","place","box","step"] ["held","b","proof"] (k0m s_proves):=⟨rfl,rfl,rfl,by decide +kernel,rfl,by decide +kernel,by decide +kernel⟩
def sp_proves (K:PySem.W.Frag) (C:Addr):Sp:=fun vs H Q _=>∃ (p a:Addr) (lim:Int) (l:List Int) (k:Known) (h:HA),vs=[.ref p,.int lim,.ref a]∧HeldAt C H p k h∧Wf k∧SqL K H a (l.map V.int)∧l.length≤100000∧∀ H',Same H H'->Q (.bl (Vawctd.proves k (Vawctd.costsOf k) lim l)) H'
theorem ok_proves {fM:Addr} {fdM:FuncData} (T:Txt K mg) (c:Cl K C) (cm:ClM K CM) (D:Dfn K mg "proves" s_proves ["held","b","proof"]) (M_Measures:Mk K CM fM) (G_Measures:FnOk P w K mg base CX0 3 fM fdM ["self","held"] (sp_init_Measures C CM)) (m_Measures:mg "Measures"=some (.ref CM)) (b_Measures:Binds K fdM ["self","held"] [])
  (p_whole_box:Prom P w K mg base 1 "whole_box" ["held"] (sp_whole_box C)) (p_tightened:Prom P w K mg base 3 "tightened" ["measures","box"] (sp_tightened CM)) (p_may_be_parted:Prom P w K mg base 3 "may_be_parted" ["held","box","step"] (sp_may_be_parted K C)) (p_may_be_left:Prom P w K mg base 5 "may_be_left" ["held","measures","box","number","b"] (sp_may_be_left C CM)) (p_parts_of:Prom P w K mg base 1 "parts_of" ["measures","box","edge","m"] (sp_parts_of CM)):Prom P w K mg base 6 "proves" ["held","b","proof"] (sp_proves K C):=by
 refine D.prom sc_proves (fun vs H Q E h=>?_) (fun f cdv A outer s H vs Q E hr h=>?_)
 ·obtain⟨_,_,_,_,_,_,rfl,_⟩:=h
  rfl
 ·obtain⟨p,a,lim,l,k,h,rfl,X,wf,ha,hl,q⟩:=h
  refine⟨_,(k0e (k1m (i:=3) sc_proves.nd rfl (Or.inl rfl) (pe_make M_Measures G_Measures (hr.mono (by decide)) rfl m_Measures b_Measures .nil pass0 (k0a (pv 0) k0g))) (k0e (k1m (i:=4) sc_proves.nd rfl (Or.inl rfl) (k1g (k0a (k0u p_whole_box (hr.mono (by decide)) rfl (k0a (pv 0) k0g)) k0g))) (k0e (k1m (i:=5) sc_proves.nd rfl (Or.inl rfl) k0n) (k0e (ps_while PassesOwn.never (PW.pt (pw_and (k0x op_gt (k1a (lenK K rfl) (by rfl) T.n_len PySem.boot_len (k0a (pv 4) k0g)) k0n (k1e _)) (pw_and1 (k0x op_lt (pv 5) (k1a (lenK K rfl) (by rfl) T.n_len PySem.boot_len (k0a (pv 2) k0g)) (k1e _))))) (k0e (k1m (i:=6) sc_proves.nd rfl (Or.inl rfl) (k0u p_tightened (hr.mono (by decide)) rfl (k0a (pv 3) (k0a (pe_bm0 PySem.F.plainAttrs_list PySem.F.slot_list_pop PySem.F.type_list_pop mt_pop (pv 4)) k0g)))) (k0j (ps_if (k0x op_eq (pe_ix (k0w K rfl) (pv 2) (pv 5) (fun _ _=>rfl)) (k0y rfl T.c_PARTED) (k1e _)) (k0e (k1m (i:=7) sc_proves.nd rfl (Or.inl rfl) (pe_slice (slK_list K rfl) (pv 2) (po_some (pv 5)) (po_some (pe_op op_add (pv 5) (k0y rfl T.c_PARTED_NUMBERS))))) (k0e (ps_if (pt_not (k1r K rfl (k0u p_may_be_parted (hr.mono (by decide)) rfl (k0a (pv 0) (k0a (pv 6) (k0a (pv 7) k0g)))) (fun _=>rfl))) (k0j (k0q pe_bl)) k0z) (k0e (ps_expr (pe_bm PySem.F.plainAttrs_list PySem.F.slot_list_extend PySem.F.type_list_extend mt_extend (pv 4) (k0a (k0u p_parts_of (hr.mono (by decide)) rfl (k0a (pv 3) (k0a (pv 6) (k0a (pe_ix (k0w K rfl) (pv 7) k0n (fun _ _=>rfl)) (k0a (pe_ix (k0w K rfl) (pv 7) k0n (fun _ _=>rfl)) k0g))))) k0g))) (k0j (ps_aug (i:=5) sc_proves.nd rfl (Or.inl rfl) (k0y rfl T.c_PARTED_NUMBERS) ip_add))))) (k0j (ps_if (k1r K rfl (k0u p_may_be_left (hr.mono (by decide)) rfl (k0a (pv 0) (k0a (pv 3) (k0a (pv 6) (k0a (pe_ix (k0w K rfl) (pv 2) (pv 5) (fun _ _=>rfl)) (k0a (pv 1) k0g)))))) (fun _=>rfl)) (k0j (ps_aug (i:=5) sc_proves.nd rfl (Or.inl rfl) k0n ip_add)) (k0j (k0q pe_bl)))))))) (k0j (k0q (pe_and (pe_cmpR op_eq (k1a (lenK K rfl) (by rfl) T.n_len PySem.boot_len (k0a (pv 4) k0g)) k0n (k1e _)) (pe_one (pe_cmpR op_eq (pv 5) (k1a (lenK K rfl) (by rfl) T.n_len PySem.boot_len (k0a (pv 2) k0g)) (k1e _)))))))))),?_⟩
  have e1:=wf.e1
  have e16:=wf.e16
  have fml:∀ f∈k.facts,f.mults.length=k.edges.length:=fun f hf=>(wf.fm f hf).1
  have hsm:SmallC (Vawctd.costsOf k):=costs_small fun d hd=>(wf.ed d hd).2.2.1
  have Xc:=X.c
  generalize hcs:Vawctd.costsOf k=cs at q hsm Xc
  refine⟨_,rfl,fun m dx hm hdx hne=>?_⟩
  have s0:Same H (upd (upd H dx (.own m)) m (.ins CM dx [])):=fun b o e=>by rw[k0p (k0h e hm),k0p (k0h e hdx)];exact e
  refine⟨m,dx,p,k,cs,h,rfl,k0f,Xc.same s0,wf,fun H1 M1 b1=>⟨rfl,?_⟩⟩
  have S1:Same H H1:=fun b o e=>b1 b o (s0 b o e) (k0h e hm)
  refine⟨_,rfl,p,k,h,rfl,(Xc.same S1).r,wf,fun H3 t0 s3 hb0=>⟨(by show 1≤sizeLine;decide),fun wt hwt=>?_⟩⟩
  have wt1:H1 wt=none:=s3.free hwt
  have nt0:Same H3 (upd H3 wt (.lst [.ref t0])):=Same.new hwt
  have fin:∀ (G:Hp) (pl:Nat) (ts:List Addr) (bs:List Box) (fuel:Nat),Same H1 G->ts.length=bs.length->pl≤l.length->Vawctd.proves k cs lim l=Vawctd.checkFrom k cs lim fuel bs.reverse (l.drop pl)->(bs=[]∨pl=l.length) ->
    Q (.bl (decide (ts.length=0)&&decide (pl=l.length))) G:=by
   intro G pl ts bs fuel s5 hl hp he hend
   have e:Vawctd.proves k cs lim l=(decide (ts.length=0)&&decide (pl=l.length)):=by
    rw[he,hl]
    cases bs with
    | nil =>
     show Vawctd.checkFrom k cs lim fuel [] (l.drop pl)=_
     rw[check_stop]
     have:(l.drop pl).isEmpty=decide (pl=l.length):=by
      by_cases z:pl=l.length
      ·rw[z,List.drop_length,decide_eq_true rfl];rfl
      ·rw[decide_eq_false z]
       rw[List.isEmpty_eq_false_iff]
       intro y
       have:=congrArg List.length y
       rw[List.length_drop] at this
       simp at this
       omega
     rw[this]
     rfl
    | cons b0 bs =>
     rcases hend with z|z
     ·cases z
     ·subst z
      rw[List.drop_length]
      have:∃ a r,(b0::bs).reverse=a::r:=by
       cases y:(b0::bs).reverse with
       | nil=>simp at y
       | cons a r=>exact⟨a,r,rfl⟩
      obtain⟨a',r',y⟩:=this
      rw[y,check_nil]
      rfl
   rw[← e]
   exact q G (S1.trans s5)
  refine while_by (fun σ G=>∃ (v6 v7:Option V) (pl:Nat) (ts:List Addr) (bs:List Box) (fuel:Nat),σ=[some (.ref p),some (.int lim),some (.ref a),some (.ref m),some (.ref wt),some (.int (pl:Int)),v6,v7]∧Same H1 G∧G wt=some (.lst (ts.map V.ref)) ∧
    Waits (fun y=>y≠wt) k.edges.length G ts bs∧pl≤l.length∧ts.length≤pl+1∧l.length - pl < fuel∧Vawctd.proves k cs lim l=Vawctd.checkFrom k cs lim fuel bs.reverse (l.drop pl))
   (fun (σ:List (Option V)) (_:Hp)=>match σ[5]? with
    | some (some (V.int n))=>l.length - n.toNat
    | _=>0) ⟨none,none,0,[t0],[Vawctd.wholeBox k],l.length+1,rfl,s3.trans nt0,k0f,?_,Nat.zero_le _,by simp,by omega,rfl⟩ ?_ ?_
  ·refine .cons ⟨?_,whole_ok fun d hd=>(wf.ed d hd).2.2.2⟩ .nil
   obtain⟨al,ah,n1,n2,h1,h2,h3⟩:=hb0
   exact⟨al,ah,k0h h2 hwt,k0h h3 hwt,nt0 _ _ h1,nt0 _ _ h2,nt0 _ _ h3⟩
  ·rintro σ G ⟨v6,v7,pl,ts,bs,fuel,rfl,s5,g4,gw,hpl,htl,hfu,he⟩
   have rl:ts.length=bs.length:=gw.length
   have haG:=(S1.trans s5).seq ha
   refine⟨_,rfl,wt,_,rfl,.inl (SqL.of g4),_,_,rfl,rfl,_,rfl,?_⟩
   rcases List.eq_nil_or_concat ts with et|⟨ts0,t,et⟩
   ·subst et
    have eb:bs=[]:=List.eq_nil_of_length_eq_zero rl.symm
    refine iteF (iteF ?_)
    have fn:=fin G pl [] bs fuel s5 rl hpl he (.inl eb)
    refine⟨_,rfl,wt,_,rfl,.inl (SqL.of g4),rfl,_,rfl,iteT ⟨_,rfl,_,rfl,a,_,rfl,.inl haG,rfl,?_⟩⟩
    rw[k1u,List.length_map]
    have e2:decide ((pl:Int)=(l.length:Int))=(decide (([]:List Addr).length=0)&&decide (pl=l.length)):=by
     by_cases z:pl=l.length
     ·rw[decide_eq_true z,decide_eq_true (by omega)];rfl
     ·rw[decide_eq_false z,decide_eq_false (by omega)];rfl
    rw[e2]
    exact fn
   rw[List.concat_eq_append] at et
   subst et
   rw[decide_eq_true (p:=(0:Int) < (((ts0++[t]).map V.ref).length:Int)) (by simp)]
   refine iteT ⟨_,rfl,_,rfl,a,_,rfl,.inl haG,_,_,rfl,rfl,_,rfl,?_⟩
   rw[List.length_map]
   by_cases hlt:pl < l.length
   case neg =>
    rw[decide_eq_false (p:=(pl:Int) < (l.length:Int)) (by omega)]
    have fn:=fin G pl (ts0++[t]) bs fuel s5 rl hpl he (.inr (by omega))
    refine iteF ⟨_,rfl,wt,_,rfl,.inl (SqL.of g4),rfl,_,rfl,?_⟩
    rw[k1u,List.length_map,decide_eq_false (p:=((ts0++[t]).length:Int)=0) (by simp;omega)]
    rw[decide_eq_false (p:=(ts0++[t]).length=0) (by simp),Bool.false_and] at fn
    exact iteF fn
   rw[decide_eq_true (p:=(pl:Int) < (l.length:Int)) (by omega)]
   obtain⟨bs0,b,eb,gw0,gb,gok⟩:=gw.last
   subst eb
   obtain⟨fu,rfl⟩:∃ fu,fuel=fu+1:=⟨fuel - 1,by omega⟩
   have hx:=List.getElem?_eq_getElem hlt
   have hdr:l.drop pl=l[pl]::l.drop (pl+1):=List.drop_eq_getElem_cons hlt
   generalize l[pl]=x at hx hdr
   rw[List.reverse_append,hdr] at he
   have he:Vawctd.proves k cs lim l=Vawctd.checkFrom k cs lim (fu+1) (b::bs0.reverse) (x::l.drop (pl+1)):=he
   refine iteT ⟨_,rfl,_,rfl,.inl ⟨rfl,_,SqL.of g4⟩,wt,_,_,rfl,rfl,g4,last_get,?_⟩
   rw[last_drop]
   have kA:Off wt G (upd G wt (.lst (ts0.map V.ref))):=Off.put
   have sA:Same H1 (upd G wt (.lst (ts0.map V.ref))):=s5.put wt1
   have bA:=(gb.keepW g4 kA).box
   refine⟨m,t,k,cs,b,rfl,M1.same sA,wf,bA,gok.len,fun GB t2 sB hb2=>?_⟩
   have kB:Off wt G GB:=kA.trans (Off.of sB)
   have SB:Same H1 GB:=sA.trans sB
   have SHB:=S1.trans SB
   have wtB:GB wt=some (.lst (ts0.map V.ref)):=sB _ _ k0f
   have tok:=tighten_ok fml gok
   have hbx:=hb2.box
   obtain⟨al,ah,na,nh,q1,q2,q3⟩:=hb2
   have fal:al≠wt:=fun z=>by rw[z,k0f] at na;cases na
   have fah:ah≠wt:=fun z=>by rw[z,k0f] at nh;cases nh
   have haB:=SHB.seq ha
   have tl0:ts0.length+1≤pl+1:=by simpa using htl
   refine⟨_,rfl,_,rfl,a,_,_,_,rfl,rfl,haB,at_int hx,rfl,_,rfl,?_⟩
   rw[k1u]
   by_cases h3:x=3
   ·rw[decide_eq_true h3]
    subst h3
    refine iteT ⟨_,rfl,_,rfl,_,rfl,_,rfl,_,_,rfl,rfl,_,rfl,a,_,rfl,haB,fun sp hsp=>?_⟩
    have ecut:cutV (l.map V.int) (some (pl:Int)) (some ((pl:Int)+3))=((l.drop pl).take 3).map V.int:=by
     rw[cut_three _ pl _ (by rw[List.length_map];exact hpl) rfl,List.map_take,List.map_drop]
    rw[ecut]
    have nsp:Same GB (upd GB sp (.lst (((l.drop pl).take 3).map V.int))):=Same.new hsp
    have gsp:(upd GB sp (.lst (((l.drop pl).take 3).map V.int))) sp=some (.lst (((l.drop pl).take 3).map V.int)):=k0f
    generalize upd GB sp (.lst (((l.drop pl).take 3).map V.int))=GC at nsp gsp
    have SC:=SB.trans nsp
    refine⟨_,rfl,_,rfl,_,rfl,p,t2,sp,Vawctd.tighten k b,(l.drop pl).take 3,k,h,rfl,X.same (S1.trans SC),wf,hbx.same nsp,tok.len,SqL.of gsp,(by rw[List.length_take];omega),fun GD sD=>⟨_,rfl,?_⟩⟩
    have SD:=SC.trans sD
    have cases3:(partBy k (Vawctd.tighten k b) ((l.drop pl).take 3)=false∧Vawctd.proves k cs lim l=false)∨∃ e n r,l.drop (pl+1)=e::n::r∧mayPart k (Vawctd.tighten k b) e n=true∧Vawctd.proves k cs lim l=Vawctd.checkFrom k cs lim fu (Vawctd.parts k cs (Vawctd.tighten k b) e.toNat n++bs0.reverse) r:=by
     rw[hdr]
     match hd:l.drop (pl+1),he with
     | [],he=>left;exact⟨rfl,by rw[he,check_short _ _ _ _ _ _ _ (by simp)]⟩
     | [e],he=>left;exact⟨rfl,by rw[he,check_short _ _ _ _ _ _ _ (by simp)]⟩
     | e::n::r,he =>
      rw[check_three] at he
      cases hm:mayPart k (Vawctd.tighten k b) e n with
      | false=>left;rw[hm,Bool.false_and] at he;exact⟨hm,he⟩
      | true=>right;rw[hm,Bool.true_and] at he;exact⟨e,n,r,rfl,hm,he⟩
    rcases cases3 with ⟨c1,c2⟩|⟨e,n,r,hd,c1,c2⟩
    ·rw[c1]
     refine iteT ?_
     have:=q GD (S1.trans SD)
     rw[c2] at this
     exact this
    have hp3:(l.drop pl).take 3=[3,e,n]:=by rw[hdr,hd];rfl
    have c1':partBy k (Vawctd.tighten k b) ((l.drop pl).take 3)=true:=by rw[hp3];exact c1
    rw[c1']
    have hdl:3+r.length=l.length - pl:=by
     have:=congrArg List.length hdr
     rw[List.length_drop,hd] at this
     simp at this
     omega
    have hdr3:l.drop (pl+3)=r:=by
     have:l.drop (pl+3)=(l.drop (pl+1)).drop 2:=by rw[List.drop_drop]
     rw[this,hd]
     rfl
    unfold mayPart at c1
    rw[Bool.and_eq_true,Bool.and_eq_true,Bool.and_eq_true,decide_eq_true_eq,decide_eq_true_eq] at c1
    obtain⟨ce,_,cl1,cl2⟩:=c1
    obtain⟨e0,ee1⟩:=(isEdge_iff k e).mp ce
    have eet:e=((e.toNat:Nat):Int):=by omega
    have gspD:GD sp=some (.lst [.int 3,.int e,.int n]):=by
     have:=sD _ _ gsp
     rw[hp3] at this
     exact this
    have wtD:=sD _ _ (nsp _ _ wtB)
    have nok:=parts_ok (k:=k) (cs:=cs) tok (by omega) cl1 cl2
    have boxD:BoxL GD t2 al ah (Vawctd.tighten k b):=⟨sD _ _ (nsp _ _ q1),sD _ _ (nsp _ _ q2),sD _ _ (nsp _ _ q3)⟩
    refine iteF ⟨_,rfl,.inl ⟨rfl,_,SqL.of wtD⟩,_,rfl,_,rfl,_,rfl,sp,_,_,_,rfl,rfl,SqL.of gspD,k1n (j:=1) rfl,_,rfl,sp,_,_,_,rfl,rfl,SqL.of gspD,k1n (j:=2) rfl,m,t2,e.toNat,n,k,cs,Vawctd.tighten k b,al,ah,(by rw[← eet];rfl),M1.same SD,Xc.clen,boxD,tok.len,(by omega),fun GF l6 t3 t4 b3 b4 sF nl6 hl6 in3 in4 ep=>?_⟩
    have wtF:=sF _ _ wtD
    refine⟨wt,l6,_,_,rfl,rfl,wtF,hl6,(by rw[List.length_map];exact Nat.le_trans (show ts0.length+2≤100100 by omega) (by decide)),?_⟩
    have kF:Off wt G (upd GF wt (.lst (ts0.map V.ref++[.ref t3,.ref t4]))):=(((kB.trans (Off.of nsp)).trans (Off.of sD)).trans (Off.of sF)).trans Off.put
    have farF:∀ x,(GD x=none∨x=al∨x=ah)->x≠wt:=fun x e=>by
     rcases e with e|e|e
     ·intro z;rw[z,wtD] at e;cases e
     ·rw[e];exact fal
     ·rw[e];exact fah
    have inF:∀ {x:Addr} {y:Box},BoxIn (fun x=>GD x=none∨x=al∨x=ah) GF x y->BoxIn (fun y=>y≠wt) (upd GF wt (.lst (ts0.map V.ref++[.ref t3,.ref t4]))) x y:=fun {x y} z=>by
     obtain⟨a1,a2,r1,r2,z1,z2,z3⟩:=z
     have f1:=farF a1 r1
     have f2:=farF a2 r2
     exact⟨a1,a2,f1,f2,by rw[k0p (ne_of z1 wtF (by intro q;cases q))];exact z1,by rw[k0p f1];exact z2,by rw[k0p f2];exact z3⟩
    have gwF:Waits (fun y=>y≠wt) k.edges.length (upd GF wt (.lst (ts0.map V.ref++[.ref t3,.ref t4]))) (ts0++[t3]++[t4]) (bs0++[b3]++[b4]):=by
     rw[ep] at nok
     exact ((gw0.mono fun x y _ z=>⟨z.1.keepW g4 kF,z.2⟩).snoc ⟨inF in3,nok b3 (by simp)⟩).snoc ⟨inF in4,nok b4 (by simp)⟩
    refine⟨_,rfl,_,_,rfl,rfl,⟨_,_,pl+3,ts0++[t3]++[t4],bs0++[b3]++[b4],fu,rfl,kF.same s5 wt1,by rw[k0f];simp,gwF,by omega,by simp;omega,by omega,?_⟩,?_⟩
    ·rw[c2,ep,hdr3]
     congr 1
     simp
    ·show l.length - ((pl:Int)+3).toNat < l.length - ((pl:Int)).toNat
     omega
   ·rw[decide_eq_false h3]
    rw[check_one _ _ _ _ _ _ _ _ h3] at he
    refine iteF ⟨_,rfl,_,rfl,_,rfl,_,rfl,_,rfl,a,_,_,_,rfl,rfl,haB,at_int hx,_,rfl,p,m,t2,x,lim,Vawctd.tighten k b,k,cs,h,rfl,Xc.same SHB,M1.same SB,wf,hsm,hbx,tok,fun GD sD=>⟨_,rfl,?_⟩⟩
    have SD:=SB.trans sD
    have wtD:=sD _ _ wtB
    cases hm:mayLeave k cs lim (Vawctd.tighten k b) x with
    | false =>
     rw[hm,Bool.false_and] at he
     have:=q GD (S1.trans SD)
     rw[he] at this
     exact iteF this
    | true =>
     rw[hm,Bool.true_and] at he
     have kD:Off wt G GD:=kB.trans (Off.of sD)
     refine iteT ⟨_,rfl,_,_,rfl,rfl,⟨_,_,pl+1,ts0,bs0,fu,rfl,SD,wtD,gw0.mono fun x y _ z=>⟨z.1.keepW g4 kD,z.2⟩,by omega,by omega,by omega,he⟩,?_⟩
     show l.length - ((pl:Int)+1).toNat < l.length - ((pl:Int)).toNat
     omega
  ·rintro σ G Q1 Q2 hq ⟨v1,z1,p1,ys,z2,z3,i,j,z4,z5,kk,z6,z7⟩
   refine⟨v1,z1,p1,ys,z2,z3,i,j,z4,z5,kk,z6,?_⟩
   revert z7
   refine fun z7=>?_
   by_cases hk:kk=true
   ·rw[if_pos hk] at z7 ⊢
    obtain⟨u1,u2,u3,u4,u5,u6,u7,u8,u9,u10,u11,u12,u13,u14,u15⟩:=z7
    exact⟨u1,u2,u3,u4,u5,u6,u7,u8,u9,u10,u11,u12,u13,u14,hq _ _ u15⟩
   ·rw[if_neg hk] at z7 ⊢
    exact hq _ _ z7
end
end Ww
end
section
namespace Ww
open PySem PySem.Spec PyProof.Rows L2
open Vawctd (Known Edge Fact inRange toInts countsOf Box isEmptyBox isFixed Found isGood isLet fixedCounts widest costBy)
section
variable {P:Program} {w:World} {K:PySem.W.Frag} {mg:Str->Option Value} {base:Heap} {C CM CO:Addr}
abbrev s_held_with:Stmt:=top 23
theorem sc_held_with:FnScope ["held","costs","facts","other"] ["held","costs","facts"] (k0m s_held_with):=⟨rfl,rfl,rfl,by decide +kernel,rfl,by decide +kernel,by decide +kernel⟩
def sp_held_with (C:Addr):Sp:=fun vs H Q _=>∃ (p aK aF:Addr) (k k':Known) (h:HA) (cs:List Int) (fts:List (Addr × Addr)),vs=[.ref p,.ref aK,.ref aF]∧HeldR C H p k h∧H aK=some (.lst (cs.map V.int))∧cs.length=k.edges.length∧k'.nodes=k.nodes∧k'.edges=k.edges∧k'.bans=k.bans ∧
 H aF=some (.lst (fts.map fun z=>V.ref z.1))∧fts.length=k'.facts.length∧(∀ (i:Nat) (z:Addr × Addr) (f:Fact),fts[i]?=some z->k'.facts[i]?=some f->H z.1=some (.tup [.ref z.2,.int f.bound])∧H z.2=some (.lst (f.mults.map V.int))) ∧
 ∀ H' p' h',Same H H'->HeldC C H' p' k' cs h'->Q (.ref p') H'
theorem ok_held_with {fI:Addr} {fdI:FuncData} (c:Cl K C) (D:Dfn K mg "held_with" s_held_with ["held","costs","facts"]) (M_Held:Mk K C fI) (G_Held:FnOk P w K mg base CX0 1 fI fdI ["self"] (sp_init C)) (m_Held:mg "Held"=some (.ref C)) (b_Held:Binds K fdI ["self"] []):Prom P w K mg base 3 "held_with" ["held","costs","facts"] (sp_held_with C):=by
 refine D.prom sc_held_with (fun vs H Q E h=>?_) (fun f cdv A outer s H vs Q E hr h=>?_)
 ·obtain⟨_,_,_,_,_,_,_,_,rfl,_⟩:=h
  rfl
 ·obtain⟨p,aK,aF,k,k',h,cs,fts,rfl,X,hK,hc,e1,e2,e3,hF,hl,hats,q⟩:=h
  refine⟨_,(k0e (k1m (i:=3) sc_held_with.nd rfl (Or.inl rfl) (pe_make0 M_Held G_Held (hr.mono (by decide)) rfl m_Held b_Held .nil pass0)) (k0e (ps_fld (pv 3) (k0v K rfl (pv 0) rfl) rfl) (k0e (ps_fld (pv 3) (k0v K rfl (pv 0) rfl) rfl) (k0e (ps_fld (pv 3) (k0v K rfl (pv 0) rfl) rfl) (k0e (ps_fld (pv 3) (pv 1) rfl) (k0e (ps_fld (pv 3) (k0v K rfl (pv 0) rfl) rfl) (k0e (ps_fld (pv 3) (pv 2) rfl) (k0e (ps_fld (pv 3) (k0v K rfl (pv 0) rfl) rfl) (k0j (k0q (pv 3))))))))))),?_⟩
  intro n dx hn hdx hne
  have s0:Same H (upd (upd H dx (.own n)) n (.ins C dx [])):=fun b o e=>by rw[k0p (k0h e hn),k0p (k0h e hdx)];exact e
  refine⟨n,dx,rfl,k0f,fun H1 h0 x0 b1 f0=>⟨rfl,?_⟩⟩
  have S1:Same H H1:=fun b o e=>b1 b o (s0 b o e) (k0h e hn)
  have o1:=x0.obj
  have pn:p≠n:=k0h X.obj hn
  have X1:=X.same S1
  have put:∀ (G:Hp) (fs:List (Str × V)),Same H G->Same H (upd G n (.ins C h0.dx fs)):=fun G fs s=>s.put hn
  refine⟨_,rfl,p,C,_,_,_,rfl,X1.obj,c.cl,c.nodes,hf_nodes,_,rfl,n,C,h0.dx,_,rfl,o1,c.cl,c.nodes,hf_len,?_⟩
  rw[pf_nodes]
  have S2:=put H1 (hf k.nodes h0.aL h0.aC h0.aK h0.aM h0.aF h0.aB) S1
  have o2:(upd H1 n (.ins C h0.dx (hf k.nodes h0.aL h0.aC h0.aK h0.aM h0.aF h0.aB))) n=some (.ins C h0.dx (hf k.nodes h0.aL h0.aC h0.aK h0.aM h0.aF h0.aB)):=k0f
  generalize upd H1 n (.ins C h0.dx (hf k.nodes h0.aL h0.aC h0.aK h0.aM h0.aF h0.aB))=H2 at S2 o2
  refine⟨_,rfl,p,C,_,_,_,rfl,(X.same S2).obj,c.cl,c.leaves,hf_leaves,_,rfl,n,C,h0.dx,_,rfl,o2,c.cl,c.leaves,hf_len,?_⟩
  rw[pf_leaves]
  have S3:=put H2 (hf k.nodes h.aL h0.aC h0.aK h0.aM h0.aF h0.aB) S2
  have o3:(upd H2 n (.ins C h0.dx (hf k.nodes h.aL h0.aC h0.aK h0.aM h0.aF h0.aB))) n=some (.ins C h0.dx (hf k.nodes h.aL h0.aC h0.aK h0.aM h0.aF h0.aB)):=k0f
  generalize upd H2 n (.ins C h0.dx (hf k.nodes h.aL h0.aC h0.aK h0.aM h0.aF h0.aB))=H3 at S3 o3
  refine⟨_,rfl,p,C,_,_,_,rfl,(X.same S3).obj,c.cl,c.comes,hf_comes,_,rfl,n,C,h0.dx,_,rfl,o3,c.cl,c.comes,hf_len,?_⟩
  rw[pf_comes]
  have S4:=put H3 (hf k.nodes h.aL h.aC h0.aK h0.aM h0.aF h0.aB) S3
  have o4:(upd H3 n (.ins C h0.dx (hf k.nodes h.aL h.aC h0.aK h0.aM h0.aF h0.aB))) n=some (.ins C h0.dx (hf k.nodes h.aL h.aC h0.aK h0.aM h0.aF h0.aB)):=k0f
  generalize upd H3 n (.ins C h0.dx (hf k.nodes h.aL h.aC h0.aK h0.aM h0.aF h0.aB))=H4 at S4 o4
  refine⟨_,rfl,_,rfl,n,C,h0.dx,_,rfl,o4,c.cl,c.costs,hf_len,?_⟩
  rw[pf_costs]
  have S5:=put H4 (hf k.nodes h.aL h.aC aK h0.aM h0.aF h0.aB) S4
  have o5:(upd H4 n (.ins C h0.dx (hf k.nodes h.aL h.aC aK h0.aM h0.aF h0.aB))) n=some (.ins C h0.dx (hf k.nodes h.aL h.aC aK h0.aM h0.aF h0.aB)):=k0f
  generalize upd H4 n (.ins C h0.dx (hf k.nodes h.aL h.aC aK h0.aM h0.aF h0.aB))=H5 at S5 o5
  refine⟨_,rfl,p,C,_,_,_,rfl,(X.same S5).obj,c.cl,c.mosts,hf_mosts,_,rfl,n,C,h0.dx,_,rfl,o5,c.cl,c.mosts,hf_len,?_⟩
  rw[pf_mosts]
  have S6:=put H5 (hf k.nodes h.aL h.aC aK h.aM h0.aF h0.aB) S5
  have o6:(upd H5 n (.ins C h0.dx (hf k.nodes h.aL h.aC aK h.aM h0.aF h0.aB))) n=some (.ins C h0.dx (hf k.nodes h.aL h.aC aK h.aM h0.aF h0.aB)):=k0f
  generalize upd H5 n (.ins C h0.dx (hf k.nodes h.aL h.aC aK h.aM h0.aF h0.aB))=H6 at S6 o6
  refine⟨_,rfl,_,rfl,n,C,h0.dx,_,rfl,o6,c.cl,c.facts,hf_len,?_⟩
  rw[pf_facts]
  have S7:=put H6 (hf k.nodes h.aL h.aC aK h.aM aF h0.aB) S6
  have o7:(upd H6 n (.ins C h0.dx (hf k.nodes h.aL h.aC aK h.aM aF h0.aB))) n=some (.ins C h0.dx (hf k.nodes h.aL h.aC aK h.aM aF h0.aB)):=k0f
  generalize upd H6 n (.ins C h0.dx (hf k.nodes h.aL h.aC aK h.aM aF h0.aB))=H7 at S7 o7
  refine⟨_,rfl,p,C,_,_,_,rfl,(X.same S7).obj,c.cl,c.bans,hf_bans,_,rfl,n,C,h0.dx,_,rfl,o7,c.cl,c.bans,hf_len,?_⟩
  rw[pf_bans]
  have S8:=put H7 (hf k.nodes h.aL h.aC aK h.aM aF h.aB) S7
  have o8:(upd H7 n (.ins C h0.dx (hf k.nodes h.aL h.aC aK h.aM aF h.aB))) n=some (.ins C h0.dx (hf k.nodes h.aL h.aC aK h.aM aF h.aB)):=k0f
  generalize upd H7 n (.ins C h0.dx (hf k.nodes h.aL h.aC aK h.aM aF h.aB))=H8 at S8 o8
  have X8:=X.same S8
  refine⟨_,rfl,q H8 n ⟨h0.dx,h.aL,h.aC,aK,h.aM,aF,h.aB,fts,h.bts⟩ S8 ⟨⟨?_,?_,?_,?_,S8 _ _ hF,X8.ba,hl,?_,fun i z f a b=>⟨S8 _ _ (hats i z f a b).1,S8 _ _ (hats i z f a b).2⟩,?_⟩,S8 _ _ hK,?_⟩⟩
  ·rw[e1];exact o8
  ·rw[e2];exact X8.lv
  ·rw[e2];exact X8.cm
  ·rw[e2];exact X8.mo
  ·rw[e3];exact X8.blen
  ·rw[e3];exact X8.bats
  ·rw[e2];exact hc
abbrev s_ended:Stmt:=top 93
theorem sc_ended:FnScope ["outcome","if_found","if_none"] ["outcome","if_found","if_none"] (k0m s_ended):=⟨rfl,rfl,rfl,by decide +kernel,rfl,by decide +kernel,by decide +kernel⟩
def endRow (r:Vawctd.Result) (xs ys:List V):List V:=if r.broken then [.int 2] else match r.best with
 | none=>.int 1::ys
 | some _=>.int 0::xs
def sp_ended (CO:Addr):Sp:=fun vs H Q _=>∃ (o a b:Addr) (xs ys:List V) (r:Vawctd.Result),vs=[.ref o,.ref a,.ref b]∧OutAt CO H o r∧H a=some (.lst xs)∧H b=some (.lst ys)∧xs.length≤100000∧ys.length≤100000∧∀ H' l,Same H H'->H l=none->H' l=some (.lst (endRow r xs ys))->Q (.ref l) H'
theorem ok_ended (T:Txt K mg) (co:ClO K CO) (D:Dfn K mg "ended" s_ended ["outcome","if_found","if_none"]):Prom P w K mg base 1 "ended" ["outcome","if_found","if_none"] (sp_ended CO):=by
 refine D.prom sc_ended (fun vs H Q E h=>?_) (fun f cdv A outer s H vs Q E hr h=>?_)
 ·obtain⟨_,_,_,_,_,_,rfl,_⟩:=h
  rfl
 ·obtain⟨o,a,b,xs,ys,r,rfl,⟨dx,ac,ap,cc,ho,hbest,_⟩,ha,hb,lx,ly,q⟩:=h
  refine⟨_,(k0e (ps_if (k1r K rfl (k0v K rfl (pv 0) rfl) (fun _=>rfl)) (k0j (k0q (k1g (k0a (k0y rfl T.c_BROKEN_OFF) k0g)))) k0z) (k0e (ps_if (k0x op_eq (k1a (lenK K rfl) (by rfl) T.n_len PySem.boot_len (k0a (k0v K rfl (pv 0) rfl) k0g)) k0n (k1e _)) (k0j (k0q (pe_op op_cat (k1g (k0a (k0y rfl T.c_NONE_LET) k0g)) (pv 2)))) k0z) (k0j (k0q (pe_op op_cat (k1g (k0a (k0y rfl T.c_FOUND) k0g)) (pv 1)))))),?_⟩
  have big:∀ n:Nat,n≤100000->1+n≤sizeLine:=fun n hn=>Nat.le_trans (show 1+n≤100001 by omega) (by decide)
  unfold endRow at q
  refine⟨_,rfl,o,CO,_,_,_,rfl,ho,co.cl,co.broken,ofl_broken,_,rfl,?_⟩
  cases hbr:r.broken with
  | true =>
   rw[hbr] at q
   exact iteT ⟨(by show 1≤sizeLine;decide),fun l hl=>q _ l (Same.new hl) hl k0f⟩
  | false =>
   rw[hbr] at q
   simp only[Bool.false_eq_true,if_false] at q
   obtain⟨zs,hz⟩:=hbest.get
   refine iteF ⟨_,rfl,o,CO,_,_,_,rfl,ho,co.cl,co.counts,ofl_counts,_,_,rfl,.inl (SqL.of hz),rfl,_,rfl,?_⟩
   rw[k1u]
   rcases hbest with ⟨be,bl,bc⟩|⟨fd,be,bl,bc,bp⟩
   ·have ez:zs=[]:=by rw[hz] at bl;cases bl;rfl
    subst ez
    rw[be] at q
    refine iteT ⟨(by show 1≤sizeLine;decide),fun l0 hl0=>⟨_,rfl,l0,b,_,_,rfl,rfl,k0f,(Same.new hl0) _ _ hb,big _ ly,fun l hl=>?_⟩⟩
    exact q _ l ((Same.new hl0).grow hl) ((Same.new hl0).free hl) k0f
   ·have ez:zs=(toInts fd.counts).map V.int:=by rw[hz] at bl;cases bl;rfl
    subst ez
    rw[be] at q
    rw[ints_len,decide_eq_false (p:=(fd.counts.length:Int)=0) (by omega)]
    refine iteF ⟨(by show 1≤sizeLine;decide),fun l0 hl0=>⟨_,rfl,l0,a,_,_,rfl,rfl,k0f,(Same.new hl0) _ _ ha,big _ lx,fun l hl=>?_⟩⟩
    exact q _ l ((Same.new hl0).grow hl) ((Same.new hl0).free hl) k0f
end
end Ww
end
section
namespace Ww
open PySem PySem.Spec PyProof.Rows L2
open Vawctd (Known Edge Fact inRange toInts countsOf Box isEmptyBox isFixed Found isGood isLet fixedCounts widest costBy)
theorem end_is (r:Vawctd.Result) {xs ys:List V} {f:Found->List Int} {nn:List Int} (hy:ys=nn.map V.int) (hx:∀ fd,r.best=some fd->xs=(f fd).map V.int):endRow r xs ys=(Vawctd.resultRow r f nn).map V.int:=by
 unfold endRow Vawctd.resultRow
 cases r.broken with
 | true=>rfl
 | false =>
  simp only[Bool.false_eq_true,if_false]
  cases hb:r.best with
  | none=>rw[hy];rfl
  | some fd=>rw[hx fd hb];rfl
theorem flat_take {b:Box} {i:Nat} {z:Int × Int} (h:b[i]?=some z):(b.take (i+1)).flatMap (fun z=>[z.1,z.2])=(b.take i).flatMap (fun z=>[z.1,z.2])++[z.1,z.2]:=by
 rw[List.take_add_one,h,Option.toList_some,List.flatMap_append]
 simp
theorem flat_len (b:Box):(b.flatMap fun z=>[z.1,z.2]).length=2*b.length:=by
 induction b with
 | nil=>rfl
 | cons z b ih=>rw[List.flatMap_cons,List.length_append,ih];simp;omega
theorem Wf.small {k:Known} (wf:Wf k):SmallC (Vawctd.costsOf k):=costs_small fun d hd=>(wf.ed d hd).2.2.1
theorem good_sum {k:Known} {f:Found} (wf:Wf k) (h:f.counts.length=k.edges.length∧∀ c∈f.counts,c≤9):Vawctd.sum f.counts≤144:=by
 have:=sum_le9 f.counts h.2
 have:=wf.e16
 omega
section
variable {P:Program} {w:World} {K:PySem.W.Frag} {mg:Str->Option Value} {base:Heap} {C CM CO:Addr}
def sp_ask (C:Addr) (call:Vawctd.Call):Sp:=fun vs H Q _=>∃ (p:Addr) (k:Known) (h:HA),vs=[.ref p]∧HeldAt C H p k h∧Wf k∧Ans C p H h (Vawctd.step k call) Q
abbrev s_box:Stmt:=top 85
theorem sc_box:FnScope ["held","tight","answer","low","high"] ["held"] (k0m s_box):=⟨rfl,rfl,rfl,by decide +kernel,rfl,by decide +kernel,by decide +kernel⟩
theorem ok_box {fM:Addr} {fdM:FuncData} (T:Txt K mg) (c:Cl K C) (D:Dfn K mg "box" s_box ["held"]) (M_Measures:Mk K CM fM) (G_Measures:FnOk P w K mg base CX0 3 fM fdM ["self","held"] (sp_init_Measures C CM)) (m_Measures:mg "Measures"=some (.ref CM)) (b_Measures:Binds K fdM ["self","held"] [])
  (p_whole_box:Prom P w K mg base 1 "whole_box" ["held"] (sp_whole_box C)) (p_tightened:Prom P w K mg base 3 "tightened" ["measures","box"] (sp_tightened CM)) (p_is_empty:Prom P w K mg base 1 "is_empty" ["box"] sp_is_empty):Prom P w K mg base 5 "box" ["held"] (sp_ask C .box):=by
 refine D.prom sc_box (fun vs H Q E h=>?_) (fun f cdv A outer s H vs Q E hr h=>?_)
 ·obtain⟨_,_,_,rfl,_⟩:=h
  rfl
 ·obtain⟨p,k,h,rfl,X,wf,q⟩:=h
  refine⟨_,(k0e (k1m (i:=1) sc_box.nd rfl (Or.inl rfl) (k0u p_tightened (hr.mono (by decide)) rfl (k0a (pe_make M_Measures G_Measures (hr.mono (by decide)) rfl m_Measures b_Measures .nil pass0 (k0a (pv 0) k0g)) (k0a (k0u p_whole_box (hr.mono (by decide)) rfl (k0a (pv 0) k0g)) k0g)))) (k0e (ps_if (k1r K rfl (k0u p_is_empty (hr.mono (by decide)) rfl (k0a (pv 1) k0g)) (fun _=>rfl)) (k0j (k0q (k1g (k0a k0n k0g)))) k0z) (k0e (k1m (i:=2) sc_box.nd rfl (Or.inl rfl) (k1g (k0a k0n k0g))) (k0e (ps_for PassesOwn.never rfl (pi_zipK K rfl rfl T.n_zip (k0a (pe_ix (ixK_tup K rfl) (pv 1) k0n (fun _ _=>rfl)) (k0a (pe_ix (ixK_tup K rfl) (pv 1) k0n (fun _ _=>rfl)) k0g))) (pg_tupK K (n:=2) rfl rfl (k1h (k1f (i:=3) sc_box.nd rfl (by first|exact Or.inl rfl|exact Or.inr rfl)) (k1h (k1f (i:=4) sc_box.nd rfl (by first|exact Or.inl rfl|exact Or.inr rfl)) pgs_nil))) (k0j (ps_expr (pe_bm PySem.F.plainAttrs_list PySem.F.slot_list_extend PySem.F.type_list_extend mt_extend (pv 2) (k0a (k1g (k0a (pv 3) (k0a (pv 4) k0g))) k0g))))) (k0j (k0q (pv 2))))))),?_⟩
  have e16:=wf.e16
  have fml:∀ f∈k.facts,f.mults.length=k.edges.length:=fun f hf=>(wf.fm f hf).1
  have e0:Vawctd.step k .box=(k,if isEmptyBox (Vawctd.tighten k (Vawctd.wholeBox k)) then [1] else 0::(Vawctd.tighten k (Vawctd.wholeBox k)).flatMap fun z=>[z.1,z.2]):=rfl
  rw[e0] at q
  have wok:BoxOk k.edges.length (Vawctd.wholeBox k):=whole_ok fun d hd=>(wf.ed d hd).2.2.2
  have tok:=tighten_ok fml wok
  refine⟨_,rfl,fun m dx hm hdx hne=>?_⟩
  have s0:Same H (upd (upd H dx (.own m)) m (.ins CM dx [])):=fun b o e=>by rw[k0p (k0h e hm),k0p (k0h e hdx)];exact e
  refine⟨m,dx,p,k,_,h,rfl,k0f,X.c.same s0,wf,fun H1 M1 b1=>⟨rfl,?_⟩⟩
  have S1:Same H H1:=fun b o e=>b1 b o (s0 b o e) (k0h e hm)
  refine⟨_,rfl,p,k,h,rfl,(X.same S1).r,wf,fun H2 t0 s2 hb0=>⟨m,t0,k,_,Vawctd.wholeBox k,rfl,M1.same s2,wf,hb0.box,wok.len,fun H3 t3 s3 hb3=>?_⟩⟩
  have S3:=(S1.trans s2).trans s3
  have hb3:=hb3.box
  generalize Vawctd.tighten k (Vawctd.wholeBox k)=b at q hb3 tok
  have blen:=tok.len
  refine⟨_,rfl,t3,b,rfl,hb3,by omega,fun H4 s4=>⟨_,rfl,?_⟩⟩
  have S4:=S3.trans s4
  cases hem:isEmptyBox b with
  | true =>
   rw[hem] at q
   exact iteT ⟨(by show 1≤sizeLine;decide),fun r hr=>q.ask X S4 hr⟩
  | false =>
   rw[hem] at q
   simp only[Bool.false_eq_true,if_false] at q
   obtain⟨al,ah,ht,hal,hah⟩:=hb3.same s4
   refine iteF ⟨(by show 1≤sizeLine;decide),fun an han=>?_⟩
   have s5:Same H4 (upd H4 an (.lst [.int 0])):=Same.new han
   have hann:H an=none:=S4.free han
   have ql:SqL K H4 al ((lows b).map V.int):=SqL.of hal
   have qh:SqL K H4 ah ((highs b).map V.int):=SqL.of hah
   refine⟨_,rfl,t3,_,_,_,rfl,rfl,SqT.of (s5 _ _ ht),k1n (j:=0) rfl,_,rfl,t3,_,_,_,rfl,rfl,SqT.of (s5 _ _ ht),k1n (j:=1) rfl,al,ah,_,_,rfl,s5.seq ql,s5.seq qh,
    for_gen (J:=Itz K al ah) (n:=k.edges.length) (fun i σ G=>∃ v3 v4:Option V,σ=[some (.ref p),some (.ref t3),some (.ref an),v3,v4]∧Same H4 G∧G an=some (.lst ((0::(b.take i).flatMap (fun z=>[z.1,z.2])).map V.int)))
    ⟨none,none,rfl,s5,k0f⟩ (fun i σ G hi ⟨_,_,_,s6,_⟩=>⟨_,_,_,_,s6.seq ql,s6.seq qh,List.getElem?_eq_getElem (by rw[List.length_map,lows_len,blen];exact hi),List.getElem?_eq_getElem (by rw[List.length_map,highs_len,blen];exact hi)⟩)
    (fun σ G ⟨_,_,_,s6,_⟩=>⟨_,_,s6.seq ql,s6.seq qh,.inl (by rw[List.length_map,lows_len,blen];exact Nat.le_refl _)⟩) ?_ ?_⟩
   ·rintro i x σ G G' hi ⟨v3,v4,rfl,s6,gan⟩ ⟨T,x1,x2,rfl,hT,rfl,y1,y2⟩
    have hz:=get_at (b:=b) (i:=i) (by omega)
    have e1:=y1 _ (s6.seq ql)
    have e2:=y2 _ (s6.seq qh)
    rw[List.getElem?_map,lows_get hz] at e1
    rw[List.getElem?_map,highs_get hz] at e2
    cases e1
    cases e2
    have ft:=flat_take hz
    generalize b.getD i (0,0)=z at ft
    have s7:Same G (upd G T (.tup [.int z.1,.int z.2])):=Same.new hT
    have gan7:=s7 _ _ gan
    refine⟨T,_,rfl,SqT.of k0f,rfl,_,_,rfl,_,_,rfl,rfl,?_⟩
    refine⟨_,rfl,.inl ⟨rfl,_,SqL.of gan7⟩,_,rfl,_,rfl,(by show 2≤sizeLine;decide),fun l2 hl2=>?_⟩
    have s8:=Same.new (o:=.lst [.int z.1,.int z.2]) hl2
    have fl:=flat_len (b.take i)
    rw[List.length_take] at fl
    refine⟨an,l2,_,_,rfl,rfl,s8 _ _ gan7,k0f,(by rw[List.length_map,List.length_cons,fl];exact k1q (by show 2*min i b.length+1+2≤1000;omega)),?_⟩
    refine⟨_,_,rfl,((s6.trans s7).trans s8).put han,?_⟩
    rw[k0f,ft]
    simp
   ·rintro σ G ⟨v3,v4,rfl,s6,gan⟩
    rw[← blen,List.take_length] at gan
    exact⟨_,rfl,q G an h (Aft.ask X (S4.trans s6)) hann gan⟩
abbrev s_bound:Stmt:=top 86
theorem sc_bound:FnScope ["held"] ["held"] (k0m s_bound):=⟨rfl,rfl,rfl,by decide +kernel,rfl,by decide +kernel,by decide +kernel⟩
theorem ok_bound {fM:Addr} {fdM:FuncData} (T:Txt K mg) (c:Cl K C) (D:Dfn K mg "bound" s_bound ["held"]) (M_Measures:Mk K CM fM) (G_Measures:FnOk P w K mg base CX0 3 fM fdM ["self","held"] (sp_init_Measures C CM)) (m_Measures:mg "Measures"=some (.ref CM)) (b_Measures:Binds K fdM ["self","held"] [])
  (p_whole_box:Prom P w K mg base 1 "whole_box" ["held"] (sp_whole_box C)) (p_bound_of:Prom P w K mg base 1 "bound_of" ["measures","box"] (sp_bound_of CM)) (p_potentials:Prom P w K mg base 2 "potentials" ["held"] (sp_potentials C)):Prom P w K mg base 5 "bound" ["held"] (sp_ask C .bound):=by
 refine D.prom sc_bound (fun vs H Q E h=>?_) (fun f cdv A outer s H vs Q E hr h=>?_)
 ·obtain⟨_,_,_,rfl,_⟩:=h
  rfl
 ·obtain⟨p,k,h,rfl,X,wf,q⟩:=h
  refine⟨_,(k0j (k0q (pe_op op_cat (k1g (k0a k0n (k0a (k0u p_bound_of (hr.mono (by decide)) rfl (k0a (pe_make M_Measures G_Measures (hr.mono (by decide)) rfl m_Measures b_Measures .nil pass0 (k0a (pv 0) k0g)) (k0a (k0u p_whole_box (hr.mono (by decide)) rfl (k0a (pv 0) k0g)) k0g))) k0g))) (k0u p_potentials (hr.mono (by decide)) rfl (k0a (pv 0) k0g))))),?_⟩
  have n8:=wf.n8
  have e0:Vawctd.step k .bound=(k,0::Vawctd.boundOf k (Vawctd.costsOf k) (Vawctd.wholeBox k)::Vawctd.potentials k (Vawctd.costsOf k)):=rfl
  rw[e0] at q
  have wok:BoxOk k.edges.length (Vawctd.wholeBox k):=whole_ok fun d hd=>(wf.ed d hd).2.2.2
  refine⟨_,rfl,fun m dx hm hdx hne=>?_⟩
  have s0:Same H (upd (upd H dx (.own m)) m (.ins CM dx [])):=fun b o e=>by rw[k0p (k0h e hm),k0p (k0h e hdx)];exact e
  refine⟨m,dx,p,k,_,h,rfl,k0f,X.c.same s0,wf,fun H1 M1 b1=>⟨rfl,?_⟩⟩
  have S1:Same H H1:=fun b o e=>b1 b o (s0 b o e) (k0h e hm)
  refine⟨_,rfl,p,k,h,rfl,(X.same S1).r,wf,fun H2 t0 s2 hb0=>⟨m,t0,k,_,Vawctd.wholeBox k,rfl,M1.same s2,wf,X.c.clen,wf.small,hb0.box,wok.len,fun H3 s3=>⟨(by show 2≤sizeLine;decide),fun l1 hl1=>?_⟩⟩⟩
  have S3:=(S1.trans s2).trans s3
  have S4:=S3.grow (o:=.lst [.int 0,.int (Vawctd.boundOf k (Vawctd.costsOf k) (Vawctd.wholeBox k))]) hl1
  refine⟨_,rfl,p,k,_,h,rfl,X.c.same S4,wf,fun H5 l5 s5 n5 h5=>⟨l1,l5,_,_,rfl,rfl,s5 _ _ k0f,h5,(by rw[List.length_map,potentials_len];exact k1q (by show 2+k.nodes≤1000;omega)),fun r hr=>?_⟩⟩
  exact q.ask X (S4.trans s5) hr
abbrev s_worst:Stmt:=top 87
theorem sc_worst:FnScope ["held","outcome"] ["held"] (k0m s_worst):=⟨rfl,rfl,rfl,by decide +kernel,rfl,by decide +kernel,by decide +kernel⟩
theorem ok_worst (T:Txt K mg) (co:ClO K CO) (D:Dfn K mg "worst" s_worst ["held"]) (p_search:Prom P w K mg base 7 "search" ["held"] (sp_search C CO)) (p_ended:Prom P w K mg base 1 "ended" ["outcome","if_found","if_none"] (sp_ended CO)):Prom P w K mg base 8 "worst" ["held"] (sp_ask C .worst):=by
 refine D.prom sc_worst (fun vs H Q E h=>?_) (fun f cdv A outer s H vs Q E hr h=>?_)
 ·obtain⟨_,_,_,rfl,_⟩:=h
  rfl
 ·obtain⟨p,k,h,rfl,X,wf,q⟩:=h
  refine⟨_,(k0e (k1m (i:=1) sc_worst.nd rfl (Or.inl rfl) (k0u p_search (hr.mono (by decide)) rfl (k0a (pv 0) k0g))) (k0j (k0q (k0u p_ended (hr.mono (by decide)) rfl (k0a (pv 1) (k0a (pe_op op_cat (k1g (k0a (k0v K rfl (pv 1) rfl) (k0a (k0v K rfl (pv 1) rfl) k0g))) (k0v K rfl (pv 1) rfl)) (k0a (k1g (k0a (k0v K rfl (pv 1) rfl) k0g)) k0g))))))),?_⟩
  have e16:=wf.e16
  have e0:Vawctd.step k .worst=(k,Vawctd.resultRow (Vawctd.search k (Vawctd.costsOf k)) (fun b=>b.cost::((Vawctd.search k (Vawctd.costsOf k)).taken:Int)::toInts b.counts) [((Vawctd.search k (Vawctd.costsOf k)).taken:Int)]):=rfl
  rw[e0] at q
  refine⟨_,rfl,p,k,_,h,rfl,X.c,wf,wf.small,fun H1 o s1 out gb tk pl=>?_⟩
  generalize Vawctd.search k (Vawctd.costsOf k)=r at q out gb tk pl
  obtain⟨dx,ac,ap,cc,ho,hbest,hap⟩:=out
  obtain⟨zs,hz⟩:=hbest.get
  have zl:zs.length≤16:=by
   rcases hbest with ⟨be,bl,bc⟩|⟨fd,be,bl,bc,bp⟩
   ·rw[hz] at bl;cases bl;simp
   ·rw[hz] at bl;cases bl;rw[ints_len,(gb.good fd be).2.1];exact e16
  refine⟨_,rfl,_,rfl,o,CO,_,_,_,rfl,ho,co.cl,co.cost,ofl_cost,_,rfl,o,CO,_,_,_,rfl,ho,co.cl,co.taken,ofl_taken,(by show 2≤sizeLine;decide),fun l1 hl1=>?_⟩
  have s2:=Same.new (o:=.lst [.int cc,.int (r.taken:Int)]) hl1
  refine⟨_,rfl,o,CO,_,_,_,rfl,s2 _ _ ho,co.cl,co.counts,ofl_counts,l1,ac,_,zs,rfl,rfl,k0f,s2 _ _ hz,k1q (by show 2+zs.length≤1000;omega),fun l2 hl2=>?_⟩
  have s3:=s2.grow (o:=.lst ([.int cc,.int (r.taken:Int)]++zs)) hl2
  refine⟨_,rfl,o,CO,_,_,_,rfl,s3 _ _ ho,co.cl,co.taken,ofl_taken,(by show 1≤sizeLine;decide),fun l3 hl3=>?_⟩
  have s4:=s3.grow (o:=.lst [.int (r.taken:Int)]) hl3
  refine⟨o,l2,l3,_,_,r,rfl,OutAt.same s4 ⟨dx,ac,ap,cc,ho,hbest,hap⟩,(Same.new hl3) _ _ k0f,k0f,(by rw[List.length_append];show 2+zs.length≤100000;omega),(by show 1≤100000;decide),fun H5 l5 s5 n5 h5=>?_⟩
  have S5:=(s1.trans s4).trans s5
  refine q H5 l5 h (Aft.ask X S5) ((s1.trans s4).free n5) ?_
  rw[h5]
  refine congrArg (fun l=>some (HO.lst l)) (end_is r rfl fun fd hfd=>?_)
  rcases hbest with ⟨be,bl,bc⟩|⟨fd',be,bl,bc,bp⟩
  ·rw[be] at hfd;cases hfd
  ·rw[be] at hfd
   cases hfd
   rw[hz] at bl
   cases bl
   rw[bc]
   rfl
abbrev s_gone:Stmt:=top 88
theorem sc_gone:FnScope ["held","outcome"] ["held"] (k0m s_gone):=⟨rfl,rfl,rfl,by decide +kernel,rfl,by decide +kernel,by decide +kernel⟩
theorem ok_gone (T:Txt K mg) (co:ClO K CO) (D:Dfn K mg "gone" s_gone ["held"]) (p_search:Prom P w K mg base 7 "search" ["held"] (sp_search C CO)) (p_ended:Prom P w K mg base 1 "ended" ["outcome","if_found","if_none"] (sp_ended CO)) (p_told_way:Prom P w K mg base 6 "told_way" ["held","counts"] (sp_told_way K C)):Prom P w K mg base 8 "gone" ["held"] (sp_ask C .gone):=by
 refine D.prom sc_gone (fun vs H Q E h=>?_) (fun f cdv A outer s H vs Q E hr h=>?_)
 ·obtain⟨_,_,_,rfl,_⟩:=h
  rfl
 ·obtain⟨p,k,h,rfl,X,wf,q⟩:=h
  refine⟨_,(k0e (k1m (i:=1) sc_gone.nd rfl (Or.inl rfl) (k0u p_search (hr.mono (by decide)) rfl (k0a (pv 0) k0g))) (k0j (k0q (k0u p_ended (hr.mono (by decide)) rfl (k0a (pv 1) (k0a (k0u p_told_way (hr.mono (by decide)) rfl (k0a (pv 0) (k0a (k0v K rfl (pv 1) rfl) k0g))) (k0a (k1g k0g) k0g))))))),?_⟩
  have e0:Vawctd.step k .gone=(k,Vawctd.resultRow (Vawctd.search k (Vawctd.costsOf k)) (fun b=>toInts (Vawctd.toldWay k b.counts)) []):=rfl
  rw[e0] at q
  refine⟨_,rfl,p,k,_,h,rfl,X.c,wf,wf.small,fun H1 o s1 out gb tk pl=>?_⟩
  generalize Vawctd.search k (Vawctd.costsOf k)=r at q out gb tk pl
  obtain⟨dx,ac,ap,cc,ho,hbest,hap⟩:=out
  have cx:∃ x:Vawctd.Counts,H1 ac=some (.lst ((toInts x).map V.int))∧(0 < Vawctd.sum x->x.length=k.edges.length∧Vawctd.fits k x=true)∧Vawctd.sum x≤144∧∀ fd,r.best=some fd->fd.counts=x:=by
   rcases hbest with ⟨be,bl,bc⟩|⟨fd,be,bl,bc,bp⟩
   ·exact⟨[],bl,fun z=>by simp[Vawctd.sum] at z,by simp[Vawctd.sum],fun fd hfd=>by rw[be] at hfd;cases hfd⟩
   ·obtain⟨g1,g2,g3⟩:=gb.good fd be
    unfold isGood at g1
    rw[Bool.and_eq_true] at g1
    exact⟨fd.counts,bl,fun _=>⟨g2,g1.1⟩,good_sum wf ⟨g2,g3⟩,fun fd' hfd=>by rw[be] at hfd;cases hfd;rfl⟩
  obtain⟨x,hx,hfit,hsum,hcx⟩:=cx
  refine⟨_,rfl,_,rfl,_,rfl,o,CO,_,_,_,rfl,ho,co.cl,co.counts,ofl_counts,p,ac,x,k,h,rfl,X.same s1,wf,SqL.of hx,hfit,by omega,fun H2 l2 s2 n2 h2=>⟨Nat.zero_le _,fun l3 hl3=>?_⟩⟩
  have s3:=s2.grow (o:=.lst []) hl3
  have tl:(Vawctd.toldWay k x).length≤Vawctd.sum x:=toldFrom_len k _ _ _
  refine⟨o,l2,l3,_,[],r,rfl,OutAt.same s3 ⟨dx,ac,ap,cc,ho,hbest,hap⟩,(Same.new hl3) _ _ h2,k0f,(by rw[ints_len];omega),(by show 0≤100000;decide),fun H5 l5 s5 n5 h5=>?_⟩
  refine q H5 l5 h (Aft.ask X ((s1.trans s3).trans s5)) ((s1.trans s3).free n5) ?_
  rw[h5]
  refine congrArg (fun l=>some (HO.lst l)) (end_is r rfl fun fd hfd=>?_)
  rw[hcx fd hfd]
abbrev s_proof:Stmt:=top 92
theorem sc_proof:FnScope ["held","outcome"] ["held"] (k0m s_proof):=⟨rfl,rfl,rfl,by decide +kernel,rfl,by decide +kernel,by decide +kernel⟩
theorem ok_proof (T:Txt K mg) (co:ClO K CO) (D:Dfn K mg "proof" s_proof ["held"]) (p_search:Prom P w K mg base 7 "search" ["held"] (sp_search C CO)) (p_ended:Prom P w K mg base 1 "ended" ["outcome","if_found","if_none"] (sp_ended CO)):Prom P w K mg base 8 "proof" ["held"] (sp_ask C .proof):=by
 refine D.prom sc_proof (fun vs H Q E h=>?_) (fun f cdv A outer s H vs Q E hr h=>?_)
 ·obtain⟨_,_,_,rfl,_⟩:=h
  rfl
 ·obtain⟨p,k,h,rfl,X,wf,q⟩:=h
  refine⟨_,(k0e (k1m (i:=1) sc_proof.nd rfl (Or.inl rfl) (k0u p_search (hr.mono (by decide)) rfl (k0a (pv 0) k0g))) (k0j (k0q (k0u p_ended (hr.mono (by decide)) rfl (k0a (pv 1) (k0a (pe_op op_cat (k1g (k0a (k0v K rfl (pv 1) rfl) k0g)) (k0v K rfl (pv 1) rfl)) (k0a (k0v K rfl (pv 1) rfl) k0g))))))),?_⟩
  have e0:Vawctd.step k .proof=(k,Vawctd.resultRow (Vawctd.search k (Vawctd.costsOf k)) (fun b=>b.cost::(Vawctd.search k (Vawctd.costsOf k)).proof) (Vawctd.search k (Vawctd.costsOf k)).proof):=rfl
  rw[e0] at q
  refine⟨_,rfl,p,k,_,h,rfl,X.c,wf,wf.small,fun H1 o s1 out gb tk pl=>?_⟩
  generalize Vawctd.search k (Vawctd.costsOf k)=r at q out gb tk pl
  obtain⟨dx,ac,ap,cc,ho,hbest,hap⟩:=out
  refine⟨_,rfl,_,rfl,o,CO,_,_,_,rfl,ho,co.cl,co.cost,ofl_cost,(by show 1≤sizeLine;decide),fun l1 hl1=>?_⟩
  have s2:=Same.new (o:=.lst [.int cc]) hl1
  refine⟨_,rfl,o,CO,_,_,_,rfl,s2 _ _ ho,co.cl,co.proof,ofl_proof,l1,ap,_,_,rfl,rfl,k0f,s2 _ _ hap,(by rw[List.length_map];exact Nat.le_trans (show 1+r.proof.length≤1201 by omega) (by decide)),fun l2 hl2=>?_⟩
  have s3:=s2.grow (o:=.lst ([.int cc]++r.proof.map V.int)) hl2
  refine⟨_,rfl,o,CO,_,_,_,rfl,s3 _ _ ho,co.cl,co.proof,ofl_proof,?_⟩
  refine⟨o,l2,ap,_,_,r,rfl,OutAt.same s3 ⟨dx,ac,ap,cc,ho,hbest,hap⟩,k0f,s3 _ _ hap,(by rw[List.length_append,List.length_map];show 1+r.proof.length≤100000;omega),(by rw[List.length_map];omega),fun H5 l5 s5 n5 h5=>?_⟩
  refine q H5 l5 h (Aft.ask X ((s1.trans s3).trans s5)) ((s1.trans s3).free n5) ?_
  rw[h5]
  refine congrArg (fun l=>some (HO.lst l)) (end_is r rfl fun fd hfd=>?_)
  rcases hbest with ⟨be,bl,bc⟩|⟨fd',be,bl,bc,bp⟩
  ·rw[be] at hfd;cases hfd
  ·rw[be] at hfd
   cases hfd
   rw[bc]
   rfl
abbrev s_check:Stmt:=top 94
theorem sc_check:FnScope ["held","b","numbers"] ["held","b","numbers"] (k0m s_check):=⟨rfl,rfl,rfl,by decide +kernel,rfl,by decide +kernel,by decide +kernel⟩
def sp_check (K:PySem.W.Frag) (C:Addr):Sp:=fun vs H Q _=>∃ (p a:Addr) (b:Int) (l:List Int) (k:Known) (h:HA),vs=[.ref p,.int b,.ref a]∧HeldAt C H p k h∧Wf k∧SqL K H a (l.map V.int)∧l.length≤100000∧Ans C p H h (Vawctd.step k (.check b l)) Q
theorem ok_check (T:Txt K mg) (D:Dfn K mg "check" s_check ["held","b","numbers"]) (p_proves:Prom P w K mg base 6 "proves" ["held","b","proof"] (sp_proves K C)):Prom P w K mg base 7 "check" ["held","b","numbers"] (sp_check K C):=by
 refine D.prom sc_check (fun vs H Q E h=>?_) (fun f cdv A outer s H vs Q E hr h=>?_)
 ·obtain⟨_,_,_,_,_,_,rfl,_⟩:=h
  rfl
 ·obtain⟨p,a,b,l,k,h,rfl,X,wf,ha,hl,q⟩:=h
  refine⟨_,(k0j (k0q (k1g (k0a (pe_ifExp (k1r K rfl (k0u p_proves (hr.mono (by decide)) rfl (k0a (pv 0) (k0a (pv 1) (k0a (pv 2) k0g)))) (fun _=>rfl)) k0n k0n) k0g)))),?_⟩
  have q:Ans C p H h (k,[if Vawctd.proves k (Vawctd.costsOf k) b l then 1 else 0]) Q:=q
  refine⟨_,rfl,_,rfl,_,rfl,p,a,b,l,k,h,rfl,X,wf,ha,hl,fun H1 s1=>⟨_,rfl,?_⟩⟩
  cases hp:Vawctd.proves k (Vawctd.costsOf k) b l with
  | true =>
   rw[hp] at q
   exact iteT ⟨(by show 1≤sizeLine;decide),fun r hr=>q.ask X s1 hr⟩
  | false =>
   rw[hp] at q
   exact iteF ⟨(by show 1≤sizeLine;decide),fun r hr=>q.ask X s1 hr⟩
abbrev s_size:Stmt:=top 95
theorem sc_size:FnScope ["held"] ["held"] (k0m s_size):=⟨rfl,rfl,rfl,by decide +kernel,rfl,by decide +kernel,by decide +kernel⟩
theorem ok_size (T:Txt K mg) (c:Cl K C) (D:Dfn K mg "size" s_size ["held"]):Prom P w K mg base 1 "size" ["held"] (sp_ask C .size):=by
 refine D.prom sc_size (fun vs H Q E h=>?_) (fun f cdv A outer s H vs Q E hr h=>?_)
 ·obtain⟨_,_,_,rfl,_⟩:=h
  rfl
 ·obtain⟨p,k,h,rfl,X,wf,q⟩:=h
  refine⟨_,(k0j (k0q (k1g (k0a k0n (k0a (k0v K rfl (pv 0) rfl) (k0a (k1a (lenK K rfl) (by rfl) T.n_len PySem.boot_len (k0a (k0v K rfl (pv 0) rfl) k0g)) (k0a (k1a (lenK K rfl) (by rfl) T.n_len PySem.boot_len (k0a (k0v K rfl (pv 0) rfl) k0g)) (k0a (k1a (lenK K rfl) (by rfl) T.n_len PySem.boot_len (k0a (k0v K rfl (pv 0) rfl) k0g)) k0g)))))))),?_⟩
  have e0:Vawctd.step k .size=(k,[0,(k.nodes:Int),(k.edges.length:Int),(k.facts.length:Int),(k.bans.length:Int)]):=rfl
  rw[e0] at q
  refine⟨_,rfl,p,C,_,_,_,rfl,X.obj,c.cl,c.nodes,hf_nodes,_,rfl,p,C,_,_,_,rfl,X.obj,c.cl,c.costs,hf_costs,_,_,rfl,.inl (SqL.of X.co),_,rfl,p,C,_,_,_,rfl,X.obj,c.cl,c.facts,hf_facts,_,_,rfl,.inl (SqL.of X.fa),_,rfl,p,C,_,_,_,rfl,X.obj,c.cl,c.bans,hf_bans,_,_,rfl,.inl (SqL.of X.ba),(by show 5≤sizeLine;decide),fun r hr=>?_⟩
  rw[List.length_map,List.length_map,List.length_map,List.length_map,X.flen,X.blen]
  exact q.ask X Same.rfl' hr
end
end Ww
end
section
namespace Ww
open PySem PySem.Spec PyProof.Rows L2
open Vawctd (Known Edge Fact inRange toInts countsOf Box isEmptyBox isFixed Found isGood isLet fixedCounts widest costBy)
theorem cut_to (xs:List V) (i:Nat) (h:i≤xs.length):cutV xs none (some (i:Int))=xs.take i:=by
 unfold cutV
 have e:HT.sIx xs.length xs.length (some (i:Int))=i:=by
  show (if (i:Int) < 0 then ((i:Int)+(xs.length:Int)).toNat else min ((i:Int)).toNat xs.length)=_
  rw[if_neg (by omega),Int.toNat_natCast]
  omega
 rw[HT.sIx_none,e,List.drop_zero,Nat.sub_zero]
theorem cut_from (xs:List V) (i:Nat) (j:Int) (h:i≤xs.length) (hj:j=(i:Int)):cutV xs (some j) none=xs.drop i:=by
 subst hj
 unfold cutV
 have e:HT.sIx xs.length 0 (some (i:Int))=i:=by
  show (if (i:Int) < 0 then ((i:Int)+(xs.length:Int)).toNat else min ((i:Int)).toNat xs.length)=_
  rw[if_neg (by omega),Int.toNat_natCast]
  omega
 rw[HT.sIx_none,e,List.take_of_length_le (by rw[List.length_drop];omega)]
theorem wf_without {k:Known} (w:Wf k) (i:Nat):Wf (Vawctd.withoutFact k i) :=
 ⟨w.n2,w.n8,w.e1,w.e16,w.ed,Nat.le_trans (L2.len_erase _ _) w.f6,w.b4,fun f hf=>w.fm f (List.mem_of_mem_eraseIdx hf),w.bm⟩
section
variable {P:Program} {w:World} {K:PySem.W.Frag} {mg:Str->Option Value} {base:Heap} {C CM CO:Addr}
abbrev s_least:Stmt:=top 89
theorem sc_least:FnScope ["held","outcome","cost"] ["held"] (k0m s_least):=⟨rfl,rfl,rfl,by decide +kernel,rfl,by decide +kernel,by decide +kernel⟩
theorem ok_least (T:Txt K mg) (c:Cl K C) (co:ClO K CO) (D:Dfn K mg "least" s_least ["held"]) (p_search:Prom P w K mg base 7 "search" ["held"] (sp_search C CO)) (p_ended:Prom P w K mg base 1 "ended" ["outcome","if_found","if_none"] (sp_ended CO)) (p_held_with:Prom P w K mg base 3 "held_with" ["held","costs","facts"] (sp_held_with C)):Prom P w K mg base 8 "least" ["held"] (sp_ask C .least):=by
 refine D.prom sc_least (fun vs H Q E h=>?_) (fun f cdv A outer s H vs Q E hr h=>?_)
 ·obtain⟨_,_,_,rfl,_⟩:=h
  rfl
 ·obtain⟨p,k,h,rfl,X,wf,q⟩:=h
  refine⟨_,(k0e (k1m (i:=1) sc_least.nd rfl (Or.inl rfl) (k0u p_search (hr.mono (by decide)) rfl (k0a (k0u p_held_with (hr.mono (by decide)) rfl (k0a (pv 0) (k0a (pe_lc (own:=[("cost",2)]) rfl sc_least.nd (pi_listK K rfl (k0v K rfl (pv 0) rfl)) (blkOk_by (by exact (show blkC ["held","outcome","cost"] (k0m s_least) _ _=true by decide +kernel))) (fun _ _ _ _ _=>(k1f (i:=2) sc_least.nd rfl (by first|exact Or.inl rfl|exact Or.inr rfl))) (fun _ _ _ _ _=>pts_nil) (fun _ _ _ _ _=>(pe_un un_neg (pv 2)))) (k0a (k0v K rfl (pv 0) rfl) k0g)))) k0g))) (k0j (k0q (k0u p_ended (hr.mono (by decide)) rfl (k0a (pv 1) (k0a (k1g (k0a (pe_un un_neg (k0v K rfl (pv 1) rfl)) (k0a (k0v K rfl (pv 1) rfl) k0g))) (k0a (k1g (k0a (k0v K rfl (pv 1) rfl) k0g)) k0g))))))),?_⟩
  have e16:=wf.e16
  have e0:Vawctd.step k .least=(k,Vawctd.resultRow (Vawctd.search k (Vawctd.negated (Vawctd.costsOf k))) (fun b=>[-b.cost,((Vawctd.search k (Vawctd.negated (Vawctd.costsOf k))).taken:Int)]) [((Vawctd.search k (Vawctd.negated (Vawctd.costsOf k))).taken:Int)]):=rfl
  rw[e0] at q
  have hsm:SmallC (Vawctd.negated (Vawctd.costsOf k)):=fun z hz=>by
   unfold Vawctd.negated at hz
   obtain⟨y,hy,rfl⟩:=List.mem_map.mp hz
   have:=wf.small y hy
   omega
  have qk:SqL K H h.aK ((Vawctd.costsOf k).map V.int):=SqL.of X.co
  refine⟨_,rfl,_,rfl,p,C,_,_,_,rfl,X.obj,c.cl,c.costs,hf_costs,h.aK,rfl,⟨_,qk⟩,fun D hD=>lc_L (xs:=(Vawctd.costsOf k).map V.int) (onI fun n=>some (V.int (-n))) hD (k1q (by rw[List.length_map,X.c.clen];omega)) qk (fun i x H2 Y N e hS hY hN=>?_) (fun H2 s2 h2=>?_)⟩
  ·obtain⟨n,hn,rfl⟩:=get_int e
   exact⟨rfl,_,rfl,_,rfl,hY _ _ rfl Same.rfl'⟩
  have h2:H2 D=some (.lst ((Vawctd.negated (Vawctd.costsOf k)).map V.int)):=by rw[h2,fm_ints _ (fun n=>-n)];rfl
  have X2:=X.same s2
  refine⟨_,rfl,p,C,_,_,_,rfl,X2.obj,c.cl,c.facts,hf_facts,p,D,h.aF,k,k,h,Vawctd.negated (Vawctd.costsOf k),h.fts,rfl,X2.r,h2,(by unfold Vawctd.negated;rw[List.length_map];exact X.c.clen),rfl,rfl,rfl,X2.fa,X2.flen,X2.fats,fun H3 p3 h3 s3 X3=>?_⟩
  refine⟨p3,k,_,h3,rfl,X3,wf,hsm,fun H1 o s1 out gb tk pl=>?_⟩
  have S1:=(s2.trans s3).trans s1
  generalize Vawctd.search k (Vawctd.negated (Vawctd.costsOf k))=r at q out gb tk pl
  obtain⟨dx,ac,ap,cc,ho,hbest,hap⟩:=out
  refine⟨_,rfl,_,rfl,o,CO,_,_,_,rfl,ho,co.cl,co.cost,ofl_cost,_,rfl,_,rfl,o,CO,_,_,_,rfl,ho,co.cl,co.taken,ofl_taken,(by show 2≤sizeLine;decide),fun l2 hl2=>?_⟩
  have s3':=Same.new (o:=.lst [.int (-cc),.int (r.taken:Int)]) hl2
  refine⟨_,rfl,o,CO,_,_,_,rfl,s3' _ _ ho,co.cl,co.taken,ofl_taken,(by show 1≤sizeLine;decide),fun l3 hl3=>?_⟩
  have s4:=s3'.grow (o:=.lst [.int (r.taken:Int)]) hl3
  refine⟨o,l2,l3,_,_,r,rfl,OutAt.same s4 ⟨dx,ac,ap,cc,ho,hbest,hap⟩,(Same.new hl3) _ _ k0f,k0f,(by show 2≤100000;decide),(by show 1≤100000;decide),fun H5 l5 s5 n5 h5=>?_⟩
  refine q H5 l5 h (Aft.ask X ((S1.trans s4).trans s5)) ((S1.trans s4).free n5) ?_
  rw[h5]
  refine congrArg (fun l=>some (HO.lst l)) (end_is r rfl fun fd hfd=>?_)
  rcases hbest with ⟨be,bl,bc⟩|⟨fd',be,bl,bc,bp⟩
  ·rw[be] at hfd;cases hfd
  ·rw[be] at hfd
   cases hfd
   rw[bc]
   rfl
abbrev s_most:Stmt:=top 90
theorem sc_most:FnScope ["held","e","costs","outcome","edge"] ["held","e"] (k0m s_most):=⟨rfl,rfl,rfl,by decide +kernel,rfl,by decide +kernel,by decide +kernel⟩
def sp_ask1 (C:Addr) (call:Int->Vawctd.Call):Sp:=fun vs H Q _=>∃ (p:Addr) (n:Int) (k:Known) (h:HA),vs=[.ref p,.int n]∧HeldAt C H p k h∧Wf k∧Ans C p H h (Vawctd.step k (call n)) Q
theorem only_len (k:Known) (e:Nat):(Vawctd.onlyEdge k e).length=k.edges.length:=by unfold Vawctd.onlyEdge;simp
theorem ok_most (T:Txt K mg) (c:Cl K C) (co:ClO K CO) (D:Dfn K mg "most" s_most ["held","e"]) (p_is_edge:Prom P w K mg base 2 "is_edge" ["held","edge"] (sp_is_edge K C)) (p_search:Prom P w K mg base 7 "search" ["held"] (sp_search C CO)) (p_ended:Prom P w K mg base 1 "ended" ["outcome","if_found","if_none"] (sp_ended CO)) (p_held_with:Prom P w K mg base 3 "held_with" ["held","costs","facts"] (sp_held_with C)):Prom P w K mg base 8 "most" ["held","e"] (sp_ask1 C .most):=by
 refine D.prom sc_most (fun vs H Q E h=>?_) (fun f cdv A outer s H vs Q E hr h=>?_)
 ·obtain⟨_,_,_,_,rfl,_⟩:=h
  rfl
 ·obtain⟨p,e,k,h,rfl,X,wf,q⟩:=h
  refine⟨_,(k0e (ps_if (pt_not (k1r K rfl (k0u p_is_edge (hr.mono (by decide)) rfl (k0a (pv 0) (k0a (pv 1) k0g))) (fun _=>rfl))) (k0j (k0q (k1g (k0a (k0y rfl T.c_NO_SUCH_NUMBER) k0g)))) k0z) (k0e (ps_setLc (i:=2) (own:=[("edge",4)]) rfl sc_most.nd rfl rfl (sw_true rfl rfl rfl rfl) (pi_range1 rfl T.n_range (k0a (k1a (lenK K rfl) (by rfl) T.n_len PySem.boot_len (k0a (k0v K rfl (pv 0) rfl) k0g)) k0g)) (blkOk_by (by exact (show blkC ["held","e","costs","outcome","edge"] (k0m s_most) _ _=true by decide +kernel))) (fun _ _ _ _ _=>(k1f (i:=4) sc_most.nd rfl (by first|exact Or.inl rfl|exact Or.inr rfl))) (fun _ _ _ _ _=>pts_nil) (fun _ _ _ _ _=>(pe_ifExp (k0x op_eq (pv 4) (pv 1) (k1e _)) k0n k0n))) (k0e (k1m (i:=3) sc_most.nd rfl (Or.inl rfl) (k0u p_search (hr.mono (by decide)) rfl (k0a (k0u p_held_with (hr.mono (by decide)) rfl (k0a (pv 0) (k0a (pv 2) (k0a (k0v K rfl (pv 0) rfl) k0g)))) k0g))) (k0j (k0q (k0u p_ended (hr.mono (by decide)) rfl (k0a (pv 3) (k0a (k1g (k0a (k0v K rfl (pv 3) rfl) k0g)) (k0a (k1g k0g) k0g))))))))),?_⟩
  have e16:=wf.e16
  have e0:Vawctd.step k (.most e)=(k,if Vawctd.isEdge k e then Vawctd.resultRow (Vawctd.search k (Vawctd.onlyEdge k e.toNat)) (fun b=>[b.cost]) [] else [-3]):=rfl
  rw[e0] at q
  refine⟨_,rfl,_,rfl,p,e,k,h,rfl,X,_,rfl,?_⟩
  cases he:Vawctd.isEdge k e with
  | false =>
   rw[he] at q
   exact iteT ⟨(by show 1≤sizeLine;decide),fun r hr=>q.ask X Same.rfl' hr⟩
  | true =>
   rw[he] at q
   simp only[if_true] at q
   obtain⟨e0',e1'⟩:=(isEdge_iff k e).mp he
   have hsm:SmallC (Vawctd.onlyEdge k e.toNat):=fun z hz=>by
    unfold Vawctd.onlyEdge at hz
    obtain⟨y,hy,rfl⟩:=List.mem_map.mp hz
    split<;>omega
   refine iteF ⟨_,rfl,p,C,_,_,_,rfl,X.obj,c.cl,c.costs,hf_costs,_,_,rfl,.inl (SqL.of X.co),_,rfl,(by rw[List.length_map,List.length_map];omega),(by rw[List.length_map,List.length_map];omega),?_⟩
   rw[List.length_map,List.length_map,Int.toNat_natCast]
   refine fun D hD=>lc_R (fun i=>some (V.int (if i=e.toNat then 1 else 0))) hD (k1q (by omega)) (fun i H2 Y N hi hS hY hN=>?_) (fun H2 s2 h2=>?_)
   ·refine⟨rfl,_,rfl,_,rfl,rfl,_,rfl,?_⟩
    rw[k1u]
    have ei:decide ((0:Int)+(i:Int)=e)=decide (i=e.toNat):=by
     by_cases z:i=e.toNat
     ·rw[decide_eq_true z,decide_eq_true (by omega)]
     ·rw[decide_eq_false z,decide_eq_false (by omega)]
    rw[ei]
    refine ite2 (fun h1=>hY _ _ ?_ Same.rfl') (fun h1=>hY _ _ ?_ Same.rfl')
    ·rw[if_pos (of_decide_eq_true h1)]
    ·rw[if_neg (of_decide_eq_false (eq_false_of_ne_true h1))]
   have h2:H2 D=some (.lst ((Vawctd.onlyEdge k e.toNat).map V.int)):=by
    rw[h2,List.filterMap_eq_map']
    unfold Vawctd.onlyEdge
    rw[List.map_map]
    rfl
   have X2:=X.same s2
   refine⟨_,rfl,_,rfl,_,rfl,p,C,_,_,_,rfl,X2.obj,c.cl,c.facts,hf_facts,p,D,h.aF,k,k,h,Vawctd.onlyEdge k e.toNat,h.fts,rfl,X2.r,h2,only_len _ _,rfl,rfl,rfl,X2.fa,X2.flen,X2.fats,fun H3 p3 h3 s3 X3=>?_⟩
   refine⟨p3,k,_,h3,rfl,X3,wf,hsm,fun H1 o s1 out gb tk pl=>?_⟩
   have S1:=(s2.trans s3).trans s1
   generalize Vawctd.search k (Vawctd.onlyEdge k e.toNat)=r at q out gb tk pl
   obtain⟨dx,ac,ap,cc,ho,hbest,hap⟩:=out
   refine⟨_,rfl,_,rfl,o,CO,_,_,_,rfl,ho,co.cl,co.cost,ofl_cost,(by show 1≤sizeLine;decide),fun l2 hl2=>⟨Nat.zero_le _,fun l3 hl3=>?_⟩⟩
   have s3':=Same.new (o:=.lst [.int cc]) hl2
   have s4:=s3'.grow (o:=.lst []) hl3
   refine⟨o,l2,l3,_,[],r,rfl,OutAt.same s4 ⟨dx,ac,ap,cc,ho,hbest,hap⟩,(Same.new hl3) _ _ k0f,k0f,(by show 1≤100000;decide),(by show 0≤100000;decide),fun H5 l5 s5 n5 h5=>?_⟩
   refine q H5 l5 h (Aft.ask X ((S1.trans s4).trans s5)) ((S1.trans s4).free n5) ?_
   rw[h5]
   refine congrArg (fun l=>some (HO.lst l)) (end_is r rfl fun fd hfd=>?_)
   rcases hbest with ⟨be,bl,bc⟩|⟨fd',be,bl,bc,bp⟩
   ·rw[be] at hfd;cases hfd
   ·rw[be] at hfd
    cases hfd
    rw[bc]
    rfl
abbrev s_without:Stmt:=top 91
theorem sc_without:FnScope ["held","k","outcome"] ["held","k"] (k0m s_without):=⟨rfl,rfl,rfl,by decide +kernel,rfl,by decide +kernel,by decide +kernel⟩
theorem ok_without (T:Txt K mg) (c:Cl K C) (co:ClO K CO) (D:Dfn K mg "without" s_without ["held","k"]) (p_is_place:Prom P w K mg base 1 "is_place" ["number","things"] (sp_is_place K)) (p_search:Prom P w K mg base 7 "search" ["held"] (sp_search C CO)) (p_ended:Prom P w K mg base 1 "ended" ["outcome","if_found","if_none"] (sp_ended CO)) (p_held_with:Prom P w K mg base 3 "held_with" ["held","costs","facts"] (sp_held_with C)):Prom P w K mg base 8 "without" ["held","k"] (sp_ask1 C .without):=by
 refine D.prom sc_without (fun vs H Q E h=>?_) (fun f cdv A outer s H vs Q E hr h=>?_)
 ·obtain⟨_,_,_,_,rfl,_⟩:=h
  rfl
 ·obtain⟨p,e,k,h,rfl,X,wf,q⟩:=h
  refine⟨_,(k0e (ps_if (pt_not (k1r K rfl (k0u p_is_place (hr.mono (by decide)) rfl (k0a (pv 1) (k0a (k0v K rfl (pv 0) rfl) k0g))) (fun _=>rfl))) (k0j (k0q (k1g (k0a (k0y rfl T.c_NO_SUCH_NUMBER) k0g)))) k0z) (k0e (k1m (i:=2) sc_without.nd rfl (Or.inl rfl) (k0u p_search (hr.mono (by decide)) rfl (k0a (k0u p_held_with (hr.mono (by decide)) rfl (k0a (pv 0) (k0a (k0v K rfl (pv 0) rfl) (k0a (pe_op op_cat (pe_slice (slK_list K rfl) (k0v K rfl (pv 0) rfl) po_none (po_some (pv 1))) (pe_slice (slK_list K rfl) (k0v K rfl (pv 0) rfl) (po_some (pe_op op_add (pv 1) k0n)) po_none)) k0g)))) k0g))) (k0j (k0q (k0u p_ended (hr.mono (by decide)) rfl (k0a (pv 2) (k0a (k1g (k0a (k0v K rfl (pv 2) rfl) k0g)) (k0a (k1g k0g) k0g)))))))),?_⟩
  have f6:=wf.f6
  have e0:Vawctd.step k (.without e)=(k,if inRange e 0 ((k.facts.length:Int) - 1) then Vawctd.resultRow (Vawctd.search (Vawctd.withoutFact k e.toNat) (Vawctd.costsOf k)) (fun b=>[b.cost]) [] else [-3]):=rfl
  rw[e0] at q
  refine⟨_,rfl,_,rfl,p,C,_,_,_,rfl,X.obj,c.cl,c.facts,hf_facts,e,_,_,rfl,SqL.of X.fa,_,rfl,?_⟩
  rw[List.length_map,X.flen]
  cases he:inRange e 0 ((k.facts.length:Int) - 1) with
  | false =>
   rw[he] at q
   exact iteT ⟨(by show 1≤sizeLine;decide),fun r hr=>q.ask X Same.rfl' hr⟩
  | true =>
   rw[he] at q
   simp only[if_true] at q
   have hr':=k1j he
   obtain⟨i,rfl⟩:∃ i:Nat,e=(i:Int):=⟨e.toNat,by omega⟩
   rw[Int.toNat_natCast] at q
   have hi:i < k.facts.length:=by omega
   have fl:=X.flen
   have hlx:(h.fts.map fun z=>V.ref z.1).length=k.facts.length:=by rw[List.length_map,X.flen]
   refine iteF ⟨_,rfl,_,rfl,p,C,_,_,_,rfl,X.obj,c.cl,c.costs,hf_costs,_,rfl,p,C,_,_,_,rfl,X.obj,c.cl,c.facts,hf_facts,_,rfl,_,rfl,h.aF,_,rfl,SqL.of X.fa,fun l1 hl1=>?_⟩
   rw[cut_to _ i (by omega)]
   have s1:=Same.new (o:=.lst ((h.fts.map fun z=>V.ref z.1).take i)) hl1
   have X1:=X.same s1
   refine⟨_,rfl,p,C,_,_,_,rfl,X1.obj,c.cl,c.facts,hf_facts,_,rfl,_,_,rfl,rfl,_,rfl,h.aF,_,rfl,SqL.of X1.fa,fun l2 hl2=>?_⟩
   rw[cut_from _ (i+1) _ (by omega) (by show (i:Int)+1=((i+1:Nat):Int);omega)]
   have s2:=s1.grow (o:=.lst ((h.fts.map fun z=>V.ref z.1).drop (i+1))) hl2
   have n12:l1≠l2:=fun z=>by rw[← z,k0f] at hl2;cases hl2
   refine⟨l1,l2,_,_,rfl,rfl,(by rw[k0p n12,k0f]),k0f,k1q (by rw[List.length_take,List.length_drop,hlx];omega),fun l3 hl3=>?_⟩
   have ecat:(h.fts.map fun z=>V.ref z.1).take i++(h.fts.map fun z=>V.ref z.1).drop (i+1)=(h.fts.eraseIdx i).map fun z=>V.ref z.1:=by
    rw[← List.map_take,← List.map_drop,← List.map_append,← List.eraseIdx_eq_take_drop_succ]
   rw[ecat]
   have s3:=s2.grow (o:=.lst ((h.fts.eraseIdx i).map fun z=>V.ref z.1)) hl3
   have X3:=X.same s3
   refine⟨p,h.aK,l3,k,Vawctd.withoutFact k i,h,Vawctd.costsOf k,h.fts.eraseIdx i,rfl,X3.r,X3.co,X.c.clen,rfl,rfl,rfl,k0f,?_,?_,fun H4 p4 h4 s4 X4=>?_⟩
   ·show (h.fts.eraseIdx i).length=(k.facts.eraseIdx i).length
    rw[List.length_eraseIdx,List.length_eraseIdx,fl]
   ·intro j z ft hz hft
    have hft:(k.facts.eraseIdx i)[j]?=some ft:=hft
    rw[List.getElem?_eraseIdx] at hz hft
    by_cases hj:j < i
    ·rw[if_pos hj] at hz hft
     exact X3.fats j z ft hz hft
    ·rw[if_neg hj] at hz hft
     exact X3.fats (j+1) z ft hz hft
   refine⟨p4,Vawctd.withoutFact k i,_,h4,rfl,X4,wf_without wf i,wf.small,fun H1 o s1' out gb tk pl=>?_⟩
   have S1:=(s3.trans s4).trans s1'
   generalize Vawctd.search (Vawctd.withoutFact k i) (Vawctd.costsOf k)=r at q out gb tk pl
   obtain⟨dx,ac,ap,cc,ho,hbest,hap⟩:=out
   refine⟨_,rfl,_,rfl,o,CO,_,_,_,rfl,ho,co.cl,co.cost,ofl_cost,(by show 1≤sizeLine;decide),fun l5 hl5=>⟨Nat.zero_le _,fun l6 hl6=>?_⟩⟩
   have s5:=Same.new (o:=.lst [.int cc]) hl5
   have s6:=s5.grow (o:=.lst []) hl6
   refine⟨o,l5,l6,_,[],r,rfl,OutAt.same s6 ⟨dx,ac,ap,cc,ho,hbest,hap⟩,(Same.new hl6) _ _ k0f,k0f,(by show 1≤100000;decide),(by show 0≤100000;decide),fun H7 l7 s7 n7 h7=>?_⟩
   refine q H7 l7 h (Aft.ask X ((S1.trans s6).trans s7)) ((S1.trans s6).free n7) ?_
   rw[h7]
   refine congrArg (fun l=>some (HO.lst l)) (end_is r rfl fun fd hfd=>?_)
   rcases hbest with ⟨be,bl,bc⟩|⟨fd',be,bl,bc,bp⟩
   ·rw[be] at hfd;cases hfd
   ·rw[be] at hfd
    cases hfd
    rw[bc]
    rfl
end
end Ww
end
section
namespace Ww
open Vawctd
theorem wf_start:Wf Vawctd.start:=⟨by decide,by decide,by decide,by decide,by decide,by decide,by decide,by simp[Vawctd.start],by simp[Vawctd.start]⟩
theorem setEdge_mem {k:Known} {e:Int} {f:Edge->Edge} {d:Edge} (h:d∈(setEdge k e f).edges):∃ d'∈k.edges,d=d'∨d=f d':=by
 unfold setEdge at h
 obtain⟨z,hz,rfl⟩:=List.mem_map.mp h
 have hm:z.1∈k.edges:=by
  obtain⟨i,hi⟩:=List.getElem?_of_mem hz
  rw[List.getElem?_zipIdx] at hi
  obtain⟨d,hd,e⟩:=Option.map_eq_some_iff.mp hi
  rw[← e]
  exact List.mem_of_getElem? hd
 refine⟨z.1,hm,?_⟩
 by_cases q:(z.2:Int)=e
 ·right;simp[q]
 ·left;simp[q]
theorem setEdge_len {k:Known} {e:Int} {f:Edge->Edge}:(setEdge k e f).edges.length=k.edges.length:=by unfold setEdge;simp
theorem wf_step {k:Known} (w:Wf k) (c:Call):Wf (step k c).1:=by
 cases c with
 | graph l =>
  cases h:graphOk l with
  | false=>simp only[step,readGraph_none h];exact w
  | true =>
   obtain⟨k',n,r,_,eg,en,h2,h8,_,ef,eb,h1,h16,hw⟩:=readGraph_some h
   simp only[step,eg]
   exact⟨by omega,by omega,h1,h16,hw,by rw[ef];simp,by rw[eb];simp,by rw[ef];simp,by rw[eb];simp⟩
 | fact l =>
  cases h:readFact k l with
  | none=>simp only[step,h];exact w
  | some f =>
   simp only[step,h]
   split
   ·exact w
   ·rename_i hF
    have hF:¬ (6≤k.facts.length):=hF
    unfold readFact at h
    split at h
    ·rename_i q
     cases h
     refine⟨w.n2,w.n8,w.e1,w.e16,w.ed,by simp;omega,w.b4,fun f hf=>?_,w.bm⟩
     rcases List.mem_append.mp hf with hf|hf
     ·exact w.fm f hf
     ·have e:f={ mults:=l.dropLast,bound:=l.getLastD 0 }:=by simpa using hf
      subst e
      refine⟨by simp[q.1],fun a ha=>?_,?_⟩
      ·exact k1j (List.all_eq_true.mp q.2.1 a ha)
      ·exact k1j q.2.2
    ·cases h
 | ban e f =>
  simp only[step]
  split
  ·exact w
  ·rename_i h1
   split
   ·exact w
   ·rename_i h2
    have h2:¬ (4≤k.bans.length):=h2
    simp only[Bool.or_eq_true,Bool.not_eq_true',beq_iff_eq,not_or,Bool.not_eq_false] at h1
    obtain⟨⟨a,b⟩,c⟩:=h1
    have a:=k1j a
    have b:=k1j b
    refine⟨w.n2,w.n8,w.e1,w.e16,w.ed,w.f6,by simp;omega,w.fm,fun z hz=>?_⟩
    rcases List.mem_append.mp hz with hz|hz
    ·exact w.bm z hz
    ·have e:z=(e.toNat,f.toNat):=by simpa using hz
     subst e
     dsimp only
     omega
 | unfact i =>
  simp only[step]
  split
  ·exact⟨w.n2,w.n8,w.e1,w.e16,w.ed,Nat.le_trans (L2.len_erase _ _) w.f6,w.b4,fun f hf=>w.fm f (List.mem_of_mem_eraseIdx hf),w.bm⟩
  ·exact w
 | unban i =>
  simp only[step]
  split
  ·exact⟨w.n2,w.n8,w.e1,w.e16,w.ed,w.f6,Nat.le_trans (L2.len_erase _ _) w.b4,w.fm,fun b hb=>w.bm b (List.mem_of_mem_eraseIdx hb)⟩
  ·exact w
 | recost e c =>
  simp only[step]
  split
  ·exact w
  ·split
   ·exact w
   ·rename_i h1 h2
    have h2:inRange c 0 1000=true:=by
     cases q:inRange c 0 1000 with
     | true=>rfl
     | false=>have q':inRange c 0 (COST:Nat)=false:=q;rw[q'] at h2;exact (h2 rfl).elim
    have h2:=k1j h2
    refine⟨w.n2,w.n8,by rw[setEdge_len];exact w.e1,by rw[setEdge_len];exact w.e16,fun d hd=>?_,w.f6,w.b4,by rw[setEdge_len];exact w.fm,by rw[setEdge_len];exact w.bm⟩
    obtain⟨d',hd',q⟩:=setEdge_mem hd
    have:=w.ed d' hd'
    rcases q with rfl|rfl
    ·exact this
    ·exact⟨this.1,this.2.1,by dsimp only;omega,this.2.2.2⟩
 | remost e c =>
  simp only[step]
  split
  ·exact w
  ·split
   ·exact w
   ·rename_i h1 h2
    have h2:inRange c 0 9=true:=by
     cases q:inRange c 0 9 with
     | true=>rfl
     | false=>have q':inRange c 0 (MOST:Nat)=false:=q;rw[q'] at h2;exact (h2 rfl).elim
    have h2:=k1j h2
    refine⟨w.n2,w.n8,by rw[setEdge_len];exact w.e1,by rw[setEdge_len];exact w.e16,fun d hd=>?_,w.f6,w.b4,by rw[setEdge_len];exact w.fm,by rw[setEdge_len];exact w.bm⟩
    obtain⟨d',hd',q⟩:=setEdge_mem hd
    have:=w.ed d' hd'
    rcases q with rfl|rfl
    ·exact this
    ·exact⟨this.1,this.2.1,this.2.2.1,by dsimp only;omega⟩
 | way l=>exact w
 | fits l=>exact w
 | told l=>exact w
 | box=>exact w
 | bound=>exact w
 | worst=>exact w
 | gone=>exact w
 | least=>exact w
 | most e=>exact w
 | without i=>exact w
 | proof=>exact w
 | check b l=>exact w
 | size=>exact w
theorem wf_nstep {k:Known} (w:Wf k) (c:List (List Int)):Wf (VawctdNeutral.step k c).1:=by
 unfold VawctdNeutral.step
 split
 ·exact wf_step w _
 ·exact w
theorem lit20 {p:Int→Prop} (h0:p 0) (h1:p 1) (h2:p 2) (h3:p 3) (h4:p 4) (h5:p 5) (h6:p 6) (h7:p 7) (h8:p 8) (h9:p 9) (h10:p 10) (h11:p 11) (h12:p 12) (h13:p 13) (h14:p 14) (h15:p 15) (h16:p 16) (h17:p 17) (h18:p 18) (h19:p 19) (b:∀ n:Nat,p (Int.ofNat (n+20))) (c:∀ n:Nat,p (Int.negSucc n)):∀ q:Int,p q
 | .ofNat 0=>h0
 | .ofNat 1=>h1
 | .ofNat 2=>h2
 | .ofNat 3=>h3
 | .ofNat 4=>h4
 | .ofNat 5=>h5
 | .ofNat 6=>h6
 | .ofNat 7=>h7
 | .ofNat 8=>h8
 | .ofNat 9=>h9
 | .ofNat 10=>h10
 | .ofNat 11=>h11
 | .ofNat 12=>h12
 | .ofNat 13=>h13
 | .ofNat 14=>h14
 | .ofNat 15=>h15
 | .ofNat 16=>h16
 | .ofNat 17=>h17
 | .ofNat 18=>h18
 | .ofNat 19=>h19
 | .ofNat (n+20)=>b n
 | .negSucc n=>c n
theorem whole_q (t:List Int) (u:List (List Int)) (q:Int):PyVawctd.whole ((q::t)::u)=(q::t)::u:=by
 rcases t with _ | ⟨x,_ | ⟨y,_ | ⟨z,t⟩⟩⟩ <;> rcases u with _ | ⟨r,_ | ⟨s,u⟩⟩
 all_goals exact lit20 (p:=fun q=>PyVawctd.whole ((q::_)::_)=(q::_)::_) rfl rfl rfl rfl rfl rfl rfl rfl rfl rfl rfl rfl rfl rfl rfl rfl rfl rfl rfl rfl (fun _=>rfl) (fun _=>rfl) q
theorem whole_id (c:List (List Int)):PyVawctd.whole c=c:=by
 match c with
 | []=>rfl
 | []::t=>rcases t with _ | ⟨r,_ | ⟨s,u⟩⟩ <;> rfl
 | (q::t)::u=>exact whole_q t u q
def nums (q:Int):Nat:=([0,0,2,1,1,2,2,0,0,0,0,0,0,0,0,1,1,0,1,0]:List Nat).getD q.toNat 0
def hasRow (q:Int):Bool:=([0,1,7,8,9,18]:List Int).contains q
theorem shape_is {q:Int} {n m:Nat} (h:PyVawctd.shape q=some (n,m)):0≤q∧q≤19∧n=nums q∧m=if hasRow q then 1 else 0:=by
 have hq:0≤q∧q≤19:=by
  apply Classical.byContradiction
  intro no
  have:PyVawctd.shape q=none:=by
   unfold PyVawctd.shape
   repeat rw[if_neg (by omega)]
  rw[this] at h
  cases h
 refine⟨hq.1,hq.2,?_⟩
 obtain⟨i,rfl⟩:∃ i:Nat,q=(i:Int):=⟨q.toNat,by omega⟩
 have hi:i < 20:=by omega
 have key:∀ i:Fin 20,PyVawctd.shape ((i.val:Nat):Int)=some (nums ((i.val:Nat):Int),if hasRow ((i.val:Nat):Int) then 1 else 0):=by decide
 have:=key ⟨i,hi⟩
 rw[this] at h
 cases h
 exact⟨rfl,rfl⟩
structure Parts (c:List (List Int)) (q:Int) (ns rs:List Int):Prop where
 lo:0≤q
 hi:q≤19
 len:ns.length=nums q
 row:hasRow q=true->c=[q::ns,rs]
 norow:hasRow q=false->c=[q::ns]∧rs=[]
theorem parts_of {c:List (List Int)} (h:PyFlat.okCall PyVawctd.shape c):∃ q ns rs,Parts c q ns rs:=by
 obtain⟨q,ns,xs,rfl,hs⟩:=h
 obtain⟨h0,h1,h2,h3⟩:=shape_is hs
 cases hr:hasRow q with
 | true =>
  rw[hr] at h3
  match xs,h3 with
  | [r],_=>exact⟨q,ns,r,h0,h1,h2,fun _=>rfl,fun z=>(by rw[hr] at z;cases z)⟩
 | false =>
  rw[hr] at h3
  match xs,h3 with
  | [],_=>exact⟨q,ns,[],h0,h1,h2,fun z=>(by rw[hr] at z;cases z),fun _=>⟨rfl,rfl⟩⟩
theorem put_parts {c:List (List Int)} {q:Int} {ns rs:List Int} (h:Parts c q ns rs):PyFlat.put1 c=q::ns++(if hasRow q then (rs.length:Int)::rs else []):=by
 cases hr:hasRow q with
 | true =>
  rw[h.row hr]
  show (q::ns)++(PyFlat.putRow rs++[])=_
  rw[List.append_nil]
  rfl
 | false =>
  rw[(h.norow hr).1]
  rfl
end Ww
end
section
namespace Ww
open PySem PySem.Spec PyProof.Rows L2
open Vawctd (Known Edge Fact inRange toInts countsOf)
def after:Known->List (List (List Int))->Known
 | k,[]=>k
 | k,c::r=>after (VawctdNeutral.step k c).1 r
theorem after_append:∀ (k:Known) (a b:List (List (List Int))),after k (a++b)=after (after k a) b
 | k,[],b=>rfl
 | k,c::a,b=>after_append _ a b
theorem played_append:∀ (k:Known) (a b:List (List (List Int))),PyFlat.played VawctdNeutral.step k (a++b)=PyFlat.played VawctdNeutral.step k a++PyFlat.played VawctdNeutral.step (after k a) b
 | k,[],b=>rfl
 | k,c::a,b=>by
  show _::PyFlat.played VawctdNeutral.step _ (a++b)=_::PyFlat.played VawctdNeutral.step _ a++_
  rw[played_append _ a b]
  rfl
theorem put_append:∀ (a b:List (List (List Int))),PyFlat.put (a++b)=PyFlat.put a++PyFlat.put b
 | [],b=>rfl
 | c::a,b=>by
  show PyFlat.put1 c++PyFlat.put (a++b)=(PyFlat.put1 c++PyFlat.put a)++_
  rw[put_append a b,List.append_assoc]
theorem told_append (a b:List (List Int)):PyFlat.told (a++b)=PyFlat.told a++PyFlat.told b:=by
 unfold PyFlat.told
 rw[List.flatMap_append]
theorem cut_mid (A B D:List V) (i j:Int) (hi:i=(A.length:Int)) (hj:j=((A.length+B.length:Nat):Int)):cutV (A++B++D) (some i) (some j)=B:=by
 subst hi hj
 unfold cutV
 have e1:HT.sIx (A++B++D).length 0 (some (A.length:Int))=A.length:=by
  show (if (A.length:Int) < 0 then ((A.length:Int)+((A++B++D).length:Int)).toNat else min ((A.length:Int)).toNat (A++B++D).length)=_
  rw[if_neg (by omega)]
  simp
 have e2:HT.sIx (A++B++D).length (A++B++D).length (some ((A.length+B.length:Nat):Int))=A.length+B.length:=by
  show (if ((A.length+B.length:Nat):Int) < 0 then (((A.length+B.length:Nat):Int)+((A++B++D).length:Int)).toNat else min (((A.length+B.length:Nat):Int)).toNat (A++B++D).length)=_
  rw[if_neg (by omega),Int.toNat_natCast]
  simp only[List.length_append]
  omega
 rw[e1,e2,List.append_assoc,List.drop_left,Nat.add_sub_cancel_left,List.take_left]
theorem cut_none (xs:List V) (i j:Int) (h0:0≤j) (h:j≤i):cutV xs (some i) (some j)=[]:=by
 unfold cutV
 have e1:HT.sIx xs.length 0 (some i)=min i.toNat xs.length:=by
  show (if i < 0 then (i+(xs.length:Int)).toNat else min i.toNat xs.length)=_
  rw[if_neg (by omega)]
 have e2:HT.sIx xs.length xs.length (some j)=min j.toNat xs.length:=by
  show (if j < 0 then (j+(xs.length:Int)).toNat else min j.toNat xs.length)=_
  rw[if_neg (by omega)]
 rw[e1,e2]
 have:min j.toNat xs.length - min i.toNat xs.length=0:=by omega
 rw[this,List.take_zero]
theorem nums_at {q:Int} (h0:0≤q) (h1:q≤19):atI (([0,0,2,1,1,2,2,0,0,0,0,0,0,0,0,1,1,0,1,0]:List Int).map V.int) q=some (.int ((nums q:Nat):Int)):=by
 obtain⟨i,rfl⟩:∃ i:Nat,q=(i:Int):=⟨q.toNat,by omega⟩
 have key:∀ i:Fin 20,([0,0,2,1,1,2,2,0,0,0,0,0,0,0,0,1,1,0,1,0]:List Int)[i.val]?=some ((nums ((i.val:Nat):Int):Nat):Int):=by decide
 exact at_int (key ⟨i,by omega⟩)
theorem row_in {q:Int} (h0:0≤q) (h1:q≤19):inV (.int q) (([0,1,7,8,9,18]:List Int).map V.int)=hasRow q:=by
 obtain⟨i,rfl⟩:∃ i:Nat,q=(i:Int):=⟨q.toNat,by omega⟩
 have key:∀ i:Fin 20,inV (.int ((i.val:Nat):Int)) (([0,1,7,8,9,18]:List Int).map V.int)=hasRow ((i.val:Nat):Int):=by decide
 exact key ⟨i,by omega⟩
theorem HeldAt.put {C:Addr} {H:Hp} {p:Addr} {k:Known} {h:HA} {g:Addr} {xs ys:List V} (x:HeldAt C H p k h) (hg:H g=some (.lst xs)) (hO:g∉Own h):HeldAt C (upd H g (.lst ys)) p k h:=by
 obtain⟨np,nf,nb⟩:=x.ne hg
 have hO:g∉[h.aL,h.aC,h.aK,h.aM,h.aF,h.aB]∧g∉h.fts.map (·.2):=by
  unfold Own at hO
  rw[List.mem_append,not_or] at hO
  exact hO
 simp only[List.mem_cons,not_or,List.not_mem_nil,not_false_eq_true,and_true] at hO
 obtain⟨⟨o1,o2,o3,o4,o5,o6⟩,of⟩:=hO
 refine⟨?_,?_,?_,?_,?_,?_,?_,x.flen,x.blen,fun i z f a b=>?_,fun i z b a c=>?_,x.nd,x.fnd⟩
 ·rw[k0p np];exact x.obj
 ·rw[k0p (Ne.symm o1)];exact x.lv
 ·rw[k0p (Ne.symm o2)];exact x.cm
 ·rw[k0p (Ne.symm o3)];exact x.co
 ·rw[k0p (Ne.symm o4)];exact x.mo
 ·rw[k0p (Ne.symm o5)];exact x.fa
 ·rw[k0p (Ne.symm o6)];exact x.ba
 ·have hm:=List.mem_of_getElem? a
  have h2:z.2≠g:=fun e=>of (List.mem_map.mpr ⟨z,hm,e⟩)
  rw[k0p (nf z hm),k0p h2]
  exact x.fats i z f a b
 ·rw[k0p (nb z (List.mem_of_getElem? a))]
  exact x.bats i z b a c
section
variable {P:Program} {w:World} {K:PySem.W.Frag} {mg:Str->Option Value} {base:Heap} {C:Addr}
def sp_answer_of (K:PySem.W.Frag) (C:Addr):Sp:=fun vs H Q _=>∃ (p a b:Addr) (q:Int) (ns rs:List Int) (c:List (List Int)) (k:Known) (h:HA),vs=[.ref p,.int q,.ref a,.ref b]∧HeldAt C H p k h∧Wf k∧Parts c q ns rs∧SqL K H a (ns.map V.int)∧SqL K H b (rs.map V.int)∧rs.length≤100000 ∧
 Ans C p H h (VawctdNeutral.step k c) Q
abbrev s_answers:Stmt:=top 124
theorem sc_answers:FnScope ["calls","held","given","place","call","row_place","end","answer"] ["calls"] (k0m s_answers):=⟨rfl,rfl,rfl,by decide +kernel,rfl,by decide +kernel,by decide +kernel⟩
def sp_answers (K:PySem.W.Frag):Sp:=fun vs H Q _=>∃ (a:Addr) (l:List Int) (cs:List (List (List Int))),vs=[.ref a]∧SqL K H a (l.map V.int)∧l.length≤100000∧l=PyFlat.put cs∧(∀ c∈cs,PyFlat.okCall PyVawctd.shape c)∧(PyFlat.told (PyFlat.played VawctdNeutral.step Vawctd.start cs)).length≤10000000 ∧
 ∀ (H':Hp) (r:Addr),H' r=some (.lst ((PyFlat.told (PyFlat.played VawctdNeutral.step Vawctd.start cs)).map V.int))->Q (.ref r) H'
theorem ok_answers {fI fa:Addr} {fdI fda:FuncData} (T:Txt K mg) (F:Fun K "answers" "answers" s_answers fa fda) (M_Held:Mk K C fI) (G_Held:FnOk P w K mg base CX0 1 fI fdI ["self"] (sp_init C)) (m_Held:mg "Held"=some (.ref C)) (b_Held:Binds K fdI ["self"] [])
  (p_answer_of:Prom P w K mg base 10 "answer_of" ["held","call","numbers","row"] (sp_answer_of K C)):FnOk P w K mg base CX0 11 fa fda ["calls"] (sp_answers K):=by
 refine F.ok sc_answers (fun vs H Q E h=>?_) (fun cdv A outer s H vs Q E hr h=>?_)
 ·obtain⟨_,_,_,rfl,_⟩:=h
  rfl
 ·obtain⟨a,l,cs,rfl,ha,hn,hput,hok,hshort,q⟩:=h
  refine⟨_,(k0e (k1m (i:=1) sc_answers.nd rfl (Or.inl rfl) (pe_make0 M_Held G_Held (hr.mono (by decide)) rfl m_Held b_Held .nil pass0)) (k0e (k1m (i:=2) sc_answers.nd rfl (Or.inl rfl) (k1g k0g)) (k0e (k1m (i:=3) sc_answers.nd rfl (Or.inl rfl) k0n) (k0e (ps_while PassesOwn.never (k0x op_lt (pv 3) (k1a (lenK K rfl) (by rfl) T.n_len PySem.boot_len (k0a (pv 0) k0g)) (k1e _)) (k0e (k1m (i:=4) sc_answers.nd rfl (Or.inl rfl) (pe_ix (k0w K rfl) (pv 0) (pv 3) (fun _ _=>rfl))) (k0e (k1m (i:=5) sc_answers.nd rfl (Or.inl rfl) (pe_op op_add (pe_op op_add (pv 3) k0n) (pe_ix (ixK_tup K rfl) (pe_gtupK K rfl rfl T.c_NUMBERS) (pv 4) (fun _ _=>rfl)))) (k0e (k1m (i:=6) sc_answers.nd rfl (Or.inl rfl) (pe_op op_add (pv 5) (pe_ifExp (k0x (inK K rfl) (pv 4) (pe_gtupK K rfl rfl T.c_WITH_ROW) (by rfl)) (pe_op op_add k0n (pe_ix (k0w K rfl) (pv 0) (pv 5) (fun _ _=>rfl))) k0n))) (k0e (k1m (i:=7) sc_answers.nd rfl (Or.inl rfl) (k0u p_answer_of (hr.mono (by decide)) rfl (k0a (pv 1) (k0a (pv 4) (k0a (pe_slice (slK_list K rfl) (pv 0) (po_some (pe_op op_add (pv 3) k0n)) (po_some (pv 5))) (k0a (pe_slice (slK_list K rfl) (pv 0) (po_some (pe_op op_add (pv 5) k0n)) (po_some (pv 6))) k0g)))))) (k0e (ps_expr (pe_bm PySem.F.plainAttrs_list PySem.F.slot_list_append PySem.F.type_list_append mt_append (pv 2) (k0a (k1a (lenK K rfl) (by rfl) T.n_len PySem.boot_len (k0a (pv 7) k0g)) k0g))) (k0e (ps_expr (pe_bm PySem.F.plainAttrs_list PySem.F.slot_list_extend PySem.F.type_list_extend mt_extend (pv 2) (k0a (pv 7) k0g))) (k0j (k1m (i:=3) sc_answers.nd rfl (Or.inl rfl) (pv 6)))))))))) (k0j (k0q (pv 2))))))),?_⟩
  intro p dx hp hdx hne
  refine⟨p,dx,rfl,k0f,fun H1 h0 x0 k1 f0=>⟨rfl,?_⟩⟩
  have S1:Same H H1:=fun b o e=>k1 b o (by rw[k0p (k0h e hp),k0p (k0h e hdx)];exact e) (k0h e hp)
  have own0:∀ y∈Own h0,H y=none:=fun y hy=>by
   have e:=f0 y hy
   cases q:H y with
   | none=>rfl
   | some o =>
    rw[k0p (k0h q hp),k0p (k0h q hdx),q] at e
    cases e
  refine⟨Nat.zero_le _,fun g hg=>?_⟩
  have hgn:H g=none:=S1.free hg
  have S2:Same H (upd H1 g (.lst [])):=S1.grow hg
  have x2:HeldAt C (upd H1 g (.lst [])) p Vawctd.start h0:=x0.same (Same.new hg)
  have g0:g∉Own h0:=fun hm=>by
   have hm':g∈[h0.aL,h0.aC,h0.aK,h0.aM,h0.aF,h0.aB]++h0.fts.map (·.2):=hm
   rw[List.mem_append] at hm'
   rcases hm' with hm'|hm'
   ·simp only[List.mem_cons,List.not_mem_nil,or_false] at hm'
    rcases hm' with e|e|e|e|e|e
    ·rw[e,x0.lv] at hg;cases hg
    ·rw[e,x0.cm] at hg;cases hg
    ·rw[e,x0.co] at hg;cases hg
    ·rw[e,x0.mo] at hg;cases hg
    ·rw[e,x0.fa] at hg;cases hg
    ·rw[e,x0.ba] at hg;cases hg
   ·have:h0.fts=[]:=List.eq_nil_of_length_eq_zero x0.flen
    rw[this] at hm'
    cases hm'
  refine while_by (fun σ H'=>∃ (v4 v5 v6 v7:Option V) (done rest:List (List (List Int))) (h:HA),σ=[some (.ref a),some (.ref p),some (.ref g),some (.int ((PyFlat.put done).length:Nat)),v4,v5,v6,v7]∧cs=done++rest∧Same H H'∧HeldAt C H' p (after Vawctd.start done) h∧Wf (after Vawctd.start done)∧(∀ y∈Own h,H y=none)∧g∉Own h∧H' g=some (.lst ((PyFlat.told (PyFlat.played VawctdNeutral.step Vawctd.start done)).map V.int)))
   (fun σ _=>match σ with
    | [_,_,_,some (.int n),_,_,_,_]=>l.length - n.toNat
    | _=>0) ⟨none,none,none,none,[],cs,h0,rfl,rfl,S2,x2,wf_start,own0,g0,k0f⟩ ?_ ?_
  ·rintro σ H' ⟨v4,v5,v6,v7,done,rest,h,rfl,hcs,S,x,wf,own,hgO,hgl⟩
   have hx:=S.seq ha
   refine⟨_,rfl,_,rfl,a,_,rfl,.inl hx,_,_,rfl,rfl,_,rfl,?_⟩
   rw[List.length_map]
   have hl:l=PyFlat.put done++PyFlat.put rest:=by rw[hput,hcs,put_append]
   cases rest with
   | nil =>
    have e:(PyFlat.put done).length=l.length:=by rw[hl];simp[PyFlat.put]
    rw[e,decide_eq_false (by omega)]
    have hcs':cs=done:=by rw[hcs,List.append_nil]
    refine iteF ⟨_,rfl,q H' g ?_⟩
    rw[hgl,hcs']
   | cons c rest =>
    obtain⟨qq,ns,rs,pt⟩:=parts_of (hok c (by rw[hcs];simp))
    have hp1:=put_parts pt
    have hl2:l=PyFlat.put done++(qq::ns++((if hasRow qq then (rs.length:Int)::rs else [])++PyFlat.put rest)):=by
     rw[hl]
     show PyFlat.put done++(PyFlat.put1 c++PyFlat.put rest)=_
     rw[hp1,List.append_assoc]
    generalize hPd:PyFlat.put done=A at hl2
    have hlt:A.length < l.length:=by rw[hl2];simp
    rw[decide_eq_true (p:=((A.length:Nat):Int) < (l.length:Int)) (by omega)]
    have h0:l[A.length]?=some qq:=by rw[hl2,List.getElem?_append_right (Nat.le_refl _),Nat.sub_self];rfl
    have len:=pt.len
    refine iteT ⟨_,rfl,_,rfl,a,_,_,_,rfl,rfl,hx,at_int h0,?_⟩
    refine⟨_,rfl,_,_,rfl,rfl,fun aN hN=>⟨_,rfl,aN,_,_,_,rfl,rfl,hN _,nums_at pt.lo pt.hi,_,_,rfl,rfl,?_⟩⟩
    have eR:((A.length:Nat):Int)+1+((nums qq:Nat):Int)=((A.length+1+ns.length:Nat):Int):=by rw[len];omega
    refine⟨_,rfl,_,rfl,fun aW hW=>⟨aW,_,rfl,.inr (hW _),rfl,rfl,_,rfl,?_⟩⟩
    show if (inV (V.int qq) (([0,1,7,8,9,18]:List Int).map V.int))=true then _ else _
    rw[row_in pt.lo pt.hi]
    have hc1:cutV (l.map V.int) (some (((A.length:Nat):Int)+1)) (some (((A.length:Nat):Int)+1+((nums qq:Nat):Int)))=ns.map V.int:=by
     have e:l.map V.int=(A++[qq]).map V.int++ns.map V.int++((if hasRow qq then (rs.length:Int)::rs else [])++PyFlat.put rest).map V.int:=by
      rw[hl2];simp
     rw[e]
     refine cut_mid _ _ _ _ _ (by simp) ?_
     rw[eR]
     simp
    have hpl:(PyFlat.put1 c).length=1+ns.length+(if hasRow qq then 1+rs.length else 0):=by
     rw[hp1]
     cases hasRow qq<;>simp<;>omega
    have hrl:rs.length≤100000:=by
     cases hb:hasRow qq with
     | true =>
      have:rs.length≤l.length:=by rw[hl2,hb];simp;omega
      omega
     | false=>rw[(pt.norow hb).2];simp
    cases hb:hasRow qq with
    | true =>
     rw[hb] at hl2 hpl
     have h1:l[A.length+1+ns.length]?=some (rs.length:Int):=by
      have e:l=(A++qq::ns)++((rs.length:Int)::(rs++PyFlat.put rest)):=by rw[hl2];simp
      rw[e,List.getElem?_append_right (by simp;omega)]
      have:A.length+1+ns.length - (A++qq::ns).length=0:=by simp;omega
      rw[this]
      rfl
     refine iteT ⟨_,rfl,_,rfl,a,_,_,_,rfl,rfl,hx,at_int' eR h1,_,_,rfl,rfl,_,_,rfl,rfl,?_⟩
     have hE:((A.length:Nat):Int)+1+((nums qq:Nat):Int)+(1+(rs.length:Int))=((A.length+(PyFlat.put1 c).length:Nat):Int):=by rw[hpl,len];simp;omega
     have hc2:cutV (l.map V.int) (some (((A.length:Nat):Int)+1+((nums qq:Nat):Int)+1)) (some (((A.length:Nat):Int)+1+((nums qq:Nat):Int)+(1+(rs.length:Int))))=rs.map V.int:=by
      have e:l.map V.int=(A++(qq::ns)++[(rs.length:Int)]).map V.int++rs.map V.int++(PyFlat.put rest).map V.int:=by
       rw[hl2];simp
      rw[e]
      refine cut_mid _ _ _ _ _ (by rw[eR];simp;omega) ?_
      rw[eR]
      simp
      omega
     refine⟨_,rfl,_,rfl,_,rfl,_,rfl,_,_,rfl,rfl,_,rfl,_,rfl,_,rfl,a,_,rfl,hx,fun a1 ha1=>?_⟩
     have S1':Same H' (upd H' a1 (.lst (cutV (l.map V.int) (some (((A.length:Nat):Int)+1)) (some (((A.length:Nat):Int)+1+((nums qq:Nat):Int)))))):=Same.new ha1
     refine⟨_,rfl,_,rfl,_,_,rfl,rfl,_,rfl,_,rfl,_,rfl,a,_,rfl,S1'.seq hx,fun a2 ha2=>?_⟩
     rw[hc1] at S1' ha2 ⊢
     rw[hc2]
     have S2':Same H' (upd (upd H' a1 (.lst (ns.map V.int))) a2 (.lst (rs.map V.int))):=S1'.grow ha2
     have n12:a1≠a2:=fun e=>by rw[← e,k0f] at ha2;cases ha2
     have w1:(upd (upd H' a1 (.lst (ns.map V.int))) a2 (.lst (rs.map V.int))) a1=some (.lst (ns.map V.int)):=by rw[k0p n12,k0f]
     generalize hHs:upd (upd H' a1 (.lst (ns.map V.int))) a2 (.lst (rs.map V.int))=Hs at S2' w1
     have w2:Hs a2=some (.lst (rs.map V.int)):=by rw[← hHs,k0f]
     refine⟨p,a1,a2,qq,ns,rs,c,after Vawctd.start done,h,rfl,x.same S2',wf,pt,SqL.of w1,SqL.of w2,hrl,fun H3 ll h' aft hfr hll=>?_⟩
     have SS:Same H Hs:=S.trans S2'
     have S3:Same H H3:=fun b o e=>aft.keep b o (SS b o e) (k0h e hp) (fun hm=>by rw[own b hm] at e;cases e)
     have hgs:Hs g=some (.lst ((PyFlat.told (PyFlat.played VawctdNeutral.step Vawctd.start done)).map V.int)):=S2' _ _ hgl
     have hg3:=aft.keep g _ hgs (Ne.symm (x.ne hgl).1) hgO
     have own':∀ y∈Own h',H y=none:=fun y hy=>(aft.own y hy).elim (own y) (fun z=>SS.free z)
     have hgO':g∉Own h':=fun hm=>(aft.own g hm).elim hgO (fun z=>by rw[hgs] at z;cases z)
     have nlg:ll≠g:=fun e=>by rw[e,hgs] at hfr;cases hfr
     have tot:PyFlat.told (PyFlat.played VawctdNeutral.step Vawctd.start (done++[c]))=PyFlat.told (PyFlat.played VawctdNeutral.step Vawctd.start done)++(((VawctdNeutral.step (after Vawctd.start done) c).2.length:Int)::(VawctdNeutral.step (after Vawctd.start done) c).2):=by
      rw[played_append,told_append]
      congr 1
      show (_::_)++[]=_
      rw[List.append_nil]
     have bnd:(PyFlat.told (PyFlat.played VawctdNeutral.step Vawctd.start (done++[c]))).length≤10000000:=by
      refine Nat.le_trans ?_ hshort
      rw[hcs,show done++c::rest=(done++[c])++rest by simp,played_append _ (done++[c]),told_append,List.length_append]
      exact Nat.le_add_right _ _
     have bnd2:=bnd
     rw[tot,List.length_append,List.length_cons] at bnd2
     have sz:sizeLine=16777216:=sizeLine_eq
     refine⟨_,rfl,.inl ⟨rfl,_,SqL.of hg3⟩,_,rfl,ll,_,rfl,.inl (SqL.of hll),g,_,_,rfl,rfl,hg3,(by rw[List.length_map];omega),?_⟩
     rw[List.length_map]
     refine⟨_,rfl,.inl ⟨rfl,_,SqL.of k0f⟩,_,rfl,g,ll,_,_,rfl,rfl,k0f,(by rw[k0p nlg];exact hll),(by simp;omega),?_⟩
     rw[upd_upd]
     have eP:((PyFlat.put (done++[c])).length:Nat)=A.length+(PyFlat.put1 c).length:=by
      rw[put_append,List.length_append,hPd]
      show _+((PyFlat.put1 c)++[]).length=_
      rw[List.append_nil]
     refine⟨_,rfl,⟨some (.int qq),some (.int (((A.length:Nat):Int)+1+((nums qq:Nat):Int))),some (.int ((A.length+(PyFlat.put1 c).length:Nat):Int)),some (.ref ll),done++[c],rest,h',?_,by rw[hcs];simp,S3.put hgn,?_,?_,own',hgO',?_⟩,?_⟩
     ·rw[eP,← hE]
      rfl
     ·rw[after_append]
      exact aft.held.put hg3 hgO'
     ·rw[after_append]
      exact wf_nstep wf c
     ·rw[k0f,tot]
      simp
     ·show l.length - Int.toNat _ < l.length - Int.toNat _
      rw[hE,Int.toNat_natCast,Int.toNat_natCast,hpl]
      omega
    | false =>
     rw[hb] at hl2 hpl
     refine iteF ⟨_,_,rfl,rfl,?_⟩
     have hE:((A.length:Nat):Int)+1+((nums qq:Nat):Int)+0=((A.length+(PyFlat.put1 c).length:Nat):Int):=by rw[hpl,len];simp;omega
     have hc2:cutV (l.map V.int) (some (((A.length:Nat):Int)+1+((nums qq:Nat):Int)+1)) (some (((A.length:Nat):Int)+1+((nums qq:Nat):Int)+0))=rs.map V.int:=by
      rw[cut_none _ _ _ (by omega) (by omega),(pt.norow hb).2]
      rfl
     refine⟨_,rfl,_,rfl,_,rfl,_,rfl,_,_,rfl,rfl,_,rfl,_,rfl,_,rfl,a,_,rfl,hx,fun a1 ha1=>?_⟩
     have S1':Same H' (upd H' a1 (.lst (cutV (l.map V.int) (some (((A.length:Nat):Int)+1)) (some (((A.length:Nat):Int)+1+((nums qq:Nat):Int)))))):=Same.new ha1
     refine⟨_,rfl,_,rfl,_,_,rfl,rfl,_,rfl,_,rfl,_,rfl,a,_,rfl,S1'.seq hx,fun a2 ha2=>?_⟩
     rw[hc1] at S1' ha2 ⊢
     rw[hc2]
     have S2':Same H' (upd (upd H' a1 (.lst (ns.map V.int))) a2 (.lst (rs.map V.int))):=S1'.grow ha2
     have n12:a1≠a2:=fun e=>by rw[← e,k0f] at ha2;cases ha2
     have w1:(upd (upd H' a1 (.lst (ns.map V.int))) a2 (.lst (rs.map V.int))) a1=some (.lst (ns.map V.int)):=by rw[k0p n12,k0f]
     generalize hHs:upd (upd H' a1 (.lst (ns.map V.int))) a2 (.lst (rs.map V.int))=Hs at S2' w1
     have w2:Hs a2=some (.lst (rs.map V.int)):=by rw[← hHs,k0f]
     refine⟨p,a1,a2,qq,ns,rs,c,after Vawctd.start done,h,rfl,x.same S2',wf,pt,SqL.of w1,SqL.of w2,hrl,fun H3 ll h' aft hfr hll=>?_⟩
     have SS:Same H Hs:=S.trans S2'
     have S3:Same H H3:=fun b o e=>aft.keep b o (SS b o e) (k0h e hp) (fun hm=>by rw[own b hm] at e;cases e)
     have hgs:Hs g=some (.lst ((PyFlat.told (PyFlat.played VawctdNeutral.step Vawctd.start done)).map V.int)):=S2' _ _ hgl
     have hg3:=aft.keep g _ hgs (Ne.symm (x.ne hgl).1) hgO
     have own':∀ y∈Own h',H y=none:=fun y hy=>(aft.own y hy).elim (own y) (fun z=>SS.free z)
     have hgO':g∉Own h':=fun hm=>(aft.own g hm).elim hgO (fun z=>by rw[hgs] at z;cases z)
     have nlg:ll≠g:=fun e=>by rw[e,hgs] at hfr;cases hfr
     have tot:PyFlat.told (PyFlat.played VawctdNeutral.step Vawctd.start (done++[c]))=PyFlat.told (PyFlat.played VawctdNeutral.step Vawctd.start done)++(((VawctdNeutral.step (after Vawctd.start done) c).2.length:Int)::(VawctdNeutral.step (after Vawctd.start done) c).2):=by
      rw[played_append,told_append]
      congr 1
      show (_::_)++[]=_
      rw[List.append_nil]
     have bnd:(PyFlat.told (PyFlat.played VawctdNeutral.step Vawctd.start (done++[c]))).length≤10000000:=by
      refine Nat.le_trans ?_ hshort
      rw[hcs,show done++c::rest=(done++[c])++rest by simp,played_append _ (done++[c]),told_append,List.length_append]
      exact Nat.le_add_right _ _
     have bnd2:=bnd
     rw[tot,List.length_append,List.length_cons] at bnd2
     have sz:sizeLine=16777216:=sizeLine_eq
     refine⟨_,rfl,.inl ⟨rfl,_,SqL.of hg3⟩,_,rfl,ll,_,rfl,.inl (SqL.of hll),g,_,_,rfl,rfl,hg3,(by rw[List.length_map];omega),?_⟩
     rw[List.length_map]
     refine⟨_,rfl,.inl ⟨rfl,_,SqL.of k0f⟩,_,rfl,g,ll,_,_,rfl,rfl,k0f,(by rw[k0p nlg];exact hll),(by simp;omega),?_⟩
     rw[upd_upd]
     have eP:((PyFlat.put (done++[c])).length:Nat)=A.length+(PyFlat.put1 c).length:=by
      rw[put_append,List.length_append,hPd]
      show _+((PyFlat.put1 c)++[]).length=_
      rw[List.append_nil]
     refine⟨_,rfl,⟨some (.int qq),some (.int (((A.length:Nat):Int)+1+((nums qq:Nat):Int))),some (.int ((A.length+(PyFlat.put1 c).length:Nat):Int)),some (.ref ll),done++[c],rest,h',?_,by rw[hcs];simp,S3.put hgn,?_,?_,own',hgO',?_⟩,?_⟩
     ·rw[eP,← hE]
      rfl
     ·rw[after_append]
      exact aft.held.put hg3 hgO'
     ·rw[after_append]
      exact wf_nstep wf c
     ·rw[k0f,tot]
      simp
     ·show l.length - Int.toNat _ < l.length - Int.toNat _
      rw[hE,Int.toNat_natCast,Int.toNat_natCast,hpl]
      omega
  ·rintro σ G Q1 Q2 hq ⟨v1,e1,v2,e2,p1,ys,e3,h2,i,j,e4,e5,kk,e6,h6⟩
   exact⟨v1,e1,v2,e2,p1,ys,e3,h2,i,j,e4,e5,kk,e6,hq _ _ h6⟩
end
end Ww
end
section
namespace Ww
open PySem PySem.Spec PyProof.Rows L2
theorem map_id' {α:Type} {f:α->α} (h:∀ a,f a=a):∀ l:List α,l.map f=l
 | []=>rfl
 | a::l=>by rw[List.map_cons,h,map_id' h l]
theorem asked_put {l:List Int} (h:PyVawctd.answers_asked l=true):∃ cs,l=PyFlat.put cs∧(∀ c∈cs,PyFlat.okCall PyVawctd.shape c)∧PyVawctd.answers l=PyFlat.told (PyFlat.played VawctdNeutral.step Vawctd.start cs)∧(PyVawctd.answers l).length≤10000000:=by
 unfold PyVawctd.answers_asked at h
 cases q:PyFlat.calls PyVawctd.shape l.length l with
 | none=>rw[q] at h;cases h
 | some cs =>
  rw[q] at h
  simp only[Bool.and_eq_true] at h
  obtain⟨h1,h2⟩:=PyFlat.put_calls _ _ _ q
  refine⟨cs,h1,h2,?_,?_⟩
  ·unfold PyVawctd.answers PyVawctd.calls
   rw[q]
   show PyFlat.told (PyFlat.played VawctdNeutral.step VawctdNeutral.start (cs.map PyVawctd.whole))=_
   rw[map_id' whole_id]
   rfl
  ·have:=h.2
   unfold PyFlat.short at this
   simpa using this
theorem sp_of_asked {K:PySem.W.Frag} {H:Hp} {a:Addr} {l:List Int} {Q:VK} {E:XK} (hs:SqL K H a (l.map V.int)) (hl:l.length≤16000) (h:PyVawctd.answers_asked l=true) (q:∀ (H':Hp) (r:Addr),H' r=some (.lst ((PyVawctd.answers l).map V.int))->Q (.ref r) H'):sp_answers K [.ref a] H Q E:=by
 obtain⟨cs,h1,h2,h3,h4⟩:=asked_put h
 rw[h3] at q h4
 exact⟨a,l,cs,rfl,hs,by omega,h1,h2,h4,q⟩
end Ww
end
section
namespace Ww
open PySem PySem.Spec PyProof.Rows L2
open Vawctd (Known Edge Fact inRange toInts countsOf)
theorem row_cases {q:Int} (h0:0≤q) (h1:q≤19) (hr:hasRow q=true) (hn:q≠18):q=0∨q=1∨q=7∨q=8∨q=9:=by
 obtain⟨i,rfl⟩:∃ i:Nat,q=(i:Int):=⟨q.toNat,by omega⟩
 have key:∀ i:Fin 20,hasRow ((i.val:Nat):Int)=true->((i.val:Nat):Int)≠18->((i.val:Nat):Int)=0∨((i.val:Nat):Int)=1∨((i.val:Nat):Int)=7∨((i.val:Nat):Int)=8∨((i.val:Nat):Int)=9:=by decide
 exact key ⟨i,by omega⟩ hr hn
theorem pair_cases {q:Int} (h0:0≤q) (h1:q≤19) (hr:hasRow q=false) (hn:nums q=2):q=2∨q=5∨q=6:=by
 obtain⟨i,rfl⟩:∃ i:Nat,q=(i:Int):=⟨q.toNat,by omega⟩
 have key:∀ i:Fin 20,hasRow ((i.val:Nat):Int)=false->nums ((i.val:Nat):Int)=2->((i.val:Nat):Int)=2∨((i.val:Nat):Int)=5∨((i.val:Nat):Int)=6:=by decide
 exact key ⟨i,by omega⟩ hr hn
theorem number_cases {q:Int} (h0:0≤q) (h1:q≤19) (hr:hasRow q=false) (hn:nums q=1):q=3∨q=4∨q=15∨q=16:=by
 obtain⟨i,rfl⟩:∃ i:Nat,q=(i:Int):=⟨q.toNat,by omega⟩
 have key:∀ i:Fin 20,hasRow ((i.val:Nat):Int)=false->nums ((i.val:Nat):Int)=1->((i.val:Nat):Int)=3∨((i.val:Nat):Int)=4∨((i.val:Nat):Int)=15∨((i.val:Nat):Int)=16:=by decide
 exact key ⟨i,by omega⟩ hr hn
theorem bare_cases {q:Int} (h0:0≤q) (h1:q≤19) (hr:hasRow q=false) (n2:nums q≠2) (n1:nums q≠1):nums q=0∧(q=10∨q=11∨q=12∨q=13∨q=14∨q=17∨q=19):=by
 obtain⟨i,rfl⟩:∃ i:Nat,q=(i:Int):=⟨q.toNat,by omega⟩
 have key:∀ i:Fin 20,hasRow ((i.val:Nat):Int)=false->nums ((i.val:Nat):Int)≠2->nums ((i.val:Nat):Int)≠1->nums ((i.val:Nat):Int)=0∧(((i.val:Nat):Int)=10∨((i.val:Nat):Int)=11∨((i.val:Nat):Int)=12∨((i.val:Nat):Int)=13∨((i.val:Nat):Int)=14∨((i.val:Nat):Int)=17∨((i.val:Nat):Int)=19):=by decide
 exact key ⟨i,by omega⟩ hr n2 n1
section
variable {P:Program} {w:World} {K:PySem.W.Frag} {mg:Str->Option Value} {base:Heap} {C CM CO:Addr}
abbrev s_row_answer:Stmt:=top 126
theorem sc_row_answer:FnScope ["held","call","row"] ["held","call","row"] (k0m s_row_answer):=⟨rfl,rfl,rfl,by decide +kernel,rfl,by decide +kernel,by decide +kernel⟩
def sp_row_answer (K:PySem.W.Frag) (C:Addr):Sp:=fun vs H Q _=>∃ (p a:Addr) (q:Int) (rs:List Int) (k:Known) (h:HA),vs=[.ref p,.int q,.ref a]∧HeldAt C H p k h∧Wf k∧SqL K H a (rs.map V.int)∧rs.length≤100000∧(q=0∨q=1∨q=7∨q=8∨q=9)∧Ans C p H h (VawctdNeutral.step k [[q],rs]) Q
theorem ok_row_answer (T:Txt K mg) (D:Dfn K mg "row_answer" s_row_answer ["held","call","row"]) (p_graph:Prom P w K mg base 3 "graph" ["held","row"] (sp_graph K C)) (p_fact:Prom P w K mg base 3 "fact" ["held","row"] (sp_fact K C)) (p_way:Prom P w K mg base 4 "way" ["held","edges"] (sp_way K C)) (p_fits:Prom P w K mg base 4 "fits" ["held","counts"] (sp_fits K C)) (p_told:Prom P w K mg base 7 "told" ["held","counts"] (sp_told K C)):Prom P w K mg base 8 "row_answer" ["held","call","row"] (sp_row_answer K C):=by
 refine D.prom sc_row_answer (fun vs H Q E h=>?_) (fun f cdv A outer s H vs Q E hr h=>?_)
 ·obtain⟨_,_,_,_,_,_,rfl,_⟩:=h
  rfl
 ·obtain⟨p,a,q,rs,k,h,rfl,X,wf,ha,hl,hq,an⟩:=h
  refine⟨_,(k0e (ps_if (k0x op_eq (pv 1) (k0y rfl T.c_GRAPH) (k1e _)) (k0j (k0q (k0u p_graph (hr.mono (by decide)) rfl (k0a (pv 0) (k0a (pv 2) k0g))))) k0z) (k0e (ps_if (k0x op_eq (pv 1) (k0y rfl T.c_FACT) (k1e _)) (k0j (k0q (k0u p_fact (hr.mono (by decide)) rfl (k0a (pv 0) (k0a (pv 2) k0g))))) k0z) (k0e (ps_if (k0x op_eq (pv 1) (k0y rfl T.c_WAY) (k1e _)) (k0j (k0q (k0u p_way (hr.mono (by decide)) rfl (k0a (pv 0) (k0a (pv 2) k0g))))) k0z) (k0e (ps_if (k0x op_eq (pv 1) (k0y rfl T.c_FITS) (k1e _)) (k0j (k0q (k0u p_fits (hr.mono (by decide)) rfl (k0a (pv 0) (k0a (pv 2) k0g))))) k0z) (k0j (k0q (k0u p_told (hr.mono (by decide)) rfl (k0a (pv 0) (k0a (pv 2) k0g))))))))),?_⟩
  refine⟨_,rfl,rfl,_,rfl,?_⟩
  rw[k1u]
  rcases hq with rfl|rfl|rfl|rfl|rfl
  ·exact iteT ⟨_,rfl,_,rfl,p,a,rs,k,h,rfl,X,ha,hl,an⟩
  ·refine iteF ⟨_,rfl,rfl,_,rfl,?_⟩
   exact iteT ⟨_,rfl,_,rfl,p,a,rs,k,h,rfl,X,wf,ha,hl,an⟩
  ·refine iteF ⟨_,rfl,rfl,_,rfl,iteF ⟨_,rfl,rfl,_,rfl,?_⟩⟩
   exact iteT ⟨_,rfl,_,rfl,p,a,rs,k,h,rfl,X,wf,ha,an⟩
  ·refine iteF ⟨_,rfl,rfl,_,rfl,iteF ⟨_,rfl,rfl,_,rfl,iteF ⟨_,rfl,rfl,_,rfl,?_⟩⟩⟩
   exact iteT ⟨_,rfl,_,rfl,p,a,rs,k,h,rfl,X,wf,ha,hl,an⟩
  ·refine iteF ⟨_,rfl,rfl,_,rfl,iteF ⟨_,rfl,rfl,_,rfl,iteF ⟨_,rfl,rfl,_,rfl,iteF ?_⟩⟩⟩
   exact⟨_,rfl,_,rfl,p,a,rs,k,h,rfl,X,wf,ha,hl,an⟩
abbrev s_pair_answer:Stmt:=top 127
theorem sc_pair_answer:FnScope ["held","call","first","second"] ["held","call","first","second"] (k0m s_pair_answer):=⟨rfl,rfl,rfl,by decide +kernel,rfl,by decide +kernel,by decide +kernel⟩
def sp_pair_answer (C:Addr):Sp:=fun vs H Q _=>∃ (p:Addr) (q x y:Int) (k:Known) (h:HA),vs=[.ref p,.int q,.int x,.int y]∧HeldAt C H p k h∧Wf k∧(q=2∨q=5∨q=6)∧Ans C p H h (VawctdNeutral.step k [[q,x,y]]) Q
theorem ok_pair_answer (T:Txt K mg) (D:Dfn K mg "pair_answer" s_pair_answer ["held","call","first","second"]) (p_ban:Prom P w K mg base 3 "ban" ["held","e","f"] (sp_ban C)) (p_recost:Prom P w K mg base 3 "recost" ["held","e","c"] (sp_recost C)) (p_remost:Prom P w K mg base 3 "remost" ["held","e","m"] (sp_remost C)):Prom P w K mg base 4 "pair_answer" ["held","call","first","second"] (sp_pair_answer C):=by
 refine D.prom sc_pair_answer (fun vs H Q E h=>?_) (fun f cdv A outer s H vs Q E hr h=>?_)
 ·obtain⟨_,_,_,_,_,_,rfl,_⟩:=h
  rfl
 ·obtain⟨p,q,x,y,k,h,rfl,X,wf,hq,an⟩:=h
  refine⟨_,(k0e (ps_if (k0x op_eq (pv 1) (k0y rfl T.c_BAN) (k1e _)) (k0j (k0q (k0u p_ban (hr.mono (by decide)) rfl (k0a (pv 0) (k0a (pv 2) (k0a (pv 3) k0g)))))) k0z) (k0e (ps_if (k0x op_eq (pv 1) (k0y rfl T.c_RECOST) (k1e _)) (k0j (k0q (k0u p_recost (hr.mono (by decide)) rfl (k0a (pv 0) (k0a (pv 2) (k0a (pv 3) k0g)))))) k0z) (k0j (k0q (k0u p_remost (hr.mono (by decide)) rfl (k0a (pv 0) (k0a (pv 2) (k0a (pv 3) k0g)))))))),?_⟩
  refine⟨_,rfl,rfl,_,rfl,?_⟩
  rw[k1u]
  rcases hq with rfl|rfl|rfl
  ·exact iteT ⟨_,rfl,_,rfl,_,rfl,p,x,y,k,h,rfl,X,wf,an⟩
  ·refine iteF ⟨_,rfl,rfl,_,rfl,?_⟩
   exact iteT ⟨_,rfl,_,rfl,_,rfl,p,x,y,k,h,rfl,X,an⟩
  ·refine iteF ⟨_,rfl,rfl,_,rfl,iteF ?_⟩
   exact⟨_,rfl,_,rfl,_,rfl,p,x,y,k,h,rfl,X,an⟩
abbrev s_number_answer:Stmt:=top 128
theorem sc_number_answer:FnScope ["held","call","number"] ["held","call","number"] (k0m s_number_answer):=⟨rfl,rfl,rfl,by decide +kernel,rfl,by decide +kernel,by decide +kernel⟩
def sp_number_answer (C:Addr):Sp:=fun vs H Q _=>∃ (p:Addr) (q x:Int) (k:Known) (h:HA),vs=[.ref p,.int q,.int x]∧HeldAt C H p k h∧Wf k∧(q=3∨q=4∨q=15∨q=16)∧Ans C p H h (VawctdNeutral.step k [[q,x]]) Q
theorem ok_number_answer (T:Txt K mg) (D:Dfn K mg "number_answer" s_number_answer ["held","call","number"]) (p_unfact:Prom P w K mg base 3 "unfact" ["held","k"] (sp_unfact C)) (p_unban:Prom P w K mg base 3 "unban" ["held","k"] (sp_unban C)) (p_most:Prom P w K mg base 8 "most" ["held","e"] (sp_ask1 C .most)) (p_without:Prom P w K mg base 8 "without" ["held","k"] (sp_ask1 C .without)):Prom P w K mg base 9 "number_answer" ["held","call","number"] (sp_number_answer C):=by
 refine D.prom sc_number_answer (fun vs H Q E h=>?_) (fun f cdv A outer s H vs Q E hr h=>?_)
 ·obtain⟨_,_,_,_,_,rfl,_⟩:=h
  rfl
 ·obtain⟨p,q,x,k,h,rfl,X,wf,hq,an⟩:=h
  refine⟨_,(k0e (ps_if (k0x op_eq (pv 1) (k0y rfl T.c_UNFACT) (k1e _)) (k0j (k0q (k0u p_unfact (hr.mono (by decide)) rfl (k0a (pv 0) (k0a (pv 2) k0g))))) k0z) (k0e (ps_if (k0x op_eq (pv 1) (k0y rfl T.c_UNBAN) (k1e _)) (k0j (k0q (k0u p_unban (hr.mono (by decide)) rfl (k0a (pv 0) (k0a (pv 2) k0g))))) k0z) (k0e (ps_if (k0x op_eq (pv 1) (k0y rfl T.c_MOST) (k1e _)) (k0j (k0q (k0u p_most (hr.mono (by decide)) rfl (k0a (pv 0) (k0a (pv 2) k0g))))) k0z) (k0j (k0q (k0u p_without (hr.mono (by decide)) rfl (k0a (pv 0) (k0a (pv 2) k0g)))))))),?_⟩
  refine⟨_,rfl,rfl,_,rfl,?_⟩
  rw[k1u]
  rcases hq with rfl|rfl|rfl|rfl
  ·exact iteT ⟨_,rfl,_,rfl,p,x,k,h,rfl,X,wf,an⟩
  ·refine iteF ⟨_,rfl,rfl,_,rfl,?_⟩
   exact iteT ⟨_,rfl,_,rfl,p,x,k,h,rfl,X,wf,an⟩
  ·refine iteF ⟨_,rfl,rfl,_,rfl,iteF ⟨_,rfl,rfl,_,rfl,?_⟩⟩
   exact iteT ⟨_,rfl,_,rfl,p,x,k,h,rfl,X,wf,an⟩
  ·refine iteF ⟨_,rfl,rfl,_,rfl,iteF ⟨_,rfl,rfl,_,rfl,iteF ?_⟩⟩
   exact⟨_,rfl,_,rfl,p,x,k,h,rfl,X,wf,an⟩
abbrev s_bare_answer:Stmt:=top 129
theorem sc_bare_answer:FnScope ["held","call"] ["held","call"] (k0m s_bare_answer):=⟨rfl,rfl,rfl,by decide +kernel,rfl,by decide +kernel,by decide +kernel⟩
def sp_bare_answer (C:Addr):Sp:=fun vs H Q _=>∃ (p:Addr) (q:Int) (k:Known) (h:HA),vs=[.ref p,.int q]∧HeldAt C H p k h∧Wf k∧(q=10∨q=11∨q=12∨q=13∨q=14∨q=17∨q=19)∧Ans C p H h (VawctdNeutral.step k [[q]]) Q
theorem ok_bare_answer (T:Txt K mg) (D:Dfn K mg "bare_answer" s_bare_answer ["held","call"]) (p_box:Prom P w K mg base 5 "box" ["held"] (sp_ask C .box)) (p_bound:Prom P w K mg base 5 "bound" ["held"] (sp_ask C .bound)) (p_worst:Prom P w K mg base 8 "worst" ["held"] (sp_ask C .worst)) (p_gone:Prom P w K mg base 8 "gone" ["held"] (sp_ask C .gone)) (p_least:Prom P w K mg base 8 "least" ["held"] (sp_ask C .least))
  (p_proof:Prom P w K mg base 8 "proof" ["held"] (sp_ask C .proof)) (p_size:Prom P w K mg base 1 "size" ["held"] (sp_ask C .size)):Prom P w K mg base 9 "bare_answer" ["held","call"] (sp_bare_answer C):=by
 refine D.prom sc_bare_answer (fun vs H Q E h=>?_) (fun f cdv A outer s H vs Q E hr h=>?_)
 ·obtain⟨_,_,_,_,rfl,_⟩:=h
  rfl
 ·obtain⟨p,q,k,h,rfl,X,wf,hq,an⟩:=h
  refine⟨_,(k0e (ps_if (k0x op_eq (pv 1) (k0y rfl T.c_BOX) (k1e _)) (k0j (k0q (k0u p_box (hr.mono (by decide)) rfl (k0a (pv 0) k0g)))) k0z) (k0e (ps_if (k0x op_eq (pv 1) (k0y rfl T.c_BOUND) (k1e _)) (k0j (k0q (k0u p_bound (hr.mono (by decide)) rfl (k0a (pv 0) k0g)))) k0z) (k0e (ps_if (k0x op_eq (pv 1) (k0y rfl T.c_WORST) (k1e _)) (k0j (k0q (k0u p_worst (hr.mono (by decide)) rfl (k0a (pv 0) k0g)))) k0z) (k0e (ps_if (k0x op_eq (pv 1) (k0y rfl T.c_GONE) (k1e _)) (k0j (k0q (k0u p_gone (hr.mono (by decide)) rfl (k0a (pv 0) k0g)))) k0z) (k0e (ps_if (k0x op_eq (pv 1) (k0y rfl T.c_LEAST) (k1e _)) (k0j (k0q (k0u p_least (hr.mono (by decide)) rfl (k0a (pv 0) k0g)))) k0z) (k0e (ps_if (k0x op_eq (pv 1) (k0y rfl T.c_PROOF) (k1e _)) (k0j (k0q (k0u p_proof (hr.mono (by decide)) rfl (k0a (pv 0) k0g)))) k0z) (k0j (k0q (k0u p_size (hr.mono (by decide)) rfl (k0a (pv 0) k0g)))))))))),?_⟩
  refine⟨_,rfl,rfl,_,rfl,?_⟩
  rw[k1u]
  rcases hq with rfl|rfl|rfl|rfl|rfl|rfl|rfl
  ·exact iteT ⟨_,rfl,p,k,h,rfl,X,wf,an⟩
  ·refine iteF ⟨_,rfl,rfl,_,rfl,?_⟩
   exact iteT ⟨_,rfl,p,k,h,rfl,X,wf,an⟩
  ·refine iteF ⟨_,rfl,rfl,_,rfl,iteF ⟨_,rfl,rfl,_,rfl,?_⟩⟩
   exact iteT ⟨_,rfl,p,k,h,rfl,X,wf,an⟩
  ·refine iteF ⟨_,rfl,rfl,_,rfl,iteF ⟨_,rfl,rfl,_,rfl,iteF ⟨_,rfl,rfl,_,rfl,?_⟩⟩⟩
   exact iteT ⟨_,rfl,p,k,h,rfl,X,wf,an⟩
  ·refine iteF ⟨_,rfl,rfl,_,rfl,iteF ⟨_,rfl,rfl,_,rfl,iteF ⟨_,rfl,rfl,_,rfl,iteF ⟨_,rfl,rfl,_,rfl,?_⟩⟩⟩⟩
   exact iteT ⟨_,rfl,p,k,h,rfl,X,wf,an⟩
  ·refine iteF ⟨_,rfl,rfl,_,rfl,iteF ⟨_,rfl,rfl,_,rfl,iteF ⟨_,rfl,rfl,_,rfl,iteF ⟨_,rfl,rfl,_,rfl,iteF ⟨_,rfl,rfl,_,rfl,?_⟩⟩⟩⟩⟩
   exact iteT ⟨_,rfl,p,k,h,rfl,X,wf,an⟩
  ·refine iteF ⟨_,rfl,rfl,_,rfl,iteF ⟨_,rfl,rfl,_,rfl,iteF ⟨_,rfl,rfl,_,rfl,iteF ⟨_,rfl,rfl,_,rfl,iteF ⟨_,rfl,rfl,_,rfl,iteF ?_⟩⟩⟩⟩⟩
   exact⟨_,rfl,p,k,h,rfl,X,wf,an⟩
abbrev s_answer_of:Stmt:=top 125
theorem sc_answer_of:FnScope ["held","call","numbers","row"] ["held","call","numbers","row"] (k0m s_answer_of):=⟨rfl,rfl,rfl,by decide +kernel,rfl,by decide +kernel,by decide +kernel⟩
theorem ok_answer_of (T:Txt K mg) (D:Dfn K mg "answer_of" s_answer_of ["held","call","numbers","row"]) (p_check:Prom P w K mg base 7 "check" ["held","b","numbers"] (sp_check K C)) (p_row_answer:Prom P w K mg base 8 "row_answer" ["held","call","row"] (sp_row_answer K C)) (p_pair_answer:Prom P w K mg base 4 "pair_answer" ["held","call","first","second"] (sp_pair_answer C)) (p_number_answer:Prom P w K mg base 9 "number_answer" ["held","call","number"] (sp_number_answer C))
  (p_bare_answer:Prom P w K mg base 9 "bare_answer" ["held","call"] (sp_bare_answer C)):Prom P w K mg base 10 "answer_of" ["held","call","numbers","row"] (sp_answer_of K C):=by
 refine D.prom sc_answer_of (fun vs H Q E h=>?_) (fun f cdv A outer s H vs Q E hr h=>?_)
 ·obtain⟨_,_,_,_,_,_,_,_,_,rfl,_⟩:=h
  rfl
 ·obtain⟨p,a,b,q,ns,rs,cl,k,h,rfl,X,wf,pt,ha,hb,hl,an⟩:=h
  refine⟨_,(k0e (ps_if (k0x op_eq (pv 1) (k0y rfl T.c_CHECK) (k1e _)) (k0j (k0q (k0u p_check (hr.mono (by decide)) rfl (k0a (pv 0) (k0a (pe_ix (k0w K rfl) (pv 2) k0n (fun _ _=>rfl)) (k0a (pv 3) k0g)))))) k0z) (k0e (ps_if (k0x (inK K rfl) (pv 1) (pe_gtupK K rfl rfl T.c_WITH_ROW) (by rfl)) (k0j (k0q (k0u p_row_answer (hr.mono (by decide)) rfl (k0a (pv 0) (k0a (pv 1) (k0a (pv 3) k0g)))))) k0z) (k0e (ps_if (k0x op_eq (pe_ix (ixK_tup K rfl) (pe_gtupK K rfl rfl T.c_NUMBERS) (pv 1) (fun _ _=>rfl)) k0n (k1e _)) (k0j (k0q (k0u p_pair_answer (hr.mono (by decide)) rfl (k0a (pv 0) (k0a (pv 1) (k0a (pe_ix (k0w K rfl) (pv 2) k0n (fun _ _=>rfl)) (k0a (pe_ix (k0w K rfl) (pv 2) k0n (fun _ _=>rfl)) k0g))))))) k0z) (k0e (ps_if (k0x op_eq (pe_ix (ixK_tup K rfl) (pe_gtupK K rfl rfl T.c_NUMBERS) (pv 1) (fun _ _=>rfl)) k0n (k1e _)) (k0j (k0q (k0u p_number_answer (hr.mono (by decide)) rfl (k0a (pv 0) (k0a (pv 1) (k0a (pe_ix (k0w K rfl) (pv 2) k0n (fun _ _=>rfl)) k0g)))))) k0z) (k0j (k0q (k0u p_bare_answer (hr.mono (by decide)) rfl (k0a (pv 0) (k0a (pv 1) k0g))))))))),?_⟩
  have len:=pt.len
  refine⟨_,rfl,rfl,_,rfl,?_⟩
  rw[k1u]
  by_cases h18:q=18
  ·subst h18
   rw[pt.row (by decide)] at an
   have len:ns.length=1:=len
   match ns,len with
   | [x],_=>exact iteT ⟨_,rfl,_,rfl,a,_,_,_,rfl,rfl,ha,k1n (j:=0) rfl,_,rfl,p,b,x,rs,k,h,rfl,X,wf,hb,hl,an⟩
  rw[decide_eq_false h18]
  refine iteF ⟨_,rfl,fun aW hW=>⟨aW,_,rfl,.inr (hW _),rfl,rfl,_,rfl,?_⟩⟩
  show if (inV (V.int q) (([0,1,7,8,9,18]:List Int).map V.int))=true then _ else _
  rw[row_in pt.lo pt.hi]
  cases hrow:hasRow q with
  | true =>
   have hc:=row_cases pt.lo pt.hi hrow h18
   have n0:nums q=0:=by rcases hc with e|e|e|e|e<;>(rw[e];decide)
   rw[n0] at len
   have en:ns=[]:=List.eq_nil_of_length_eq_zero len
   rw[pt.row hrow,en] at an
   exact iteT ⟨_,rfl,_,rfl,_,rfl,p,b,q,rs,k,h,rfl,X,wf,hb,hl,hc,an⟩
  | false =>
   rw[(pt.norow hrow).1] at an
   refine iteF fun aN hN=>⟨_,rfl,aN,_,_,_,rfl,rfl,hN _,nums_at pt.lo pt.hi,rfl,_,rfl,?_⟩
   rw[k1u]
   by_cases n2:nums q=2
   ·rw[decide_eq_true (p:=((nums q:Nat):Int)=2) (by omega)]
    rw[n2] at len
    match ns,len with
    | [x,y],_=>exact iteT ⟨_,rfl,_,rfl,_,rfl,a,_,_,_,rfl,rfl,ha,k1n (j:=0) rfl,_,rfl,a,_,_,_,rfl,rfl,ha,k1n (j:=1) rfl,p,q,x,y,k,h,rfl,X,wf,pair_cases pt.lo pt.hi hrow n2,an⟩
   rw[decide_eq_false (p:=((nums q:Nat):Int)=2) (by omega)]
   refine iteF fun aN2 hN2=>⟨_,rfl,aN2,_,_,_,rfl,rfl,hN2 _,nums_at pt.lo pt.hi,rfl,_,rfl,?_⟩
   rw[k1u]
   by_cases n1:nums q=1
   ·rw[decide_eq_true (p:=((nums q:Nat):Int)=1) (by omega)]
    rw[n1] at len
    match ns,len with
    | [x],_=>exact iteT ⟨_,rfl,_,rfl,_,rfl,a,_,_,_,rfl,rfl,ha,k1n (j:=0) rfl,p,q,x,k,h,rfl,X,wf,number_cases pt.lo pt.hi hrow n1,an⟩
   rw[decide_eq_false (p:=((nums q:Nat):Int)=1) (by omega)]
   obtain⟨n0,hc⟩:=bare_cases pt.lo pt.hi hrow n2 n1
   rw[n0] at len
   have en:ns=[]:=List.eq_nil_of_length_eq_zero len
   rw[en] at an
   exact iteF ⟨_,rfl,_,rfl,p,q,k,h,rfl,X,wf,hc,an⟩
end
end Ww
end
section
namespace Ww
open PySem PySem.Spec PyProof.Rows L2
theorem all_ok {P:Program} {w:World} {K:PySem.W.Frag} {mg:Str->Option Value} {base:Heap} {C CM CO fH fM fO fa:Addr} {fdH fdM fdO fda:FuncData} (T:Txt K mg) (c:Cl K C) (cm:ClM K CM) (co:ClO K CO)
  (mH:mg "Held"=some (.ref C)) (MH:Mk K C fH) (FH:Fun K "__init__" "Held.__init__" s_init fH fdH) (bH:Binds K fdH ["self"] [])
  (mM:mg "Measures"=some (.ref CM)) (MM:Mk K CM fM) (FM:Fun K "__init__" "Measures.__init__" s_init_Measures fM fdM) (bM:Binds K fdM ["self","held"] [])
  (mO:mg "Outcome"=some (.ref CO)) (MO:Mk K CO fO) (FO:Fun K "__init__" "Outcome.__init__" s_init_Outcome fO fdO) (bO:Binds K fdO ["self"] [])
  (D_whole_box:Dfn K mg "whole_box" s_whole_box ["held"]) (D_is_empty:Dfn K mg "is_empty" s_is_empty ["box"]) (D_has_one_count_each:Dfn K mg "has_one_count_each" s_has_one_count_each ["box"]) (D_tightened:Dfn K mg "tightened" s_tightened ["measures","box"]) (D_after_round:Dfn K mg "after_round" s_after_round ["measures","box"]) (D_narrow_by_condition:Dfn K mg "narrow_by_condition" s_narrow_by_condition ["lows","highs","terms","bound"]) (D_narrow_by_ban:Dfn K mg "narrow_by_ban" s_narrow_by_ban ["lows","highs","e","f"]) (D_bound_of:Dfn K mg "bound_of" s_bound_of ["measures","box"]) (D_parts_of:Dfn K mg "parts_of" s_parts_of ["measures","box","edge","m"]) (D_held_with:Dfn K mg "held_with" s_held_with ["held","costs","facts"]) (D_all_between:Dfn K mg "all_between" s_all_between ["numbers","least","greatest"]) (D_is_place:Dfn K mg "is_place" s_is_place ["number","things"]) (D_is_edge:Dfn K mg "is_edge" s_is_edge ["held","edge"]) (D_is_cost:Dfn K mg "is_cost" s_is_cost ["number"]) (D_is_most:Dfn K mg "is_most" s_is_most ["number"]) (D_is_graph_row:Dfn K mg "is_graph_row" s_is_graph_row ["row"]) (D_is_fact_row:Dfn K mg "is_fact_row" s_is_fact_row ["held","row"]) (D_is_counts_row:Dfn K mg "is_counts_row" s_is_counts_row ["held","row"]) (D_conditions:Dfn K mg "conditions" s_conditions ["held"]) (D_terms_of:Dfn K mg "terms_of" s_terms_of ["multiples"]) (D_node_multiples:Dfn K mg "node_multiples" s_node_multiples ["held","node"]) (D_node_bound:Dfn K mg "node_bound" s_node_bound ["held","node"]) (D_potentials:Dfn K mg "potentials" s_potentials ["held"]) (D_upward_edges:Dfn K mg "upward_edges" s_upward_edges ["held","node"]) (D_surpluses:Dfn K mg "surpluses" s_surpluses ["held","heights"]) (D_way:Dfn K mg "way" s_way ["held","edges"]) (D_fits:Dfn K mg "fits" s_fits ["held","counts"]) (D_told:Dfn K mg "told" s_told ["held","counts"]) (D_is_way:Dfn K mg "is_way" s_is_way ["held","edges"]) (D_counts_of:Dfn K mg "counts_of" s_counts_of ["held","edges"]) (D_product_sum:Dfn K mg "product_sum" s_product_sum ["multiples","counts"]) (D_edges_above_most:Dfn K mg "edges_above_most" s_edges_above_most ["held","counts"]) (D_facts_not_kept:Dfn K mg "facts_not_kept" s_facts_not_kept ["held","counts"]) (D_bans_not_kept:Dfn K mg "bans_not_kept" s_bans_not_kept ["held","counts"]) (D_is_let:Dfn K mg "is_let" s_is_let ["held","counts"]) (D_fit_and_let:Dfn K mg "fit_and_let" s_fit_and_let ["held","counts"]) (D_counts_fit:Dfn K mg "counts_fit" s_counts_fit ["held","start","counts"]) (D_is_balanced:Dfn K mg "is_balanced" s_is_balanced ["held","start","counts"]) (D_all_reached:Dfn K mg "all_reached" s_all_reached ["held","start","counts"]) (D_reached_nodes:Dfn K mg "reached_nodes" s_reached_nodes ["held","start","counts"]) (D_told_way:Dfn K mg "told_way" s_told_way ["held","counts"]) (D_first_edge:Dfn K mg "first_edge" s_first_edge ["held","node","left"]) (D_may_stand:Dfn K mg "may_stand" s_may_stand ["held","node","left","edge"]) (D_search:Dfn K mg "search" s_search ["held"]) (D_step_of:Dfn K mg "step_of" s_step_of ["held","measures","outcome","box"]) (D_settled:Dfn K mg "settled" s_settled ["held","outcome","counts"]) (D_widest_edge:Dfn K mg "widest_edge" s_widest_edge ["box"]) (D_proves:Dfn K mg "proves" s_proves ["held","b","proof"]) (D_may_be_parted:Dfn K mg "may_be_parted" s_may_be_parted ["held","box","step"]) (D_may_be_left:Dfn K mg "may_be_left" s_may_be_left ["held","measures","box","number","b"]) (D_box:Dfn K mg "box" s_box ["held"]) (D_bound:Dfn K mg "bound" s_bound ["held"]) (D_worst:Dfn K mg "worst" s_worst ["held"]) (D_gone:Dfn K mg "gone" s_gone ["held"]) (D_least:Dfn K mg "least" s_least ["held"]) (D_most:Dfn K mg "most" s_most ["held","e"]) (D_without:Dfn K mg "without" s_without ["held","k"]) (D_proof:Dfn K mg "proof" s_proof ["held"]) (D_ended:Dfn K mg "ended" s_ended ["outcome","if_found","if_none"]) (D_check:Dfn K mg "check" s_check ["held","b","numbers"]) (D_size:Dfn K mg "size" s_size ["held"]) (D_graph:Dfn K mg "graph" s_graph ["held","row"]) (D_fact:Dfn K mg "fact" s_fact ["held","row"]) (D_ban:Dfn K mg "ban" s_ban ["held","e","f"]) (D_unfact:Dfn K mg "unfact" s_unfact ["held","k"]) (D_unban:Dfn K mg "unban" s_unban ["held","k"]) (D_take_out:Dfn K mg "take_out" s_take_out ["things","k"]) (D_recost:Dfn K mg "recost" s_recost ["held","e","c"]) (D_remost:Dfn K mg "remost" s_remost ["held","e","m"]) (D_answer_of:Dfn K mg "answer_of" s_answer_of ["held","call","numbers","row"]) (D_row_answer:Dfn K mg "row_answer" s_row_answer ["held","call","row"]) (D_pair_answer:Dfn K mg "pair_answer" s_pair_answer ["held","call","first","second"]) (D_number_answer:Dfn K mg "number_answer" s_number_answer ["held","call","number"]) (D_bare_answer:Dfn K mg "bare_answer" s_bare_answer ["held","call"]) (F:Fun K "answers" "answers" s_answers fa fda):FnOk P w K mg base CX0 11 fa fda ["calls"] (sp_answers K):=by
 have p_is_place:=ok_is_place (P:=P) (w:=w) (base:=base) T D_is_place
 have p_is_edge:=ok_is_edge c D_is_edge p_is_place
 have p_is_cost:=ok_is_cost (P:=P) (w:=w) (base:=base) T D_is_cost
 have p_is_most:=ok_is_most (P:=P) (w:=w) (base:=base) T D_is_most
 have p_all_between:=ok_all_between (P:=P) (w:=w) (base:=base) T D_all_between
 have p_is_counts_row:=ok_is_counts_row T c D_is_counts_row p_all_between
 have p_is_fact_row:=ok_is_fact_row T c D_is_fact_row p_all_between
 have p_is_graph_row:=ok_is_graph_row T D_is_graph_row p_all_between p_is_cost p_is_most
 have p_recost:=ok_recost T c D_recost p_is_edge p_is_cost
 have p_remost:=ok_remost T c D_remost p_is_edge p_is_most
 have p_ban:=ok_ban T c D_ban p_is_edge
 have p_take_out:=ok_take_out T D_take_out p_is_place
 have p_unfact:=ok_unfact c D_unfact p_take_out
 have p_unban:=ok_unban c D_unban p_take_out
 have p_fact:=ok_fact T c D_fact p_is_fact_row
 have p_graph:=ok_graph T c D_graph p_is_graph_row
 have G_Held:=ok_init (P:=P) (w:=w) (mg:=mg) (base:=base) c FH
 have p_product_sum:=ok_product_sum (P:=P) (w:=w) (base:=base) T D_product_sum
 have p_counts_of:=ok_counts_of (P:=P) (w:=w) (base:=base) T c D_counts_of
 have p_is_way:=ok_is_way T c D_is_way p_is_edge
 have p_edges_above_most:=ok_edges_above_most (P:=P) (w:=w) (base:=base) T c D_edges_above_most
 have p_facts_not_kept:=ok_facts_not_kept T c D_facts_not_kept p_product_sum
 have p_bans_not_kept:=ok_bans_not_kept (P:=P) (w:=w) (base:=base) T c D_bans_not_kept
 have p_way:=ok_way T c D_way p_is_way p_counts_of p_edges_above_most p_facts_not_kept p_bans_not_kept p_product_sum
 have p_is_balanced:=ok_is_balanced (P:=P) (w:=w) (base:=base) T c D_is_balanced
 have p_reached_nodes:=ok_reached_nodes (P:=P) (w:=w) (base:=base) T c D_reached_nodes
 have p_all_reached:=ok_all_reached T c D_all_reached p_reached_nodes
 have p_counts_fit:=ok_counts_fit T c D_counts_fit p_is_balanced p_all_reached
 have p_may_stand:=ok_may_stand T c D_may_stand p_counts_fit
 have p_first_edge:=ok_first_edge T c D_first_edge p_may_stand
 have p_told_way:=ok_told_way T c D_told_way p_first_edge
 have p_fits:=ok_fits T c D_fits p_is_counts_row p_counts_fit
 have p_told:=ok_told T c D_told p_is_counts_row p_counts_fit p_told_way
 have p_terms_of:=ok_terms_of (P:=P) (w:=w) (base:=base) T D_terms_of
 have p_node_multiples:=ok_node_multiples (P:=P) (w:=w) (base:=base) T c D_node_multiples
 have p_node_bound:=ok_node_bound (P:=P) (w:=w) (base:=base) T c D_node_bound
 have p_conditions:=ok_conditions T c D_conditions p_terms_of p_node_multiples p_node_bound
 have p_upward_edges:=ok_upward_edges (P:=P) (w:=w) (base:=base) T c D_upward_edges
 have p_potentials:=ok_potentials T c D_potentials p_upward_edges
 have p_surpluses:=ok_surpluses (P:=P) (w:=w) (base:=base) T c D_surpluses
 have G_Measures:=ok_init_Measures c cm FM p_potentials p_conditions p_surpluses
 have p_whole_box:=ok_whole_box (P:=P) (w:=w) (base:=base) T c D_whole_box
 have p_is_empty:=ok_is_empty (P:=P) (w:=w) (base:=base) T D_is_empty
 have p_has_one_count_each:=ok_has_one_count_each (P:=P) (w:=w) (base:=base) T D_has_one_count_each
 have p_narrow_by_condition:=ok_narrow_by_condition (P:=P) (w:=w) (base:=base) T D_narrow_by_condition
 have p_narrow_by_ban:=ok_narrow_by_ban (P:=P) (w:=w) (base:=base) T D_narrow_by_ban
 have p_after_round:=ok_after_round T cm D_after_round p_narrow_by_condition p_narrow_by_ban
 have p_tightened:=ok_tightened T cm D_tightened p_after_round p_is_empty
 have p_bound_of:=ok_bound_of (P:=P) (w:=w) (base:=base) T cm D_bound_of
 have p_parts_of:=ok_parts_of (P:=P) (w:=w) (base:=base) T cm D_parts_of
 have p_is_let:=ok_is_let T c D_is_let p_edges_above_most p_facts_not_kept p_bans_not_kept
 have p_fit_and_let:=ok_fit_and_let T c D_fit_and_let p_counts_fit p_is_let
 have p_widest_edge:=ok_widest_edge (P:=P) (w:=w) (base:=base) T D_widest_edge
 have p_settled:=ok_settled T c co D_settled p_fit_and_let p_product_sum
 have p_step_of:=ok_step_of T c co D_step_of p_is_empty p_bound_of p_has_one_count_each p_settled p_widest_edge
 have G_Outcome:=ok_init_Outcome (P:=P) (w:=w) (mg:=mg) (base:=base) co FO
 have p_search:=ok_search T c cm co D_search MM G_Measures mM bM MO G_Outcome mO bO p_whole_box p_tightened p_step_of p_parts_of
 have p_may_be_parted:=ok_may_be_parted T c D_may_be_parted p_is_edge p_is_empty
 have p_may_be_left:=ok_may_be_left T c D_may_be_left p_is_empty p_bound_of p_has_one_count_each p_fit_and_let
 have p_proves:=ok_proves T c cm D_proves MM G_Measures mM bM p_whole_box p_tightened p_may_be_parted p_may_be_left p_parts_of
 have p_held_with:=ok_held_with c D_held_with MH G_Held mH bH
 have p_ended:=ok_ended (P:=P) (w:=w) (base:=base) T co D_ended
 have p_box:=ok_box T c D_box MM G_Measures mM bM p_whole_box p_tightened p_is_empty
 have p_bound:=ok_bound T c D_bound MM G_Measures mM bM p_whole_box p_bound_of p_potentials
 have p_worst:=ok_worst T co D_worst p_search p_ended
 have p_gone:=ok_gone T co D_gone p_search p_ended p_told_way
 have p_proof:=ok_proof T co D_proof p_search p_ended
 have p_check:=ok_check T D_check p_proves
 have p_size:=ok_size (P:=P) (w:=w) (base:=base) T c D_size
 have p_least:=ok_least T c co D_least p_search p_ended p_held_with
 have p_most:=ok_most T c co D_most p_is_edge p_search p_ended p_held_with
 have p_without:=ok_without T c co D_without p_is_place p_search p_ended p_held_with
 have p_row_answer:=ok_row_answer T D_row_answer p_graph p_fact p_way p_fits p_told
 have p_pair_answer:=ok_pair_answer T D_pair_answer p_ban p_recost p_remost
 have p_number_answer:=ok_number_answer T D_number_answer p_unfact p_unban p_most p_without
 have p_bare_answer:=ok_bare_answer T D_bare_answer p_box p_bound p_worst p_gone p_least p_proof p_size
 have p_answer_of:=ok_answer_of T D_answer_of p_check p_row_answer p_pair_answer p_number_answer p_bare_answer
 exact ok_answers T F MH G_Held mH bH p_answer_of
end Ww
end
section
namespace Ww
open PySem PySem.Spec PyProof.Rows L2
theorem dfn_mk {K:PySem.W.Frag} {h:Heap} {mg:Str->Option Value} {x:Str} {st:Stmt} {ps:List Str} {fa:Addr} {oc:Value} {od an:Option Addr} {osl:Array (Option Value)} {kV doc pm cdv ct:Value} (X:K.In h) (G:h.Ns mainGlobals mg)
  (a:PySem.W.nsIn K mainGlobals x=some (some (.ref fa))) (l:K.lookup fa=some ⟨oc,od,.func (PySem.W.fnOf x x (defArgs st) (defBody st) (k0m st) .none kV doc pm an cdv ct),osl⟩) (c:PySem.W.codeIn K cdv x=true) (k:PySem.W.keepIn K (.ref fa)=true)
  (hb:∀ (kV doc pm:Value) (an:Option Addr) (cdv ct:Value) (us:List Value),us.length=ps.length->bindArgs (PySem.W.fnOf x x (defArgs st) (defBody st) (k0m st) .none kV doc pm an cdv ct) ⟨us,[]⟩=pure (ps.zip us)):Dfn K mg x st ps :=
 ⟨fa,_,fun_mk l c k,PySem.W.mg_of X G a,(fun_mk l c k).binds hb⟩
theorem int_mk {K:PySem.W.Frag} {h:Heap} {mg:Str->Option Value} {x:Str} {v:Value} {i:Int} (X:K.In h) (G:h.Ns mainGlobals mg) (e:PySem.W.nsIn K mainGlobals x=some (some v)) (hv:∃ t,v=.int i t):∃ t,mg x=some (.int i t):=by
 obtain⟨t,rfl⟩:=hv
 exact⟨t,PySem.W.mg_of X G e⟩
theorem tup_mk {K:PySem.W.Frag} {h:Heap} {mg:Str->Option Value} {x:Str} {a:Addr} {o:Obj} {its:Array Value} {n:Nat} {xs:List V} (X:K.In h) (G:h.Ns mainGlobals mg) (e:PySem.W.nsIn K mainGlobals x=some (some (.ref a))) (l:K.lookup a=some o)
  (c:o.cls=.type "tuple") (d:o.data=.seq its n) (s:its.size≤sizeLine) (v:Vals xs its.toList):∃ a:Addr,mg x=some (.ref a)∧∀ H:Hp,SqT K H a xs :=
 ⟨a,PySem.W.mg_of X G e,fun _=>.inr ⟨o,its,n,l,c,d,s,v⟩⟩
theorem held_mk {K:PySem.W.Frag} {h:Heap} {mg:Str->Option Value} {C f:Addr} {oc:Value} {od an:Option Addr} {osl:Array (Option Value)} {kV doc pm cdv ct:Value} (X:K.In h) (G:h.Ns mainGlobals mg)
  (a:PySem.W.nsIn K mainGlobals "Held"=some (some (.ref C))) (i:PySem.W.findIn K (.ref C) "__init__"=some (some (.ref f))) (ff:PySem.W.isFn K (.ref f)=true)
  (l:K.lookup f=some ⟨oc,od,.func (PySem.W.fnOf "__init__" "Held.__init__" (defArgs s_init) (defBody s_init) (k0m s_init) .none kV doc pm an cdv ct),osl⟩) (cc:PySem.W.codeIn K cdv "Held.__init__"=true) (k:PySem.W.keepIn K (.ref f)=true)
  (pg:PySem.W.plainGet K C Str.empty=true) (hd:PySem.W.hasDictIn K C=true) (po:PySem.W.plainOver K C=true) (sa:PySem.W.findIn K (.ref C) "__setattr__"=some (some (.builtin "object.__setattr__"))) (mk:PySem.W.makesIn K C=true) (kc:PySem.W.keepIn K (.ref C)=true)
  (n0:PySem.W.findIn K (.ref C) "nodes"=some none) (n1:PySem.W.findIn K (.ref C) "leaves"=some none) (n2:PySem.W.findIn K (.ref C) "comes"=some none) (n3:PySem.W.findIn K (.ref C) "costs"=some none) (n4:PySem.W.findIn K (.ref C) "mosts"=some none) (n5:PySem.W.findIn K (.ref C) "facts"=some none) (n6:PySem.W.findIn K (.ref C) "bans"=some none):∃ (C f:Addr) (fd:FuncData),mg "Held"=some (.ref C)∧Cl K C∧Mk K C f∧Fun K "__init__" "Held.__init__" s_init f fd∧L2.Binds K fd ["self"] [] :=
 ⟨C,f,_,PySem.W.mg_of X G a,⟨⟨pg,hd,po,sa⟩,n0,n1,n2,n3,n4,n5,n6⟩,⟨mk,i,ff,kc⟩,fun_mk (st:=s_init) l cc k,(fun_mk (st:=s_init) l cc k).binds fun _ _ _ _ _ _ us hl=>match us,hl with|[_],_=>rfl⟩
theorem measures_mk {K:PySem.W.Frag} {h:Heap} {mg:Str->Option Value} {C f:Addr} {oc:Value} {od an:Option Addr} {osl:Array (Option Value)} {kV doc pm cdv ct:Value} (X:K.In h) (G:h.Ns mainGlobals mg)
  (a:PySem.W.nsIn K mainGlobals "Measures"=some (some (.ref C))) (i:PySem.W.findIn K (.ref C) "__init__"=some (some (.ref f))) (ff:PySem.W.isFn K (.ref f)=true)
  (l:K.lookup f=some ⟨oc,od,.func (PySem.W.fnOf "__init__" "Measures.__init__" (defArgs s_init_Measures) (defBody s_init_Measures) (k0m s_init_Measures) .none kV doc pm an cdv ct),osl⟩) (cc:PySem.W.codeIn K cdv "Measures.__init__"=true) (k:PySem.W.keepIn K (.ref f)=true)
  (pg:PySem.W.plainGet K C Str.empty=true) (hd:PySem.W.hasDictIn K C=true) (po:PySem.W.plainOver K C=true) (sa:PySem.W.findIn K (.ref C) "__setattr__"=some (some (.builtin "object.__setattr__"))) (mk:PySem.W.makesIn K C=true) (kc:PySem.W.keepIn K (.ref C)=true)
  (n0:PySem.W.findIn K (.ref C) "conditions"=some none) (n1:PySem.W.findIn K (.ref C) "bans"=some none) (n2:PySem.W.findIn K (.ref C) "base"=some none) (n3:PySem.W.findIn K (.ref C) "surpluses"=some none):∃ (C f:Addr) (fd:FuncData),mg "Measures"=some (.ref C)∧ClM K C∧Mk K C f∧Fun K "__init__" "Measures.__init__" s_init_Measures f fd∧L2.Binds K fd ["self","held"] [] :=
 ⟨C,f,_,PySem.W.mg_of X G a,⟨⟨pg,hd,po,sa⟩,n0,n1,n2,n3⟩,⟨mk,i,ff,kc⟩,fun_mk (st:=s_init_Measures) l cc k,(fun_mk (st:=s_init_Measures) l cc k).binds fun _ _ _ _ _ _ us hl=>match us,hl with|[_,_],_=>rfl⟩
theorem outcome_mk {K:PySem.W.Frag} {h:Heap} {mg:Str->Option Value} {C f:Addr} {oc:Value} {od an:Option Addr} {osl:Array (Option Value)} {kV doc pm cdv ct:Value} (X:K.In h) (G:h.Ns mainGlobals mg)
  (a:PySem.W.nsIn K mainGlobals "Outcome"=some (some (.ref C))) (i:PySem.W.findIn K (.ref C) "__init__"=some (some (.ref f))) (ff:PySem.W.isFn K (.ref f)=true)
  (l:K.lookup f=some ⟨oc,od,.func (PySem.W.fnOf "__init__" "Outcome.__init__" (defArgs s_init_Outcome) (defBody s_init_Outcome) (k0m s_init_Outcome) .none kV doc pm an cdv ct),osl⟩) (cc:PySem.W.codeIn K cdv "Outcome.__init__"=true) (k:PySem.W.keepIn K (.ref f)=true)
  (pg:PySem.W.plainGet K C Str.empty=true) (hd:PySem.W.hasDictIn K C=true) (po:PySem.W.plainOver K C=true) (sa:PySem.W.findIn K (.ref C) "__setattr__"=some (some (.builtin "object.__setattr__"))) (mk:PySem.W.makesIn K C=true) (kc:PySem.W.keepIn K (.ref C)=true)
  (n0:PySem.W.findIn K (.ref C) "counts"=some none) (n1:PySem.W.findIn K (.ref C) "cost"=some none) (n2:PySem.W.findIn K (.ref C) "taken"=some none) (n3:PySem.W.findIn K (.ref C) "proof"=some none) (n4:PySem.W.findIn K (.ref C) "broken"=some none):∃ (C f:Addr) (fd:FuncData),mg "Outcome"=some (.ref C)∧ClO K C∧Mk K C f∧Fun K "__init__" "Outcome.__init__" s_init_Outcome f fd∧L2.Binds K fd ["self"] [] :=
 ⟨C,f,_,PySem.W.mg_of X G a,⟨⟨pg,hd,po,sa⟩,n0,n1,n2,n3,n4⟩,⟨mk,i,ff,kc⟩,fun_mk (st:=s_init_Outcome) l cc k,(fun_mk (st:=s_init_Outcome) l cc k).binds fun _ _ _ _ _ _ us hl=>match us,hl with|[_],_=>rfl⟩
theorem last_mk {P:Program} {w:World} {K:PySem.W.Frag} {h:Heap} {mg:Str->Option Value} {fa f:Addr} {oc:Value} {od an:Option Addr} {osl:Array (Option Value)} {kV doc pm cdv ct:Value} (X:K.In h) (G:h.Ns mainGlobals mg) (hfa:mg "answers"=some (.ref fa))
  (a:PySem.W.nsIn K mainGlobals "answers"=some (some (.ref f))) (l:K.lookup f=some ⟨oc,od,.func (PySem.W.fnOf "answers" "answers" (defArgs s_answers) (defBody s_answers) (k0m s_answers) .none kV doc pm an cdv ct),osl⟩) (cc:PySem.W.codeIn K cdv "answers"=true) (k:PySem.W.keepIn K (.ref f)=true)
  (all:∀ (base:Heap) (fd:FuncData),Fun K "answers" "answers" s_answers f fd->FnOk P w K mg base CX0 11 f fd ["calls"] (sp_answers K)) :
  ∃ fd:FuncData,(∀ (s:Shared) (us:List Value),us.length=(["calls"]:List Str).length->BindsTo s fd ⟨us,[]⟩ ((["calls"]:List Str).zip us))∧∀ base:Heap,K.In base->base.Ns mainGlobals mg->FnOk P w K mg base CX0 11 fa fd ["calls"] (sp_answers K):=by
 have e:=hfa.symm.trans (PySem.W.mg_of X G a)
 cases e
 exact⟨PySem.W.fnOf "answers" "answers" (defArgs s_answers) (defBody s_answers) (k0m s_answers) .none kV doc pm an cdv ct,fun s us hu=>match us,hu with|[_],_=>.of_eq rfl,fun base _ _=>all base _ (fun_mk (st:=s_answers) l cc k)⟩
end Ww
local macro_rules | `(tactic| walk_at "vals_row") => `(tactic| (repeat (first | exact L2.Paired.nil | exact .nil | refine .cons ⟨_, rfl⟩ ?_)))
open PySem PySem.W PyProof.Rows
set_option maxRecDepth 100000 in
set_option maxHeartbeats 0 in
theorem PySem.Challenge.cw_worstways_s01_answers_holds : PySem.Challenge.rw_worstways_s01_answers.Holds := by
 w_on;k_headS;(case hw=>exact⟨[.list [.int 19]],by decide +kernel,by decide +kernel⟩)
 k_fillS
 refine L2.walk_specK (r:=PySem.Challenge.rw_worstways_s01_answers) (k:=11) (CX:=L2.CX0) (ps:=["calls"]) (sp:=Ww.sp_answers) (by decide +kernel) rfl rfl ⟨rfl,by decide,by decide⟩ (fun w h Y=>PySem.W.kIn_of Y) ?F ?S (fun _ _ _ _ z=>z)
 case F =>
  intro w mg fa h Y KX G hmg
  have n_len:mg "len"=none:=PySem.W.mg_none_of KX G (by k_is)
  have n_sum:mg "sum"=none:=PySem.W.mg_none_of KX G (by k_is)
  have n_all:mg "all"=none:=PySem.W.mg_none_of KX G (by k_is)
  have n_any:mg "any"=none:=PySem.W.mg_none_of KX G (by k_is)
  have n_min:mg "min"=none:=PySem.W.mg_none_of KX G (by k_is)
  have n_max:mg "max"=none:=PySem.W.mg_none_of KX G (by k_is)
  have n_list:mg "list"=none:=PySem.W.mg_none_of KX G (by k_is)
  have n_range:mg "range"=none:=PySem.W.mg_none_of KX G (by k_is)
  have n_enumerate:mg "enumerate"=none:=PySem.W.mg_none_of KX G (by k_is)
  have n_zip:mg "zip"=none:=PySem.W.mg_none_of KX G (by k_is)
  have n_reversed:mg "reversed"=none:=PySem.W.mg_none_of KX G (by k_is)
  have c_MOST_ROUNDS:∃ t,mg "MOST_ROUNDS"=some (.int (6) t):=by
   refine' Ww.int_mk KX G ?a ?e
   (case a=>k_is);(case e=>exact⟨_,rfl⟩)
  have c_MOST_FACTS:∃ t,mg "MOST_FACTS"=some (.int (6) t):=by
   refine' Ww.int_mk KX G ?a ?e
   (case a=>k_is);(case e=>exact⟨_,rfl⟩)
  have c_MOST_BANS:∃ t,mg "MOST_BANS"=some (.int (4) t):=by
   refine' Ww.int_mk KX G ?a ?e
   (case a=>k_is);(case e=>exact⟨_,rfl⟩)
  have c_LEAST_NODES:∃ t,mg "LEAST_NODES"=some (.int (2) t):=by
   refine' Ww.int_mk KX G ?a ?e
   (case a=>k_is);(case e=>exact⟨_,rfl⟩)
  have c_MOST_NODES:∃ t,mg "MOST_NODES"=some (.int (8) t):=by
   refine' Ww.int_mk KX G ?a ?e
   (case a=>k_is);(case e=>exact⟨_,rfl⟩)
  have c_MOST_EDGES:∃ t,mg "MOST_EDGES"=some (.int (16) t):=by
   refine' Ww.int_mk KX G ?a ?e
   (case a=>k_is);(case e=>exact⟨_,rfl⟩)
  have c_EDGE_NUMBERS:∃ t,mg "EDGE_NUMBERS"=some (.int (4) t):=by
   refine' Ww.int_mk KX G ?a ?e
   (case a=>k_is);(case e=>exact⟨_,rfl⟩)
  have c_HIGHEST_COST:∃ t,mg "HIGHEST_COST"=some (.int (1000) t):=by
   refine' Ww.int_mk KX G ?a ?e
   (case a=>k_is);(case e=>exact⟨_,rfl⟩)
  have c_HIGHEST_MOST:∃ t,mg "HIGHEST_MOST"=some (.int (9) t):=by
   refine' Ww.int_mk KX G ?a ?e
   (case a=>k_is);(case e=>exact⟨_,rfl⟩)
  have c_FARTHEST_MULTIPLE:∃ t,mg "FARTHEST_MULTIPLE"=some (.int (20) t):=by
   refine' Ww.int_mk KX G ?a ?e
   (case a=>k_is);(case e=>exact⟨_,rfl⟩)
  have c_FARTHEST_BOUND:∃ t,mg "FARTHEST_BOUND"=some (.int (1000) t):=by
   refine' Ww.int_mk KX G ?a ?e
   (case a=>k_is);(case e=>exact⟨_,rfl⟩)
  have c_NO_SUCH_NUMBER:∃ t,mg "NO_SUCH_NUMBER"=some (.int (-3) t):=by
   refine' Ww.int_mk KX G ?a ?e
   (case a=>k_is);(case e=>exact⟨_,rfl⟩)
  have c_OUT_OF_RANGE:∃ t,mg "OUT_OF_RANGE"=some (.int (-7) t):=by
   refine' Ww.int_mk KX G ?a ?e
   (case a=>k_is);(case e=>exact⟨_,rfl⟩)
  have c_NO_ROOM:∃ t,mg "NO_ROOM"=some (.int (-9) t):=by
   refine' Ww.int_mk KX G ?a ?e
   (case a=>k_is);(case e=>exact⟨_,rfl⟩)
  have c_NO_WAY:∃ t,mg "NO_WAY"=some (.int (-10) t):=by
   refine' Ww.int_mk KX G ?a ?e
   (case a=>k_is);(case e=>exact⟨_,rfl⟩)
  have c_WRONG_ROW:∃ t,mg "WRONG_ROW"=some (.int (-12) t):=by
   refine' Ww.int_mk KX G ?a ?e
   (case a=>k_is);(case e=>exact⟨_,rfl⟩)
  have c_MOST_TAKEN:∃ t,mg "MOST_TAKEN"=some (.int (400) t):=by
   refine' Ww.int_mk KX G ?a ?e
   (case a=>k_is);(case e=>exact⟨_,rfl⟩)
  have c_EMPTY:∃ t,mg "EMPTY"=some (.int (0) t):=by
   refine' Ww.int_mk KX G ?a ?e
   (case a=>k_is);(case e=>exact⟨_,rfl⟩)
  have c_BOUNDED:∃ t,mg "BOUNDED"=some (.int (1) t):=by
   refine' Ww.int_mk KX G ?a ?e
   (case a=>k_is);(case e=>exact⟨_,rfl⟩)
  have c_NO_WAY_THERE:∃ t,mg "NO_WAY_THERE"=some (.int (2) t):=by
   refine' Ww.int_mk KX G ?a ?e
   (case a=>k_is);(case e=>exact⟨_,rfl⟩)
  have c_PARTED:∃ t,mg "PARTED"=some (.int (3) t):=by
   refine' Ww.int_mk KX G ?a ?e
   (case a=>k_is);(case e=>exact⟨_,rfl⟩)
  have c_PARTED_NUMBERS:∃ t,mg "PARTED_NUMBERS"=some (.int (3) t):=by
   refine' Ww.int_mk KX G ?a ?e
   (case a=>k_is);(case e=>exact⟨_,rfl⟩)
  have c_FOUND:∃ t,mg "FOUND"=some (.int (0) t):=by
   refine' Ww.int_mk KX G ?a ?e
   (case a=>k_is);(case e=>exact⟨_,rfl⟩)
  have c_NONE_LET:∃ t,mg "NONE_LET"=some (.int (1) t):=by
   refine' Ww.int_mk KX G ?a ?e
   (case a=>k_is);(case e=>exact⟨_,rfl⟩)
  have c_BROKEN_OFF:∃ t,mg "BROKEN_OFF"=some (.int (2) t):=by
   refine' Ww.int_mk KX G ?a ?e
   (case a=>k_is);(case e=>exact⟨_,rfl⟩)
  have c_GRAPH:∃ t,mg "GRAPH"=some (.int (0) t):=by
   refine' Ww.int_mk KX G ?a ?e
   (case a=>k_is);(case e=>exact⟨_,rfl⟩)
  have c_FACT:∃ t,mg "FACT"=some (.int (1) t):=by
   refine' Ww.int_mk KX G ?a ?e
   (case a=>k_is);(case e=>exact⟨_,rfl⟩)
  have c_BAN:∃ t,mg "BAN"=some (.int (2) t):=by
   refine' Ww.int_mk KX G ?a ?e
   (case a=>k_is);(case e=>exact⟨_,rfl⟩)
  have c_UNFACT:∃ t,mg "UNFACT"=some (.int (3) t):=by
   refine' Ww.int_mk KX G ?a ?e
   (case a=>k_is);(case e=>exact⟨_,rfl⟩)
  have c_UNBAN:∃ t,mg "UNBAN"=some (.int (4) t):=by
   refine' Ww.int_mk KX G ?a ?e
   (case a=>k_is);(case e=>exact⟨_,rfl⟩)
  have c_RECOST:∃ t,mg "RECOST"=some (.int (5) t):=by
   refine' Ww.int_mk KX G ?a ?e
   (case a=>k_is);(case e=>exact⟨_,rfl⟩)
  have c_WAY:∃ t,mg "WAY"=some (.int (7) t):=by
   refine' Ww.int_mk KX G ?a ?e
   (case a=>k_is);(case e=>exact⟨_,rfl⟩)
  have c_FITS:∃ t,mg "FITS"=some (.int (8) t):=by
   refine' Ww.int_mk KX G ?a ?e
   (case a=>k_is);(case e=>exact⟨_,rfl⟩)
  have c_BOX:∃ t,mg "BOX"=some (.int (10) t):=by
   refine' Ww.int_mk KX G ?a ?e
   (case a=>k_is);(case e=>exact⟨_,rfl⟩)
  have c_BOUND:∃ t,mg "BOUND"=some (.int (11) t):=by
   refine' Ww.int_mk KX G ?a ?e
   (case a=>k_is);(case e=>exact⟨_,rfl⟩)
  have c_WORST:∃ t,mg "WORST"=some (.int (12) t):=by
   refine' Ww.int_mk KX G ?a ?e
   (case a=>k_is);(case e=>exact⟨_,rfl⟩)
  have c_GONE:∃ t,mg "GONE"=some (.int (13) t):=by
   refine' Ww.int_mk KX G ?a ?e
   (case a=>k_is);(case e=>exact⟨_,rfl⟩)
  have c_LEAST:∃ t,mg "LEAST"=some (.int (14) t):=by
   refine' Ww.int_mk KX G ?a ?e
   (case a=>k_is);(case e=>exact⟨_,rfl⟩)
  have c_MOST:∃ t,mg "MOST"=some (.int (15) t):=by
   refine' Ww.int_mk KX G ?a ?e
   (case a=>k_is);(case e=>exact⟨_,rfl⟩)
  have c_PROOF:∃ t,mg "PROOF"=some (.int (17) t):=by
   refine' Ww.int_mk KX G ?a ?e
   (case a=>k_is);(case e=>exact⟨_,rfl⟩)
  have c_CHECK:∃ t,mg "CHECK"=some (.int (18) t):=by
   refine' Ww.int_mk KX G ?a ?e
   (case a=>k_is);(case e=>exact⟨_,rfl⟩)
  have c_NUMBERS:∃ a:Addr,mg "NUMBERS"=some (.ref a)∧∀ H:L2.Hp,L2.SqT (L2.KOf KX) H a (([0,0,2,1,1,2,2,0,0,0,0,0,0,0,0,1,1,0,1,0]:List Int).map L2.V.int):=by
   dsimp only[L2.KOf]
   refine' Ww.tup_mk KX G ?a ?l ?c ?d ?s ?v
   (case a=>k_is);(case l=>k_is);(case c=>rfl);(case d=>rfl);(case s=>decide);(case v=>walk_at "vals_row")
  have c_WITH_ROW:∃ a:Addr,mg "WITH_ROW"=some (.ref a)∧∀ H:L2.Hp,L2.SqT (L2.KOf KX) H a (([0,1,7,8,9,18]:List Int).map L2.V.int):=by
   dsimp only[L2.KOf]
   refine' Ww.tup_mk KX G ?a ?l ?c ?d ?s ?v
   (case a=>k_is);(case l=>k_is);(case c=>rfl);(case d=>rfl);(case s=>decide);(case v=>walk_at "vals_row")
  have T:Ww.Txt (L2.KOf KX) mg:=⟨n_len,n_sum,n_all,n_any,n_min,n_max,n_list,n_range,n_enumerate,n_zip,n_reversed,c_MOST_ROUNDS,c_MOST_FACTS,c_MOST_BANS,c_LEAST_NODES,c_MOST_NODES,c_MOST_EDGES,c_EDGE_NUMBERS,c_HIGHEST_COST,c_HIGHEST_MOST,c_FARTHEST_MULTIPLE,c_FARTHEST_BOUND,c_NO_SUCH_NUMBER,c_OUT_OF_RANGE,c_NO_ROOM,c_NO_WAY,c_WRONG_ROW,c_MOST_TAKEN,c_EMPTY,c_BOUNDED,c_NO_WAY_THERE,c_PARTED,c_PARTED_NUMBERS,c_FOUND,c_NONE_LET,c_BROKEN_OFF,c_GRAPH,c_FACT,c_BAN,c_UNFACT,c_UNBAN,c_RECOST,c_WAY,c_FITS,c_BOX,c_BOUND,c_WORST,c_GONE,c_LEAST,c_MOST,c_PROOF,c_CHECK,c_NUMBERS,c_WITH_ROW⟩
  have D_whole_box:L2.Dfn (L2.KOf KX) mg "whole_box" Ww.s_whole_box ["held"]:=by
   dsimp only[L2.KOf]
   refine' Ww.dfn_mk KX G ?a ?l ?c ?k (fun _ _ _ _ _ _ us hl=>match us,hl with|[_],_=>rfl)
   (case a=>k_is);(case l=>k_is);(case c=>k_is);(case k=>k_is)
  have D_is_empty:L2.Dfn (L2.KOf KX) mg "is_empty" Ww.s_is_empty ["box"]:=by
   dsimp only[L2.KOf]
   refine' Ww.dfn_mk KX G ?a ?l ?c ?k (fun _ _ _ _ _ _ us hl=>match us,hl with|[_],_=>rfl)
   (case a=>k_is);(case l=>k_is);(case c=>k_is);(case k=>k_is)
  have D_has_one_count_each:L2.Dfn (L2.KOf KX) mg "has_one_count_each" Ww.s_has_one_count_each ["box"]:=by
   dsimp only[L2.KOf]
   refine' Ww.dfn_mk KX G ?a ?l ?c ?k (fun _ _ _ _ _ _ us hl=>match us,hl with|[_],_=>rfl)
   (case a=>k_is);(case l=>k_is);(case c=>k_is);(case k=>k_is)
  have D_tightened:L2.Dfn (L2.KOf KX) mg "tightened" Ww.s_tightened ["measures","box"]:=by
   dsimp only[L2.KOf]
   refine' Ww.dfn_mk KX G ?a ?l ?c ?k (fun _ _ _ _ _ _ us hl=>match us,hl with|[_,_],_=>rfl)
   (case a=>k_is);(case l=>k_is);(case c=>k_is);(case k=>k_is)
  have D_after_round:L2.Dfn (L2.KOf KX) mg "after_round" Ww.s_after_round ["measures","box"]:=by
   dsimp only[L2.KOf]
   refine' Ww.dfn_mk KX G ?a ?l ?c ?k (fun _ _ _ _ _ _ us hl=>match us,hl with|[_,_],_=>rfl)
   (case a=>k_is);(case l=>k_is);(case c=>k_is);(case k=>k_is)
  have D_narrow_by_condition:L2.Dfn (L2.KOf KX) mg "narrow_by_condition" Ww.s_narrow_by_condition ["lows","highs","terms","bound"]:=by
   dsimp only[L2.KOf]
   refine' Ww.dfn_mk KX G ?a ?l ?c ?k (fun _ _ _ _ _ _ us hl=>match us,hl with|[_,_,_,_],_=>rfl)
   (case a=>k_is);(case l=>k_is);(case c=>k_is);(case k=>k_is)
  have D_narrow_by_ban:L2.Dfn (L2.KOf KX) mg "narrow_by_ban" Ww.s_narrow_by_ban ["lows","highs","e","f"]:=by
   dsimp only[L2.KOf]
   refine' Ww.dfn_mk KX G ?a ?l ?c ?k (fun _ _ _ _ _ _ us hl=>match us,hl with|[_,_,_,_],_=>rfl)
   (case a=>k_is);(case l=>k_is);(case c=>k_is);(case k=>k_is)
  have D_bound_of:L2.Dfn (L2.KOf KX) mg "bound_of" Ww.s_bound_of ["measures","box"]:=by
   dsimp only[L2.KOf]
   refine' Ww.dfn_mk KX G ?a ?l ?c ?k (fun _ _ _ _ _ _ us hl=>match us,hl with|[_,_],_=>rfl)
   (case a=>k_is);(case l=>k_is);(case c=>k_is);(case k=>k_is)
  have D_parts_of:L2.Dfn (L2.KOf KX) mg "parts_of" Ww.s_parts_of ["measures","box","edge","m"]:=by
   dsimp only[L2.KOf]
   refine' Ww.dfn_mk KX G ?a ?l ?c ?k (fun _ _ _ _ _ _ us hl=>match us,hl with|[_,_,_,_],_=>rfl)
   (case a=>k_is);(case l=>k_is);(case c=>k_is);(case k=>k_is)
  have D_held_with:L2.Dfn (L2.KOf KX) mg "held_with" Ww.s_held_with ["held","costs","facts"]:=by
   dsimp only[L2.KOf]
   refine' Ww.dfn_mk KX G ?a ?l ?c ?k (fun _ _ _ _ _ _ us hl=>match us,hl with|[_,_,_],_=>rfl)
   (case a=>k_is);(case l=>k_is);(case c=>k_is);(case k=>k_is)
  have D_all_between:L2.Dfn (L2.KOf KX) mg "all_between" Ww.s_all_between ["numbers","least","greatest"]:=by
   dsimp only[L2.KOf]
   refine' Ww.dfn_mk KX G ?a ?l ?c ?k (fun _ _ _ _ _ _ us hl=>match us,hl with|[_,_,_],_=>rfl)
   (case a=>k_is);(case l=>k_is);(case c=>k_is);(case k=>k_is)
  have D_is_place:L2.Dfn (L2.KOf KX) mg "is_place" Ww.s_is_place ["number","things"]:=by
   dsimp only[L2.KOf]
   refine' Ww.dfn_mk KX G ?a ?l ?c ?k (fun _ _ _ _ _ _ us hl=>match us,hl with|[_,_],_=>rfl)
   (case a=>k_is);(case l=>k_is);(case c=>k_is);(case k=>k_is)
  have D_is_edge:L2.Dfn (L2.KOf KX) mg "is_edge" Ww.s_is_edge ["held","edge"]:=by
   dsimp only[L2.KOf]
   refine' Ww.dfn_mk KX G ?a ?l ?c ?k (fun _ _ _ _ _ _ us hl=>match us,hl with|[_,_],_=>rfl)
   (case a=>k_is);(case l=>k_is);(case c=>k_is);(case k=>k_is)
  have D_is_cost:L2.Dfn (L2.KOf KX) mg "is_cost" Ww.s_is_cost ["number"]:=by
   dsimp only[L2.KOf]
   refine' Ww.dfn_mk KX G ?a ?l ?c ?k (fun _ _ _ _ _ _ us hl=>match us,hl with|[_],_=>rfl)
   (case a=>k_is);(case l=>k_is);(case c=>k_is);(case k=>k_is)
  have D_is_most:L2.Dfn (L2.KOf KX) mg "is_most" Ww.s_is_most ["number"]:=by
   dsimp only[L2.KOf]
   refine' Ww.dfn_mk KX G ?a ?l ?c ?k (fun _ _ _ _ _ _ us hl=>match us,hl with|[_],_=>rfl)
   (case a=>k_is);(case l=>k_is);(case c=>k_is);(case k=>k_is)
  have D_is_graph_row:L2.Dfn (L2.KOf KX) mg "is_graph_row" Ww.s_is_graph_row ["row"]:=by
   dsimp only[L2.KOf]
   refine' Ww.dfn_mk KX G ?a ?l ?c ?k (fun _ _ _ _ _ _ us hl=>match us,hl with|[_],_=>rfl)
   (case a=>k_is);(case l=>k_is);(case c=>k_is);(case k=>k_is)
  have D_is_fact_row:L2.Dfn (L2.KOf KX) mg "is_fact_row" Ww.s_is_fact_row ["held","row"]:=by
   dsimp only[L2.KOf]
   refine' Ww.dfn_mk KX G ?a ?l ?c ?k (fun _ _ _ _ _ _ us hl=>match us,hl with|[_,_],_=>rfl)
   (case a=>k_is);(case l=>k_is);(case c=>k_is);(case k=>k_is)
  have D_is_counts_row:L2.Dfn (L2.KOf KX) mg "is_counts_row" Ww.s_is_counts_row ["held","row"]:=by
   dsimp only[L2.KOf]
   refine' Ww.dfn_mk KX G ?a ?l ?c ?k (fun _ _ _ _ _ _ us hl=>match us,hl with|[_,_],_=>rfl)
   (case a=>k_is);(case l=>k_is);(case c=>k_is);(case k=>k_is)
  have D_conditions:L2.Dfn (L2.KOf KX) mg "conditions" Ww.s_conditions ["held"]:=by
   dsimp only[L2.KOf]
   refine' Ww.dfn_mk KX G ?a ?l ?c ?k (fun _ _ _ _ _ _ us hl=>match us,hl with|[_],_=>rfl)
   (case a=>k_is);(case l=>k_is);(case c=>k_is);(case k=>k_is)
  have D_terms_of:L2.Dfn (L2.KOf KX) mg "terms_of" Ww.s_terms_of ["multiples"]:=by
   dsimp only[L2.KOf]
   refine' Ww.dfn_mk KX G ?a ?l ?c ?k (fun _ _ _ _ _ _ us hl=>match us,hl with|[_],_=>rfl)
   (case a=>k_is);(case l=>k_is);(case c=>k_is);(case k=>k_is)
  have D_node_multiples:L2.Dfn (L2.KOf KX) mg "node_multiples" Ww.s_node_multiples ["held","node"]:=by
   dsimp only[L2.KOf]
   refine' Ww.dfn_mk KX G ?a ?l ?c ?k (fun _ _ _ _ _ _ us hl=>match us,hl with|[_,_],_=>rfl)
   (case a=>k_is);(case l=>k_is);(case c=>k_is);(case k=>k_is)
  have D_node_bound:L2.Dfn (L2.KOf KX) mg "node_bound" Ww.s_node_bound ["held","node"]:=by
   dsimp only[L2.KOf]
   refine' Ww.dfn_mk KX G ?a ?l ?c ?k (fun _ _ _ _ _ _ us hl=>match us,hl with|[_,_],_=>rfl)
   (case a=>k_is);(case l=>k_is);(case c=>k_is);(case k=>k_is)
  have D_potentials:L2.Dfn (L2.KOf KX) mg "potentials" Ww.s_potentials ["held"]:=by
   dsimp only[L2.KOf]
   refine' Ww.dfn_mk KX G ?a ?l ?c ?k (fun _ _ _ _ _ _ us hl=>match us,hl with|[_],_=>rfl)
   (case a=>k_is);(case l=>k_is);(case c=>k_is);(case k=>k_is)
  have D_upward_edges:L2.Dfn (L2.KOf KX) mg "upward_edges" Ww.s_upward_edges ["held","node"]:=by
   dsimp only[L2.KOf]
   refine' Ww.dfn_mk KX G ?a ?l ?c ?k (fun _ _ _ _ _ _ us hl=>match us,hl with|[_,_],_=>rfl)
   (case a=>k_is);(case l=>k_is);(case c=>k_is);(case k=>k_is)
  have D_surpluses:L2.Dfn (L2.KOf KX) mg "surpluses" Ww.s_surpluses ["held","heights"]:=by
   dsimp only[L2.KOf]
   refine' Ww.dfn_mk KX G ?a ?l ?c ?k (fun _ _ _ _ _ _ us hl=>match us,hl with|[_,_],_=>rfl)
   (case a=>k_is);(case l=>k_is);(case c=>k_is);(case k=>k_is)
  have D_way:L2.Dfn (L2.KOf KX) mg "way" Ww.s_way ["held","edges"]:=by
   dsimp only[L2.KOf]
   refine' Ww.dfn_mk KX G ?a ?l ?c ?k (fun _ _ _ _ _ _ us hl=>match us,hl with|[_,_],_=>rfl)
   (case a=>k_is);(case l=>k_is);(case c=>k_is);(case k=>k_is)
  have D_fits:L2.Dfn (L2.KOf KX) mg "fits" Ww.s_fits ["held","counts"]:=by
   dsimp only[L2.KOf]
   refine' Ww.dfn_mk KX G ?a ?l ?c ?k (fun _ _ _ _ _ _ us hl=>match us,hl with|[_,_],_=>rfl)
   (case a=>k_is);(case l=>k_is);(case c=>k_is);(case k=>k_is)
  have D_told:L2.Dfn (L2.KOf KX) mg "told" Ww.s_told ["held","counts"]:=by
   dsimp only[L2.KOf]
   refine' Ww.dfn_mk KX G ?a ?l ?c ?k (fun _ _ _ _ _ _ us hl=>match us,hl with|[_,_],_=>rfl)
   (case a=>k_is);(case l=>k_is);(case c=>k_is);(case k=>k_is)
  have D_is_way:L2.Dfn (L2.KOf KX) mg "is_way" Ww.s_is_way ["held","edges"]:=by
   dsimp only[L2.KOf]
   refine' Ww.dfn_mk KX G ?a ?l ?c ?k (fun _ _ _ _ _ _ us hl=>match us,hl with|[_,_],_=>rfl)
   (case a=>k_is);(case l=>k_is);(case c=>k_is);(case k=>k_is)
  have D_counts_of:L2.Dfn (L2.KOf KX) mg "counts_of" Ww.s_counts_of ["held","edges"]:=by
   dsimp only[L2.KOf]
   refine' Ww.dfn_mk KX G ?a ?l ?c ?k (fun _ _ _ _ _ _ us hl=>match us,hl with|[_,_],_=>rfl)
   (case a=>k_is);(case l=>k_is);(case c=>k_is);(case k=>k_is)
  have D_product_sum:L2.Dfn (L2.KOf KX) mg "product_sum" Ww.s_product_sum ["multiples","counts"]:=by
   dsimp only[L2.KOf]
   refine' Ww.dfn_mk KX G ?a ?l ?c ?k (fun _ _ _ _ _ _ us hl=>match us,hl with|[_,_],_=>rfl)
   (case a=>k_is);(case l=>k_is);(case c=>k_is);(case k=>k_is)
  have D_edges_above_most:L2.Dfn (L2.KOf KX) mg "edges_above_most" Ww.s_edges_above_most ["held","counts"]:=by
   dsimp only[L2.KOf]
   refine' Ww.dfn_mk KX G ?a ?l ?c ?k (fun _ _ _ _ _ _ us hl=>match us,hl with|[_,_],_=>rfl)
   (case a=>k_is);(case l=>k_is);(case c=>k_is);(case k=>k_is)
  have D_facts_not_kept:L2.Dfn (L2.KOf KX) mg "facts_not_kept" Ww.s_facts_not_kept ["held","counts"]:=by
   dsimp only[L2.KOf]
   refine' Ww.dfn_mk KX G ?a ?l ?c ?k (fun _ _ _ _ _ _ us hl=>match us,hl with|[_,_],_=>rfl)
   (case a=>k_is);(case l=>k_is);(case c=>k_is);(case k=>k_is)
  have D_bans_not_kept:L2.Dfn (L2.KOf KX) mg "bans_not_kept" Ww.s_bans_not_kept ["held","counts"]:=by
   dsimp only[L2.KOf]
   refine' Ww.dfn_mk KX G ?a ?l ?c ?k (fun _ _ _ _ _ _ us hl=>match us,hl with|[_,_],_=>rfl)
   (case a=>k_is);(case l=>k_is);(case c=>k_is);(case k=>k_is)
  have D_is_let:L2.Dfn (L2.KOf KX) mg "is_let" Ww.s_is_let ["held","counts"]:=by
   dsimp only[L2.KOf]
   refine' Ww.dfn_mk KX G ?a ?l ?c ?k (fun _ _ _ _ _ _ us hl=>match us,hl with|[_,_],_=>rfl)
   (case a=>k_is);(case l=>k_is);(case c=>k_is);(case k=>k_is)
  have D_fit_and_let:L2.Dfn (L2.KOf KX) mg "fit_and_let" Ww.s_fit_and_let ["held","counts"]:=by
   dsimp only[L2.KOf]
   refine' Ww.dfn_mk KX G ?a ?l ?c ?k (fun _ _ _ _ _ _ us hl=>match us,hl with|[_,_],_=>rfl)
   (case a=>k_is);(case l=>k_is);(case c=>k_is);(case k=>k_is)
  have D_counts_fit:L2.Dfn (L2.KOf KX) mg "counts_fit" Ww.s_counts_fit ["held","start","counts"]:=by
   dsimp only[L2.KOf]
   refine' Ww.dfn_mk KX G ?a ?l ?c ?k (fun _ _ _ _ _ _ us hl=>match us,hl with|[_,_,_],_=>rfl)
   (case a=>k_is);(case l=>k_is);(case c=>k_is);(case k=>k_is)
  have D_is_balanced:L2.Dfn (L2.KOf KX) mg "is_balanced" Ww.s_is_balanced ["held","start","counts"]:=by
   dsimp only[L2.KOf]
   refine' Ww.dfn_mk KX G ?a ?l ?c ?k (fun _ _ _ _ _ _ us hl=>match us,hl with|[_,_,_],_=>rfl)
   (case a=>k_is);(case l=>k_is);(case c=>k_is);(case k=>k_is)
  have D_all_reached:L2.Dfn (L2.KOf KX) mg "all_reached" Ww.s_all_reached ["held","start","counts"]:=by
   dsimp only[L2.KOf]
   refine' Ww.dfn_mk KX G ?a ?l ?c ?k (fun _ _ _ _ _ _ us hl=>match us,hl with|[_,_,_],_=>rfl)
   (case a=>k_is);(case l=>k_is);(case c=>k_is);(case k=>k_is)
  have D_reached_nodes:L2.Dfn (L2.KOf KX) mg "reached_nodes" Ww.s_reached_nodes ["held","start","counts"]:=by
   dsimp only[L2.KOf]
   refine' Ww.dfn_mk KX G ?a ?l ?c ?k (fun _ _ _ _ _ _ us hl=>match us,hl with|[_,_,_],_=>rfl)
   (case a=>k_is);(case l=>k_is);(case c=>k_is);(case k=>k_is)
  have D_told_way:L2.Dfn (L2.KOf KX) mg "told_way" Ww.s_told_way ["held","counts"]:=by
   dsimp only[L2.KOf]
   refine' Ww.dfn_mk KX G ?a ?l ?c ?k (fun _ _ _ _ _ _ us hl=>match us,hl with|[_,_],_=>rfl)
   (case a=>k_is);(case l=>k_is);(case c=>k_is);(case k=>k_is)
  have D_first_edge:L2.Dfn (L2.KOf KX) mg "first_edge" Ww.s_first_edge ["held","node","left"]:=by
   dsimp only[L2.KOf]
   refine' Ww.dfn_mk KX G ?a ?l ?c ?k (fun _ _ _ _ _ _ us hl=>match us,hl with|[_,_,_],_=>rfl)
   (case a=>k_is);(case l=>k_is);(case c=>k_is);(case k=>k_is)
  have D_may_stand:L2.Dfn (L2.KOf KX) mg "may_stand" Ww.s_may_stand ["held","node","left","edge"]:=by
   dsimp only[L2.KOf]
   refine' Ww.dfn_mk KX G ?a ?l ?c ?k (fun _ _ _ _ _ _ us hl=>match us,hl with|[_,_,_,_],_=>rfl)
   (case a=>k_is);(case l=>k_is);(case c=>k_is);(case k=>k_is)
  have D_search:L2.Dfn (L2.KOf KX) mg "search" Ww.s_search ["held"]:=by
   dsimp only[L2.KOf]
   refine' Ww.dfn_mk KX G ?a ?l ?c ?k (fun _ _ _ _ _ _ us hl=>match us,hl with|[_],_=>rfl)
   (case a=>k_is);(case l=>k_is);(case c=>k_is);(case k=>k_is)
  have D_step_of:L2.Dfn (L2.KOf KX) mg "step_of" Ww.s_step_of ["held","measures","outcome","box"]:=by
   dsimp only[L2.KOf]
   refine' Ww.dfn_mk KX G ?a ?l ?c ?k (fun _ _ _ _ _ _ us hl=>match us,hl with|[_,_,_,_],_=>rfl)
   (case a=>k_is);(case l=>k_is);(case c=>k_is);(case k=>k_is)
  have D_settled:L2.Dfn (L2.KOf KX) mg "settled" Ww.s_settled ["held","outcome","counts"]:=by
   dsimp only[L2.KOf]
   refine' Ww.dfn_mk KX G ?a ?l ?c ?k (fun _ _ _ _ _ _ us hl=>match us,hl with|[_,_,_],_=>rfl)
   (case a=>k_is);(case l=>k_is);(case c=>k_is);(case k=>k_is)
  have D_widest_edge:L2.Dfn (L2.KOf KX) mg "widest_edge" Ww.s_widest_edge ["box"]:=by
   dsimp only[L2.KOf]
   refine' Ww.dfn_mk KX G ?a ?l ?c ?k (fun _ _ _ _ _ _ us hl=>match us,hl with|[_],_=>rfl)
   (case a=>k_is);(case l=>k_is);(case c=>k_is);(case k=>k_is)
  have D_proves:L2.Dfn (L2.KOf KX) mg "proves" Ww.s_proves ["held","b","proof"]:=by
   dsimp only[L2.KOf]
   refine' Ww.dfn_mk KX G ?a ?l ?c ?k (fun _ _ _ _ _ _ us hl=>match us,hl with|[_,_,_],_=>rfl)
   (case a=>k_is);(case l=>k_is);(case c=>k_is);(case k=>k_is)
  have D_may_be_parted:L2.Dfn (L2.KOf KX) mg "may_be_parted" Ww.s_may_be_parted ["held","box","step"]:=by
   dsimp only[L2.KOf]
   refine' Ww.dfn_mk KX G ?a ?l ?c ?k (fun _ _ _ _ _ _ us hl=>match us,hl with|[_,_,_],_=>rfl)
   (case a=>k_is);(case l=>k_is);(case c=>k_is);(case k=>k_is)
  have D_may_be_left:L2.Dfn (L2.KOf KX) mg "may_be_left" Ww.s_may_be_left ["held","measures","box","number","b"]:=by
   dsimp only[L2.KOf]
   refine' Ww.dfn_mk KX G ?a ?l ?c ?k (fun _ _ _ _ _ _ us hl=>match us,hl with|[_,_,_,_,_],_=>rfl)
   (case a=>k_is);(case l=>k_is);(case c=>k_is);(case k=>k_is)
  have D_box:L2.Dfn (L2.KOf KX) mg "box" Ww.s_box ["held"]:=by
   dsimp only[L2.KOf]
   refine' Ww.dfn_mk KX G ?a ?l ?c ?k (fun _ _ _ _ _ _ us hl=>match us,hl with|[_],_=>rfl)
   (case a=>k_is);(case l=>k_is);(case c=>k_is);(case k=>k_is)
  have D_bound:L2.Dfn (L2.KOf KX) mg "bound" Ww.s_bound ["held"]:=by
   dsimp only[L2.KOf]
   refine' Ww.dfn_mk KX G ?a ?l ?c ?k (fun _ _ _ _ _ _ us hl=>match us,hl with|[_],_=>rfl)
   (case a=>k_is);(case l=>k_is);(case c=>k_is);(case k=>k_is)
  have D_worst:L2.Dfn (L2.KOf KX) mg "worst" Ww.s_worst ["held"]:=by
   dsimp only[L2.KOf]
   refine' Ww.dfn_mk KX G ?a ?l ?c ?k (fun _ _ _ _ _ _ us hl=>match us,hl with|[_],_=>rfl)
   (case a=>k_is);(case l=>k_is);(case c=>k_is);(case k=>k_is)
  have D_gone:L2.Dfn (L2.KOf KX) mg "gone" Ww.s_gone ["held"]:=by
   dsimp only[L2.KOf]
   refine' Ww.dfn_mk KX G ?a ?l ?c ?k (fun _ _ _ _ _ _ us hl=>match us,hl with|[_],_=>rfl)
   (case a=>k_is);(case l=>k_is);(case c=>k_is);(case k=>k_is)
  have D_least:L2.Dfn (L2.KOf KX) mg "least" Ww.s_least ["held"]:=by
   dsimp only[L2.KOf]
   refine' Ww.dfn_mk KX G ?a ?l ?c ?k (fun _ _ _ _ _ _ us hl=>match us,hl with|[_],_=>rfl)
   (case a=>k_is);(case l=>k_is);(case c=>k_is);(case k=>k_is)
  have D_most:L2.Dfn (L2.KOf KX) mg "most" Ww.s_most ["held","e"]:=by
   dsimp only[L2.KOf]
   refine' Ww.dfn_mk KX G ?a ?l ?c ?k (fun _ _ _ _ _ _ us hl=>match us,hl with|[_,_],_=>rfl)
   (case a=>k_is);(case l=>k_is);(case c=>k_is);(case k=>k_is)
  have D_without:L2.Dfn (L2.KOf KX) mg "without" Ww.s_without ["held","k"]:=by
   dsimp only[L2.KOf]
   refine' Ww.dfn_mk KX G ?a ?l ?c ?k (fun _ _ _ _ _ _ us hl=>match us,hl with|[_,_],_=>rfl)
   (case a=>k_is);(case l=>k_is);(case c=>k_is);(case k=>k_is)
  have D_proof:L2.Dfn (L2.KOf KX) mg "proof" Ww.s_proof ["held"]:=by
   dsimp only[L2.KOf]
   refine' Ww.dfn_mk KX G ?a ?l ?c ?k (fun _ _ _ _ _ _ us hl=>match us,hl with|[_],_=>rfl)
   (case a=>k_is);(case l=>k_is);(case c=>k_is);(case k=>k_is)
  have D_ended:L2.Dfn (L2.KOf KX) mg "ended" Ww.s_ended ["outcome","if_found","if_none"]:=by
   dsimp only[L2.KOf]
   refine' Ww.dfn_mk KX G ?a ?l ?c ?k (fun _ _ _ _ _ _ us hl=>match us,hl with|[_,_,_],_=>rfl)
   (case a=>k_is);(case l=>k_is);(case c=>k_is);(case k=>k_is)
  have D_check:L2.Dfn (L2.KOf KX) mg "check" Ww.s_check ["held","b","numbers"]:=by
   dsimp only[L2.KOf]
   refine' Ww.dfn_mk KX G ?a ?l ?c ?k (fun _ _ _ _ _ _ us hl=>match us,hl with|[_,_,_],_=>rfl)
   (case a=>k_is);(case l=>k_is);(case c=>k_is);(case k=>k_is)
  have D_size:L2.Dfn (L2.KOf KX) mg "size" Ww.s_size ["held"]:=by
   dsimp only[L2.KOf]
   refine' Ww.dfn_mk KX G ?a ?l ?c ?k (fun _ _ _ _ _ _ us hl=>match us,hl with|[_],_=>rfl)
   (case a=>k_is);(case l=>k_is);(case c=>k_is);(case k=>k_is)
  have D_graph:L2.Dfn (L2.KOf KX) mg "graph" Ww.s_graph ["held","row"]:=by
   dsimp only[L2.KOf]
   refine' Ww.dfn_mk KX G ?a ?l ?c ?k (fun _ _ _ _ _ _ us hl=>match us,hl with|[_,_],_=>rfl)
   (case a=>k_is);(case l=>k_is);(case c=>k_is);(case k=>k_is)
  have D_fact:L2.Dfn (L2.KOf KX) mg "fact" Ww.s_fact ["held","row"]:=by
   dsimp only[L2.KOf]
   refine' Ww.dfn_mk KX G ?a ?l ?c ?k (fun _ _ _ _ _ _ us hl=>match us,hl with|[_,_],_=>rfl)
   (case a=>k_is);(case l=>k_is);(case c=>k_is);(case k=>k_is)
  have D_ban:L2.Dfn (L2.KOf KX) mg "ban" Ww.s_ban ["held","e","f"]:=by
   dsimp only[L2.KOf]
   refine' Ww.dfn_mk KX G ?a ?l ?c ?k (fun _ _ _ _ _ _ us hl=>match us,hl with|[_,_,_],_=>rfl)
   (case a=>k_is);(case l=>k_is);(case c=>k_is);(case k=>k_is)
  have D_unfact:L2.Dfn (L2.KOf KX) mg "unfact" Ww.s_unfact ["held","k"]:=by
   dsimp only[L2.KOf]
   refine' Ww.dfn_mk KX G ?a ?l ?c ?k (fun _ _ _ _ _ _ us hl=>match us,hl with|[_,_],_=>rfl)
   (case a=>k_is);(case l=>k_is);(case c=>k_is);(case k=>k_is)
  have D_unban:L2.Dfn (L2.KOf KX) mg "unban" Ww.s_unban ["held","k"]:=by
   dsimp only[L2.KOf]
   refine' Ww.dfn_mk KX G ?a ?l ?c ?k (fun _ _ _ _ _ _ us hl=>match us,hl with|[_,_],_=>rfl)
   (case a=>k_is);(case l=>k_is);(case c=>k_is);(case k=>k_is)
  have D_take_out:L2.Dfn (L2.KOf KX) mg "take_out" Ww.s_take_out ["things","k"]:=by
   dsimp only[L2.KOf]
   refine' Ww.dfn_mk KX G ?a ?l ?c ?k (fun _ _ _ _ _ _ us hl=>match us,hl with|[_,_],_=>rfl)
   (case a=>k_is);(case l=>k_is);(case c=>k_is);(case k=>k_is)
  have D_recost:L2.Dfn (L2.KOf KX) mg "recost" Ww.s_recost ["held","e","c"]:=by
   dsimp only[L2.KOf]
   refine' Ww.dfn_mk KX G ?a ?l ?c ?k (fun _ _ _ _ _ _ us hl=>match us,hl with|[_,_,_],_=>rfl)
   (case a=>k_is);(case l=>k_is);(case c=>k_is);(case k=>k_is)
  have D_remost:L2.Dfn (L2.KOf KX) mg "remost" Ww.s_remost ["held","e","m"]:=by
   dsimp only[L2.KOf]
   refine' Ww.dfn_mk KX G ?a ?l ?c ?k (fun _ _ _ _ _ _ us hl=>match us,hl with|[_,_,_],_=>rfl)
   (case a=>k_is);(case l=>k_is);(case c=>k_is);(case k=>k_is)
  have D_answers:L2.Dfn (L2.KOf KX) mg "answers" Ww.s_answers ["calls"]:=by
   dsimp only[L2.KOf]
   refine' Ww.dfn_mk KX G ?a ?l ?c ?k (fun _ _ _ _ _ _ us hl=>match us,hl with|[_],_=>rfl)
   (case a=>k_is);(case l=>k_is);(case c=>k_is);(case k=>k_is)
  have D_answer_of:L2.Dfn (L2.KOf KX) mg "answer_of" Ww.s_answer_of ["held","call","numbers","row"]:=by
   dsimp only[L2.KOf]
   refine' Ww.dfn_mk KX G ?a ?l ?c ?k (fun _ _ _ _ _ _ us hl=>match us,hl with|[_,_,_,_],_=>rfl)
   (case a=>k_is);(case l=>k_is);(case c=>k_is);(case k=>k_is)
  have D_row_answer:L2.Dfn (L2.KOf KX) mg "row_answer" Ww.s_row_answer ["held","call","row"]:=by
   dsimp only[L2.KOf]
   refine' Ww.dfn_mk KX G ?a ?l ?c ?k (fun _ _ _ _ _ _ us hl=>match us,hl with|[_,_,_],_=>rfl)
   (case a=>k_is);(case l=>k_is);(case c=>k_is);(case k=>k_is)
  have D_pair_answer:L2.Dfn (L2.KOf KX) mg "pair_answer" Ww.s_pair_answer ["held","call","first","second"]:=by
   dsimp only[L2.KOf]
   refine' Ww.dfn_mk KX G ?a ?l ?c ?k (fun _ _ _ _ _ _ us hl=>match us,hl with|[_,_,_,_],_=>rfl)
   (case a=>k_is);(case l=>k_is);(case c=>k_is);(case k=>k_is)
  have D_number_answer:L2.Dfn (L2.KOf KX) mg "number_answer" Ww.s_number_answer ["held","call","number"]:=by
   dsimp only[L2.KOf]
   refine' Ww.dfn_mk KX G ?a ?l ?c ?k (fun _ _ _ _ _ _ us hl=>match us,hl with|[_,_,_],_=>rfl)
   (case a=>k_is);(case l=>k_is);(case c=>k_is);(case k=>k_is)
  have D_bare_answer:L2.Dfn (L2.KOf KX) mg "bare_answer" Ww.s_bare_answer ["held","call"]:=by
   dsimp only[L2.KOf]
   refine' Ww.dfn_mk KX G ?a ?l ?c ?k (fun _ _ _ _ _ _ us hl=>match us,hl with|[_,_],_=>rfl)
   (case a=>k_is);(case l=>k_is);(case c=>k_is);(case k=>k_is)
  obtain⟨C,fH,fdH,mH,cH,MH,FH,bH⟩:∃ (C f:Addr) (fd:FuncData),mg "Held"=some (.ref C)∧Ww.Cl (L2.KOf KX) C∧L2.Mk (L2.KOf KX) C f∧L2.Fun (L2.KOf KX) "__init__" "Held.__init__" Ww.s_init f fd∧L2.Binds (L2.KOf KX) fd ["self"] []:=by
   dsimp only[L2.KOf]
   refine' Ww.held_mk KX G ?a ?i ?ff ?l ?cc ?k ?pg ?hd ?po ?sa ?mk ?kc ?n0 ?n1 ?n2 ?n3 ?n4 ?n5 ?n6
   (case a=>k_is);(case i=>k_is);(case ff=>k_is);(case l=>k_is);(case cc=>k_is);(case k=>k_is);(case pg=>k_is);(case hd=>k_is);(case po=>k_is);(case sa=>k_is);(case mk=>k_is);(case kc=>k_is);(case n0=>k_is);(case n1=>k_is);(case n2=>k_is);(case n3=>k_is);(case n4=>k_is);(case n5=>k_is);(case n6=>k_is)
  obtain⟨CM,fM,fdM,mM,cM,MM,FM,bM⟩:∃ (C f:Addr) (fd:FuncData),mg "Measures"=some (.ref C)∧Ww.ClM (L2.KOf KX) C∧L2.Mk (L2.KOf KX) C f∧L2.Fun (L2.KOf KX) "__init__" "Measures.__init__" Ww.s_init_Measures f fd∧L2.Binds (L2.KOf KX) fd ["self","held"] []:=by
   dsimp only[L2.KOf]
   refine' Ww.measures_mk KX G ?a ?i ?ff ?l ?cc ?k ?pg ?hd ?po ?sa ?mk ?kc ?n0 ?n1 ?n2 ?n3
   (case a=>k_is);(case i=>k_is);(case ff=>k_is);(case l=>k_is);(case cc=>k_is);(case k=>k_is);(case pg=>k_is);(case hd=>k_is);(case po=>k_is);(case sa=>k_is);(case mk=>k_is);(case kc=>k_is);(case n0=>k_is);(case n1=>k_is);(case n2=>k_is);(case n3=>k_is)
  obtain⟨CO,fO,fdO,mO,cO,MO,FO,bO⟩:∃ (C f:Addr) (fd:FuncData),mg "Outcome"=some (.ref C)∧Ww.ClO (L2.KOf KX) C∧L2.Mk (L2.KOf KX) C f∧L2.Fun (L2.KOf KX) "__init__" "Outcome.__init__" Ww.s_init_Outcome f fd∧L2.Binds (L2.KOf KX) fd ["self"] []:=by
   dsimp only[L2.KOf]
   refine' Ww.outcome_mk KX G ?a ?i ?ff ?l ?cc ?k ?pg ?hd ?po ?sa ?mk ?kc ?n0 ?n1 ?n2 ?n3 ?n4
   (case a=>k_is);(case i=>k_is);(case ff=>k_is);(case l=>k_is);(case cc=>k_is);(case k=>k_is);(case pg=>k_is);(case hd=>k_is);(case po=>k_is);(case sa=>k_is);(case mk=>k_is);(case kc=>k_is);(case n0=>k_is);(case n1=>k_is);(case n2=>k_is);(case n3=>k_is);(case n4=>k_is)
  dsimp only[L2.KOf] at *
  refine' Ww.last_mk KX G hmg ?a ?l ?c ?k ?all
  (case a=>k_is);(case l=>k_is);(case c=>k_is);(case k=>k_is)
  case all=>exact fun base fd F=>Ww.all_ok T cH cM cO mH MH FH bH mM MM FM bM mO MO FO bO D_whole_box D_is_empty D_has_one_count_each D_tightened D_after_round D_narrow_by_condition D_narrow_by_ban D_bound_of D_parts_of D_held_with D_all_between D_is_place D_is_edge D_is_cost D_is_most D_is_graph_row D_is_fact_row D_is_counts_row D_conditions D_terms_of D_node_multiples D_node_bound D_potentials D_upward_edges D_surpluses D_way D_fits D_told D_is_way D_counts_of D_product_sum D_edges_above_most D_facts_not_kept D_bans_not_kept D_is_let D_fit_and_let D_counts_fit D_is_balanced D_all_reached D_reached_nodes D_told_way D_first_edge D_may_stand D_search D_step_of D_settled D_widest_edge D_proves D_may_be_parted D_may_be_left D_box D_bound D_worst D_gone D_least D_most D_without D_proof D_ended D_check D_size D_graph D_fact D_ban D_unfact D_unban D_take_out D_recost D_remost D_answer_of D_row_answer D_pair_answer D_number_answer D_bare_answer F
 case S =>
  intro K H xs a hO hwi hask hx
  cases hx with
  | cons h1 h2 =>
   cases h2
   cases h1 with
   | lst hs ha =>
    have e:=L2.ints_dw a.1 _ ha
    subst e
    have q:((Codec.inLen 0 16000 a.1&&a.1.all (Codec.inInt (-1000000000000000000) 1000000000000000000))&&true)=true:=hwi
    rw[Bool.and_eq_true,Bool.and_eq_true] at q
    exact Ww.sp_of_asked hs (Codec.inNat_iff.mp q.1.1).2 hask fun H' p hp=>.lst (L2.SqL.of hp) (L2.dw_ints _)
end
