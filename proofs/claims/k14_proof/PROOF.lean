import PyProof.Rows.All
import KE.KItem
import KE.KTryMore
import KE.RegKIsAll
import KE.KNest
import KE.KFromBytes
import OpenK.ZGo
import KE.IntBitsLaws
import Wide.FinOn
import PySem.Challenge.RW_lightmark_k14_whole_any_rows
set_option Elab.async false
set_option linter.all false
noncomputable section
namespace PySem.W.Fast
def tw16779751358346328224:=0
def tw4286307979058710598:=0
def tw12336235988925906092:=0
def tw7352545021209717652:=0
def tw6790084365692858628:=0
def tw2471412219553424952:=0
def tw6255003155451885489:=0
def tw6429551326893740903:=0
def tw1762266148703937150:=0
def tw14977948901109772027:=0
def tw12365460566221287948:=0
def tw10860601472613158526:=0
def tw7825403632002971469:=0
def tw2108106887340056709:=0
def tw9038644569629140090:=0
def tw12989656146263290495:=0
def tw2705969238992250539:=0
def tw883258567823691897:=0
def tw430618983678773866:=0
def tw14896592896633195966:=0
def tw3079362458102534974:=0
def tw8085332030637273050:=0
def tw6439814435033624408:=0
def tw12604426605009227740:=0
def tw18040113218903432077:=0
def tw13501269926039618208:=0
def tw7770683583531392765:=0
def tw5794153914885167341:=0
def tw17818897435891831114:=0
def tw5977151496528138642:=0
def tw1083668177047747190:=0
def tw15109241881300427689:=0
def tw7084539383520230775:=0
def tw10594648534750938504:=0
def tw15505875559800239675:=0
def tw14560317456300749993:=0
def tw14688893876173527289:=0
def tw6913055771895174075:=0
def tw17659857489513364294:=0
def tw11708513789176529204:=0
def tw10717737558054352807:=0
def tw2798449872938544234:=0
def tw3624305625081206405:=0
def tw10772462566594982662:=0
def tw11248482054395597349:=0
def tw13627020123662759892:=0
def tw9388852080363792767:=0
def tw8442429222685905143:=0
def tw15787186978395376138:=0
def tw15274668762261846261:=0
def tw17643396893136328030:=0
def tw6746206207917463225:=0
def tw18433701250653391796:=0
def tw7726092506387874557:=0
def tw12221531668531393560:=0
def tw13196606058860336033:=0
def tw8877129288712901983:=0
def tw3782577730050792441:=0
def tw505756659751005530:=0
def tw2268468918850167719:=0
def tw4394226415068987610:=0
def tw15965116256766425398:=0
def tw3564035702726879375:=0
def tw1010105254573522606:=0
def tw8421774200291101373:=0
def tw3398188088018669766:=0
def tw8282671771515065536:=0
def tw18429455104249069001:=0
def tw2519103792063004982:=0
def tw7567915867463418616:=0
def tw10617562118923306966:=0
def tw1833840224954959430:=0
def tw8522950906592400079:=0
def tw3453250569265135179:=0
def tw12272701420060481326:=0
def tw17102567747145783346:=0
def tw14410274899253330519:=0
def tw4506832690545468396:=0
def tw2355012029868817231:=0
def tw8750333660269779288:=0
def tw1333509878641827365:=0
def tw9527148964230115552:=0
def tw15570947437786184955:=0
def tw16038472015382743809:=0
def tw6725216550601702267:=0
def tw13698705003287719872:=0
def tw8281432146272305167:=0
def tw294415522242215942:=0
def tw7683335497161313292:=0
def tw16263924169591532542:=0
def tw8972895259139267143:=0
def tw919042103443110687:=0
def tw7452648457840898772:=0
def tw10614514699182899619:=0
def tw17233411155391979424:=0
def tw16501950465163956334:=0
def tw4134272711750282501:=0
def tw10645199420449719510:=0
def tw13416892562631275823:=0
def tw11390728399911810818:=0
def tw4897691203890697660:=0
def tw4521336255620020681:=0
def tw17655364003387625219:=0
def tw5053210984228366475:=0
def tw15404081974356248597:=0
def tw10246326930535206480:=0
def tw8042285051419547066:=0
def tw6713002159696935236:=0
def tw114557192214398156:=0
def tw6689254294179519473:=0
def tw17504798692230163786:=0
def tw15383288485239930456:=0
def tw5417033271713410096:=0
def tw12171798835746456195:=0
def tw13624663756511440188:=0
def tw6640538392977515112:=0
def tw9088551960220546355:=0
def tw5103271106699258260:=0
def tw15202089223104267525:=0
def tw5547194305316166520:=0
def tw13850830176149780618:=0
def tw5562489300908249048:=0
def tw987321751226051662:=0
def tw7307721713795843871:=0
def tw9408109107416911916:=0
def tw2659983473984669961:=0
def tw5840681045402065836:=0
def tw6028085298329862611:=0
def tw6213380516859604241:=0
def tw7033955794467694443:=0
def tw4737606289360694943:=0
def tw3755254332521020441:=0
def tw2996302827825168450:=0
def tw6853155890767616577:=0
def tw11231191879264146525:=0
def tw11316421785931635290:=0
def tw10655707424204366482:=0
def tw7855536617846673549:=0
def tw11665796374849621503:=0
def tw11165940680945408686:=0
def tw180241973193006453:=0
def tw17341338290006200658:=0
def tw2408713402979325031:=0
def tw8820587756283329171:=0
def tw10139991701954678145:=0
def tw2354695889507157503:=0
def tw15125698025894740291:=0
def tw10360181238023333935:=0
def tw5037311718917512519:=0
def tw12515135513452318788:=0
def tw12158589438278612997:=0
def tw9865398203431295579:=0
def tw8373396872441214063:=0
def tw4653022613204161349:=0
def tw142511361707165918:=0
def tw18325392144540556131:=0
def tw3738163918315146067:=0
def tw6844548346717599363:=0
def tw11962922088212723160:=0
def tw17199057845967440934:=0
def tw7975805027683173167:=0
def tw10251790340362371986:=0
def tw13554775752561561231:=0
def tw6194263084813509471:=0
def tw16051751158979225314:=0
def tw7944908194985339199:=0
def tw12201266000103682686:=0
def tw12342716720483145182:=0
def tw3073255194163749103:=0
def tw2990262757470939199:=0
def tw10344629491876439765:=0
def tw1451961556450781100:=0
def tw6756826567264046662:=0
def tw5490180527714109590:=0
def tw10809731131655551233:=0
def tw8279159923333327550:=0
def tw1865415613711927992:=0
def tw4475436525341464320:=0
def tw11187594737184705454:=0
def tw9596787684952487117:=0
def tw7083762832366164449:=0
def tw11983203047750374727:=0
def tw9046422793639020936:=0
def tw8190387259551943614:=0
def tw4861394727551944840:=0
def tw4149587262373776079:=0
def tw7843838554090307640:=0
def tw12111359176645455129:=0
def tw2605130088883824622:=0
def tw15310513494914982979:=0
def tw10983424861700325652:=0
def tw15114453183560575053:=0
def tw8238456970139694927:=0
def tw1600772457260589888:=0
def tw17961819288446377132:=0
def tw14988053161759730608:=0
def tw14281141253136769684:=0
def tw11737447224339151727:=0
def tw10394491718617355911:=0
def tw18382915549595638069:=0
def tw16638369130023525214:=0
def tw12814821773231554045:=0
def tw13917046678641280423:=0
def tw17207401738734633396:=0
def tw4756802447124811043:=0
def tw18332612968997194170:=0
def tw10576109183019916727:=0
def tw11738594489240125368:=0
def tw14927299720666348467:=0
def tw13937029535665014737:=0
def tw7843259519385878372:=0
def tw10859601143177049917:=0
def tw4107060020194796953:=0
def tw1132029280928320048:=0
def tw2677680051588758129:=0
def tw10854681865239383146:=0
def tw9977541256747622755:=0
def tw8757876364690556790:=0
def tw109278096374204442:=0
def tw1275926161491283362:=0
def tw16505496562008996685:=0
def tw11714839818031988518:=0
def tw9671431893343945524:=0
def tw11099578566002660844:=0
def tw17409971684414413689:=0
def tw1401350588058331521:=0
def tw7698715643533705082:=0
def tw8857764151373925519:=0
def tw7417561213809582766:=0
def tw14226583654503118378:=0
def tw10702389427726690709:=0
def tw12833461640469694848:=0
def tw16361576900375726439:=0
def tw4589662287498070129:=0
def tw5742709699566133473:=0
def tw11975348579355993677:=0
def tw1879630656598621061:=0
def tw5034492183345135110:=0
def tw6660279315364481279:=0
def tw6478100481584848708:=0
def tw16493213631373217847:=0
def tw16085807618297455025:=0
def tw3481706109361517660:=0
def tw6829414688773069875:=0
def tw2895414273595446776:=0
def tw6163610531961867541:=0
def tw15510928475117497281:=0
def tw5513725314402666554:=0
def tw15809858076263751372:=0
def tw16963518158845881769:=0
def tw814263386953980630:=0
def tw3520286243033422667:=0
def tw11818410468188455892:=0
def tw4874893310854642194:=0
def tw7387275223962998662:=0
def tw4346938826957802931:=0
def tw11887262995984130975:=0
def tw17351132162463676127:=0
def tw7218266988684867812:=0
def tw16820673242512113241:=0
def tw4164955039860688327:=0
def tw12708823522330335911:=0
def tw14313653630436681613:=0
def tw9306902593516654459:=0
def tw5983169696157093515:=0
def tw18079609072887832140:=0
def tw7441916464911397778:=0
def tw3278050839109209856:=0
def tw9002895407410226087:=0
def tw18003750754352012106:=0
def tw6606070901447138114:=0
def tw15948338545356842343:=0
def tw10702680073994054870:=0
def tw16767128178873615800:=0
def tw4533376935074096341:=0
def tw8682260904568886599:=0
def tw6652692918534539958:=0
def tw286961549391356447:=0
def tw16829738042352202318:=0
def tw14696812654250188013:=0
def tw11069787095185404651:=0
def tw14092840076052007054:=0
def tw18252897368103807571:=0
def tw3340752935932869281:=0
def tw4795675342183994694:=0
def tw6022899039557663785:=0
def tw4894132757818635907:=0
def tw14416064201103702990:=0
def tw8357554536050258226:=0
def tw9893582591461810100:=0
def tw5438586250308132521:=0
def tw17668808937332630122:=0
def tw15499265402724142205:=0
def tw4427250010511475791:=0
def tw13884232085522302375:=0
def tw9730936985901647456:=0
def tw7591768609410376508:=0
def tw4722737129045747227:=0
def tw4965484196591705898:=0
def tw4768872432745007272:=0
end PySem.W.Fast
structure Wr (p : Prop) : Prop where h : p
section
open PySem PySem.W PySem.W.X PySem.W.ZRun PyProof.Rows
def Wo (as:List Addr)(k m:Nat)(s:Shared):List (Option Obj):=List.map s.heap.get? (List.take m (List.drop k as))
def Wv (K:Params->Frag)(k m:Nat)(w:World):List (Option Obj):=List.map (fun p=>some p.2) (List.take m (List.drop k (K w.params)))
theorem Wj {α β γ:Type}{g:α->γ}{f:β->γ}{as:List α}{bs:List β}{k m:Nat}(h:List.map g (List.take m (List.drop k as))=List.map f (List.take m (List.drop k bs)))(r:List.map g (List.drop (k+m) as)=List.map f (List.drop (k+m) bs)):List.map g (List.drop k as)=List.map f (List.drop k bs):=by
 rw[<- List.take_append_drop m (List.drop k as),<- List.take_append_drop m (List.drop k bs),List.map_append,List.map_append,h,List.drop_drop,List.drop_drop,r]
theorem Wy {as:List Addr}{K:Params->Frag}{n t:Nat}{s:Shared}{w:World}(z:as.length<=9999)(z':(K w.params).length<=9999)(y:(((Wo as 0 120 s,Wo as 120 120 s),(Wo as 240 120 s,Wo as 360 120 s)),(((Wo as 480 120 s,Wo as 600 120 s),(Wo as 720 120 s,Wo as 840 9999 s)),(s.heap.objs.size,s.toks)))=(((Wv K 0 120 w,Wv K 120 120 w),(Wv K 240 120 w,Wv K 360 120 w)),(((Wv K 480 120 w,Wv K 600 120 w),(Wv K 720 120 w,Wv K 840 9999 w)),(n,t)))):obsZ as s=valZ K n t w:=by
 obtain⟨⟨⟨h0,h1⟩,⟨h2,h3⟩⟩,⟨⟨h4,h5⟩,⟨h6,h7⟩⟩,⟨hn,ht⟩⟩:(((_/\_)/\(_/\_))/\(((_/\_)/\(_/\_))/\(_/\_))):=by
  simpa only[Prod.mk.injEq] using y
 have l:=Wj h7 (by rw[List.drop_of_length_le (by omega),List.drop_of_length_le (by omega)];rfl)
 have e:List.map s.heap.get? (List.drop 0 as)=List.map (fun p=>some p.2) (List.drop 0 (K w.params)):=Wj h0 (Wj h1 (Wj h2 (Wj h3 (Wj h4 (Wj h5 (Wj h6 l))))))
 unfold obsZ valZ;rw[hn,ht];exact congrArg (·,n,t) e
local macro_rules
 |`(tactic|refine $f:ident $a*)=>do
  if f.getId.eraseMacroScopes != `PySem.W.holds_openX then Lean.Macro.throwUnsupported
  let t:=Lean.mkIdent `hc
  let b<-a.mapM fun x=>do
   if x.raw.getKind==``Lean.Parser.Term.namedArgument then
    let g (i:Nat):Lean.Term:=⟨x.raw[3][1][i]⟩
    let n:=x.raw[1].getId.eraseMacroScopes
    if n==`Yf then
     let a:=g 0
     return⟨x.raw.setArg 3 (<- `(term|fun s=>(((Wo $a 0 120 s,Wo $a 120 120 s),(Wo $a 240 120 s,Wo $a 360 120 s)),(((Wo $a 480 120 s,Wo $a 600 120 s),(Wo $a 720 120 s,Wo $a 840 9999 s)),(s.heap.objs.size,s.toks)))))⟩
    else if n==`Ya then
     let k:=g 0;let n:=g 1;let t:=g 2
     return⟨x.raw.setArg 3 (<- `(term|fun w=>(((Wv $k 0 120 w,Wv $k 120 120 w),(Wv $k 240 120 w,Wv $k 360 120 w)),(((Wv $k 480 120 w,Wv $k 600 120 w),(Wv $k 720 120 w,Wv $k 840 9999 w)),($n,$t)))))⟩
    else return x
   else return x
  `(tactic|(refine ($f $b*);case $t:ident=>exact Wr.h (by assumption)))
set_option maxRecDepth 100000 in
set_option maxHeartbeats 0 in
def hd14 : (R : Prop) ×' (Wr R → PySem.Challenge.rw_lightmark_k14_whole_any_rows.Holds) := by
 apply PSigma.mk
 intro r
 w_on; o_law; z_head; (case hw => w_witness2)
end
local macro_rules
 | `(tactic| omega) => `(tactic| first
  | exact Nat.le_refl _
  | exact Nat.le_add_right _ _
  | exact Nat.le_of_ble_eq_true rfl
  | (refine Nat.le_trans (by assumption) ?_; exact Nat.le_of_ble_eq_true rfl)
  | exact Nat.le_succ_of_le (by assumption)
  | (refine Int.le_trans (by assumption) ?_; exact of_decide_eq_true rfl)
  | lia
  | omega +splitNatSub)
local macro_rules
 | `(tactic| decide) => `(tactic| decide +kernel)
local macro_rules
 |`(∅)=>`(by decide)
local macro_rules
 |`(nofun)=>`(by omega)
open PySem.W (Frag findIn nsIn kitOne mg_of fnOf keepIn mg_none_of kia_one emptyDict instObj codeIn plainGet isFn lookIn hasDictIn makesIn methodObj plainGet_of plainOver takerIn specialIn takesIn mroIn handedIn kitx_list kitx_dict callWith_K excIn)
open PySem.F (plainAttrs_str slot_str_startswith type_str_startswith slot_str_join type_str_join slot_str_find type_str_find)
open PyProof.Rows (lo1 callWith_type1)
open PySem.Builtin.Int (intBits)
set_option maxRecDepth 100000
def l0:=@List.length_map
def l4:=@List.length_cons
def l5:=@Nat.le_refl
def l6:=@List.mem_cons
def l7:=@List.mem_cons_of_mem
def l8:=@List.length_append
def l9:=@List.length_drop
def l10:=@List.mem_cons_self
def l11:=@Nat.le_trans
def l12:=@Nat.zero_le
def l13:=@List.map_cons
def l14:=@List.mem_singleton
def l15:=@List.mem_of_getElem?
def l16:=@List.mem_map
def l17:=@List.map_append
def l18:=@List.drop_drop
def l19:=@List.sum_cons
def l20:=@List.mem_append
def l21:=@List.length_take
def l22:=@List.getD_eq_getElem?_getD
def l23:=@List.append_assoc
def l24:=@List.size_toArray
def l25:=@List.drop_eq_getElem_cons
def l26:=@List.map_map
def l27:=@List.length_nil
def l28:=@Nat.lt_of_lt_of_le
def l29:=@List.append_nil
def l30:=@Nat.ne_of_lt
def l31:=@List.mem_append_right
def l32:=@List.drop_of_length_le
def l33:=@Nat.succ_pos
def l34:=@List.getElem_mem
def l35:=@List.take_of_length_le
def l36:=@List.length_replicate
def l37:=@Nat.lt_irrefl
def l38:=@List.mem_range
def l39:=@Nat.min_eq_left
def l40:=@List.all_eq_true
def l41:=@List.length_range
def l42:=@List.map_congr_left
def l43:=@List.drop_zero
def l44:=@Option.map_eq_some_iff
def l45:=@Int.toNat_natCast
def l46:=@List.drop_length
def l47:=@List.mem_append_left
def l48:=@List.drop_left
def l49:=@List.eq_nil_of_length_eq_zero
def l50:=@List.map_drop
def l51:=@List.takeWhile_append_dropWhile
def l52:=@List.take_left
def l53:=@List.take_append_drop
def l54:=@Nat.min_eq_right
def l55:=@List.replicate_succ
def l56:=@List.flatten_cons
def l57:=@List.length_reverse
def l58:=@List.map_id
def l59:=@List.isPrefixOf_iff_prefix
def l60:=@List.drop_append_of_le_length
def l61:=@List.mem_of_mem_drop
def l62:=@Nat.sub_self
def l63:=@List.map_take
def l64:=@List.mem_filter
def l65:=@List.filterMap_cons
def l66:=@Nat.ne_of_gt
def l67:=@Nat.lt_succ_self
def l68:=@List.nil_append
def l69:=@Nat.zero_add
def l70:=@List.eq_nil_or_concat
def l71:=@List.cons_append
def l72:=@List.mem_of_mem_take
def l73:=@List.ext_getElem?
def l74:=@List.sum_append
def l75:=@List.nodup_cons
def l76:=@Option.isSome_iff_exists
def l77:=@List.range_succ
def l78:=@List.prefix_iff_eq_take
def l79:=@List.concat_eq_append
def l80:=@List.take_append_of_le_length
def l81:=@Option.map_some
def l82:=@List.map_replicate
def l83:=@List.singleton_append
def l84:=@List.drop_eq_nil_of_le
def sA {α:Type}{a b:α}{l:List α}{n:Nat}:(a::l).set (n+1) b=a::l.set n b:=rfl
def sB {α:Type}{a b:α}{l:List α}:(a::l).set 0 b=b::l:=rfl
namespace L2
open PySem PySem.Spec PyProof.Rows
abbrev Key:=Sum Int Str
def tm:Key->Value->Bool
 | .inl k,v=>Value.isInt k v
 | .inr x,v=>Value.isStrOf x v
def keyH (w:World):Key->Int
 | .inl k=>hashInt k
 | .inr x=>hashStr w x
theorem aS:∀{k:Key} {v:Value},tm k v=true->(∃i t,k=Sum.inl i/\v=Value.int i t) ∨ (∃x t,k=Sum.inr x/\v=Value.str x t)
 | .inl i,v,h=>by
  obtain⟨t,e⟩:=Value.isInt_shape (k:=i) (v:=v) h;exact .inl ⟨i,t,rfl,e⟩
 | .inr x,v,h=>by
  obtain⟨t,e⟩:=Value.isStrOf_shape (x:=x) (v:=v) h;exact .inr ⟨x,t,rfl,e⟩
def tq (a b:Int):decide ((Sum.inl a:Key)=Sum.inl b)=(a==b):=by
 by_cases e:a=b
 ·subst e;simp
 ·have h:¬ (Sum.inl a:Key)=Sum.inl b:=λq=>e (Sum.inl.inj q);rw[decide_eq_false h];exact(beq_eq_false_iff_ne.mpr e).symm
def tu (a b:Str):decide ((Sum.inr a:Key)=Sum.inr b)=decide (a=b):=by
 by_cases e:a=b
 ·subst e;simp
 ·have h:¬ (Sum.inr a:Key)=Sum.inr b:=λq=>e (Sum.inr.inj q);rw[decide_eq_false h,decide_eq_false e]
def tx (a:Int)(b:Str):decide ((Sum.inl a:Key)=Sum.inr b)=false:=decide_eq_false (λq=>nomatch q)
def tz (a:Str)(b:Int):decide ((Sum.inr a:Key)=Sum.inl b)=false:=decide_eq_false (λq=>nomatch q)
def jI (prog:Program)(w:World):PySem.KeyKind prog w Key where
 is:=tm
 hash:=keyH w
 inj:=λv a b ha hb=>by
  rcases aS ha with ⟨i,t,rfl,rfl⟩ |⟨x,t,rfl,rfl⟩
  ·rcases aS hb with ⟨j,u,rfl,e⟩ |⟨y,u,rfl,e⟩
   ·injection e with e1 _;rw[e1]
   ·exact nomatch e
  ·rcases aS hb with ⟨j,u,rfl,e⟩ |⟨y,u,rfl,e⟩
   ·exact nomatch e
   ·injection e with e1 _;rw[e1]
 byValue:=λk v h=>by
  rcases aS h with ⟨i,t,rfl,rfl⟩ |⟨x,t,rfl,rfl⟩ <;> rfl
 pyHash:=λhv h=>by
  rcases aS hv with ⟨i,t,rfl,rfl⟩ |⟨x,t,rfl,rfl⟩
  ·exact wpAny_pyHash_int h
  ·exact wpAny_pyHash_str h
 eqBool:=λhu hv h=>by
  rcases aS hu with ⟨i,t,rfl,rfl⟩ |⟨x,t,rfl,rfl⟩
  ·rcases aS hv with ⟨j,u,rfl,rfl⟩ |⟨y,u,rfl,rfl⟩
   ·rw[tq] at h;exact wpAny_eqBool_int h
   ·rw[tx] at h;exact SeqAt.EqAt.int_str i t y u _ _ _ _ h
  ·rcases aS hv with ⟨j,u,rfl,rfl⟩ |⟨y,u,rfl,rfl⟩
   ·rw[tz] at h;exact SeqAt.EqAt.str_int x t j u _ _ _ _ h
   ·rw[tu] at h;exact wpAny_eqBool_str h
 «strs» := λk x t v h=>by
  rcases aS h with ⟨i,u,rfl,e⟩ |⟨y,u,rfl,e⟩
  ·exact nomatch e
  ·injection e with e1 _
   subst e1;cases v <;> rfl
inductive V where
 |non |bl (b:Bool) |int (i:Int) |str (x:Str) |byt (b:Array UInt8) |flt (b:UInt64) |ref (a:Addr) |ty (n:String)
 deriving DecidableEq
def RelV:V->Value->Prop
 | .non,u=>u=Value.none
 | .bl b,u=>u=Value.bool b
 | .int i,u=>∃t,u=Value.int i t
 | .str x,u=>∃t,u=Value.str x t
 | .byt b,u=>∃t,u=Value.bytes b t
 | .flt b,u=>∃t,u=Value.float b t
 | .ref a,u=>u=Value.ref a
 | .ty n,u=>u=Value.type n
abbrev Vals:List V->List Value->Prop:=Paired RelV
def Vals.length {xs:List V}{us:List Value}(r:Vals xs us):xs.length=us.length:=Paired.length r
def Vals.get:∀{xs:List V} {us:List Value} {i:Nat} {x:V},Vals xs us->xs[i]? = some x->∃u,us[i]? = some u/\RelV x u
 |_,_,_,_, .nil,e=>by simp at e
 |_,_,0,_, .cons r _,e=>by simp at e;subst e;exact⟨_,rfl,r⟩
 |_,_,i+1,x, .cons _ t,e=>by
  obtain⟨u,h1,h2⟩:=Vals.get (i:=i) (x:=x) t (by simpa using e);exact⟨u,by simpa using h1,h2⟩
theorem Vals.append:∀{xs ys:List V} {us ws:List Value},Vals xs us->Vals ys ws->Vals (xs++ys) (us++ws)
 |_,_,_,_, .nil,s=>s
 |_,_,_,_, .cons r t,s => .cons r (Vals.append t s)
theorem Vals.take:∀{xs:List V} {us:List Value} (n:Nat),Vals xs us->Vals (xs.take n) (us.take n)
 |_,_,0,_ => .nil
 |_,_,_+1, .nil => .nil
 |_,_,n+1, .cons r t => .cons r (Vals.take n t)
theorem Vals.drop:∀{xs:List V} {us:List Value} (n:Nat),Vals xs us->Vals (xs.drop n) (us.drop n)
 |_,_,0,r=>r
 |_,_,_+1, .nil => .nil
 |_,_,n+1, .cons _ t=>Vals.drop n t
def RelO:Option V->Option Value->Prop
 |some v,some u=>RelV v u
 |none,none=>True
 |_,_=>False
def KV {κ:Type}:List (κ×V)->List (κ×Value)->Prop:=Paired λ(p:κ×V) (q:κ×Value)=>p.1=q.1/\RelV p.2 q.2
def kV:Key->V
 | .inl i => .int i
 | .inr x => .str x
inductive HO where
  |lst (xs:List V)
  |tup (xs:List V)
  |dK (kvs:List (Key×V)) |dT (kvs:List (List Key×V))
  |set (S:Int->Bool) (n:Nat)
  |ins (C dx:Addr) (fs:List (Str×V))
  |own (x:Addr)
  |xd (fs:List (Str×V))
  |met (f x:Addr)
  |rng (lo hi:Int)
  |frz (o:Obj) (u:HO)
  |tbl (ps:Array Value)
  |ext (φ:Heap->Prop)
abbrev Hp:=Addr->Option HO
def nq {α β:Type}{F:α->β}{a b:α}{u v:β}(e:F b=u)(x:F a=v)(h:u≠v:=by intro y;cases y):a≠b:=λz=>h (by rw[<- e,<- x,z])
def nz {α β:Type}{F:α->Option β}{a:α}{o:β}(e:F a=some o):F a≠none:=by rw[e];exact λz=>nomatch z
def upd (H:Hp)(a:Addr)(o:HO):Hp:=λb=>if b=a then some o else H b
def aa {H:Hp}{a:Addr}{o:HO}:upd H a o a=some o:=by unfold upd;rw[if_pos rfl]
def af {H:Hp}{a b:Addr}{o:HO}(h:b≠a):upd H a o b=H b:=by unfold upd;rw[if_neg h]
def aN {H:Hp}{a b:Addr}{o:HO}(h:H a=some o)(h':H b=none):a≠b:=by
 intro e;subst e;rw[h] at h';cases h'
section
variable (P:Program)(w:World)
def ObjOk (H:Hp)(h:Heap)(a:Addr):HO->Prop
 | .lst xs=>xs.length<=sizeLine/\∃(its:List Value) (n:Nat),Vals xs its/\h.get? a=some { cls := .type "list",data := .seq its.toArray n }
 | .tup xs=>xs.length<=sizeLine/\∃its:List Value,Vals xs its/\IsTup h a its.toArray
 | .dK kvs=>kvs.length<=sizeLine/\(a==sysModules)=false/\∃vs,KV kvs vs/\h.DictOf (jI P w) a vs
 | .dT kvs=>kvs.length<=sizeLine/\(a==sysModules)=false/\∃xs:List (List Key×Addr×Value),
   Paired (λ(p:List Key×V) (q:List Key×Addr×Value)=>p.1=q.1/\H q.2.1=some (.tup (p.1.map kV))/\RelV p.2 q.2.2) kvs xs ∧
   ∃o es ep,h.get? a=some o/\o.ExactDict/\o.data = .dict es ep/\es.toList=xs.map (entryOfKey (tupleKind (jI P w)))/\(xs.map (·.1)).Nodup
 | .set S n=>h.SetOf (intKind P w) a S n
 | .ins C dx fs=>H dx=some (.own a)/\fs.length<=1000/\dx≠a/\h.get? a=some (instObj C dx) ∧
   ∃mA,h.Ns1 dx mA/\(∀f,RelO (fs.lookup f) (mA f))/\PySem.Within mA (fs.map (·.1))
 | .own _=>∃o,h.get? a=some o
 | .xd fs=>∃mA,h.Ns1 a mA/\∀f,RelO (fs.lookup f) (mA f)
 | .rng lo hi=>∃t u v,h.get? a=some { cls := .type "range",data := .fields #[.int lo t, .int hi u, .int 1 v] }
 | .frz o u=>h.get? a=some o/\ObjOk H h a u
 | .tbl ps=>h.get? a=some { cls := .none,data := .fields ps }
 | .met f x=>h.get? a=some (methodObj (.ref f) (.ref x))
 | .ext φ=>φ h/\(∃o,h.get? a=some o)/\∀h1 h2:Heap,φ h1->(∀o,h1.get? a=some o->h2.get? a=some o)->φ h2
def HOk (H:Hp)(h:Heap):Prop:=∀a o,H a=some o->ObjOk P w H h a o
end
section
variable {P:Program}{w:World}{H H':Hp}{h h':Heap}{a:Addr}{o:HO}
def ObjOk.lt (x:ObjOk P w H h a o):a < h.objs.size:=by
 cases o with
 |lst xs=>obtain⟨_,_,_,_,e⟩:=x;exact Heap.lt_size e
 |tup xs=>obtain⟨_,_,_,p⟩:=x;exact p.lt
 |dK kvs=>obtain⟨_,_,_,_,o,_,_,e,_⟩:=x;exact Heap.lt_size e
 |dT kvs=>obtain⟨_,_,_,_,o,_,_,e,_⟩:=x;exact Heap.lt_size e
 |set S n=>obtain⟨o,_,_,_,e,_⟩:=x;exact Heap.lt_size e
 |ins C dx fs=>obtain⟨_,_,_,e,_⟩:=x;exact Heap.lt_size e
 |own y=>obtain⟨_,e⟩:=x;exact Heap.lt_size e
 |xd fs=>obtain⟨_,⟨_,_,_,e,_⟩,_⟩:=x;exact Heap.lt_size e
 |rng lo hi=>obtain⟨_,_,_,e⟩:=x;exact Heap.lt_size e
 |frz ob u=>obtain⟨e,_⟩:=x;exact Heap.lt_size e
 |tbl ps=>exact Heap.lt_size (show h.get? a=some _ from x)
 |met f y=>exact Heap.lt_size (show h.get? a=some _ from x)
 |ext φ=>obtain⟨_,⟨_,e⟩,_⟩:=x;exact Heap.lt_size e
theorem Paired.mapP {α β:Type}{F G:α->β->Prop}:∀{l₁:List α} {l₂:List β},Paired F l₁ l₂->(∀a b,F a b->G a b)->Paired G l₁ l₂
 |_,_, .nil,_ => .nil
 |_,_, .cons r t,f => .cons (f _ _ r) (Paired.mapP t f)
def ObjOk.stay (x:ObjOk P w H h a o)(k:∀b u,(b=a ∨ H b=some (.own a))->h.get? b=some u->h'.get? b=some u)
  (ho:∀b,H b=some (.own a)->H' b=some (.own a))(ht:∀b xs,H b=some (.tup xs)->H' b=some (.tup xs)):ObjOk P w H' h' a o:=by
 induction o with
 |lst xs=>obtain⟨z,its,n,r,e⟩:=x;exact⟨z,its,n,r,k _ _ (.inl rfl) e⟩
 |tup xs=>obtain⟨z,its,r,ob,e,c⟩:=x;exact⟨z,its,r,ob,k _ _ (.inl rfl) e,c⟩
 |dK kvs=>obtain⟨z,y,vs,r,ob,es,ep,e,c⟩:=x;exact⟨z,y,vs,r,ob,es,ep,k _ _ (.inl rfl) e,c⟩
 |dT kvs=>
  obtain⟨z,y,xs,r,ob,es,ep,e,c⟩:=x;exact⟨z,y,xs,Paired.mapP r λp q z=>⟨z.1,ht _ _ z.2.1,z.2.2⟩,ob,es,ep,k _ _ (.inl rfl) e,c⟩
 |set S n=>obtain⟨ob,es,ep,t,e,c⟩:=x;exact⟨ob,es,ep,t,k _ _ (.inl rfl) e,c⟩
 |ins C dx fs=>
  obtain⟨d,z,ne,e,mA,⟨od,es,ep,e2,c⟩,r⟩:=x;exact⟨ho _ d,z,ne,k _ _ (.inl rfl) e,mA,⟨od,es,ep,k _ _ (.inr d) e2,c⟩,r⟩
 |own y=>obtain⟨ob,e⟩:=x;exact⟨ob,k _ _ (.inl rfl) e⟩
 |xd fs=>obtain⟨mA,⟨od,es,ep,e,c⟩,r⟩:=x;exact⟨mA,⟨od,es,ep,k _ _ (.inl rfl) e,c⟩,r⟩
 |rng lo hi=>obtain⟨t,u,v,e⟩:=x;exact⟨t,u,v,k _ _ (.inl rfl) e⟩
 |frz ob u ih=>obtain⟨e,q⟩:=x;exact⟨k _ _ (.inl rfl) e,ih q⟩
 |tbl ps=>
  have e:h.get? a=some { cls := .none,data := .fields ps }:=x;show h'.get? a=some { cls := .none,data := .fields ps };exact k a _ (.inl rfl) e
 |met f y=>
  have e:h.get? a=some (methodObj (.ref f) (.ref y)):=x;show h'.get? a=some (methodObj (.ref f) (.ref y));exact k a _ (.inl rfl) e
 |ext φ=>obtain⟨p,⟨o,e⟩,st⟩:=x;exact⟨st _ _ p λo q=>k _ _ (.inl rfl) q,⟨o,k _ _ (.inl rfl) e⟩,st⟩
def HOk.lt (x:HOk P w H h)(e:H a=some o):a < h.objs.size:=(x a o e).lt
def HOk.fresh (x:HOk P w H h)(e:h.objs.size<=a):H a=none:=by
 cases q:H a with
 |none=>rfl
 |some u=>exact absurd (l28 (x.lt q) e) (l37 _)
def HOk.kept (x:HOk P w H h)(k:∀b u,h.get? b=some u->h'.get? b=some u):HOk P w H h':=λa o e=>
 (x a o e).stay (λb u _ q=>k b u q) (λ_ q=>q) λ_ _ q=>q
def HOk.laid (x:HOk P w H h)(k:∀b u,h.get? b=some u->h'.get? b=some u)(hp:h.objs.size<=a)(new:ObjOk P w (upd H a o) h' a o):HOk P w (upd H a o) h':=λb u e=>by
 have hn:=x.fresh hp;by_cases hb:b=a
 ·subst hb;rw[aa] at e;cases e;exact new
 ·rw[af hb] at e;exact(x b u e).stay (λc v _ q=>k c v q) (λc q=>by rw[af (aN q hn)];exact q) λc xs q=>by rw[af (aN q hn)];exact q
end
def Rd (H:Hp)(a:Addr)(u:HO):Prop:=H a=some u ∨ ∃o,H a=some (.frz o u)
def Rd.ok {P:Program}{w:World}{H:Hp}{h:Heap}{a:Addr}{u:HO}(r:Rd H a u)(x:HOk P w H h):ObjOk P w H h a u:=by
 rcases r with r |⟨o,r⟩
 ·exact x a u r
 ·obtain⟨_,q⟩:=x a _ r;exact q
def Mut:Option HO->Prop
 |some (.lst _)=>True
 |some (.dK _)=>True
 |some (.dT _)=>True
 |some (.set _ _)=>True
 |some (.ins _ _ _)=>True
 |some (.ext _)=>True
 |_=>False
section
variable {P:Program}{w:World}{H:Hp}{h h':Heap}{x e:Addr}{o':HO}
def HOk.write (ok:HOk P w H h)(mu:Mut (H x))(he:e=x ∨ H e=some (.own x))(k:∀b u,b≠e->h.get? b=some u->h'.get? b=some u)(heo:∃u,h'.get? e=some u)
  (new:ObjOk P w (upd H x o') h' x o'):HOk P w (upd H x o') h':=λb u q=>by
 have nown:∀c y,H c=some (.own y)->c≠x:=λc y r z=>by subst z;rw[r] at mu;exact mu
 have ntup:∀c xs,H c=some (.tup xs)->c≠x:=λc xs r z=>by subst z;rw[r] at mu;exact mu
 by_cases hb:b=x
 ·subst hb;rw[aa] at q;cases q;exact new
 ·rw[af hb] at q;by_cases hbe:b=e
  ·have q':H b=some (.own x):=by
    rcases he with z |z
    ·exact absurd (hbe.trans z) hb
    ·rw[hbe];exact z
   rw[q] at q';cases q';obtain⟨v,hv⟩:=heo;exact⟨v,by rw[hbe];exact hv⟩
  ·refine(ok b u q).stay (λc v hc r=>k c v ?_ r) (λc r=>by rw[af (nown c b r)];exact r) λc xs r=>by rw[af (ntup c xs r)];exact r
   rcases hc with rfl |hc
   ·exact hbe
   ·rintro rfl;rcases he with z |z
    ·exact nown c b hc z
    ·rw[hc] at z;cases z;exact hb rfl
end
structure Un (fs ex:List Addr)(H H':Hp)(h h':Heap):Prop where
 keep:∀b o,h.get? b=some o->H b=none->b∉fs->b∉ex->h'.get? b=some o
 slot:∀b o,h.get? b=some o->H b=none->b∈fs->b∉ex->∃sl,h'.get? b=some { o with slots:=sl }
 free:∀b o,h.get? b=some o->H b=none->b∉ex->H' b=none
 there:∀b o,h.get? b=some o->b∉ex->∃o',h'.get? b=some o'
 tups:∀b xs,H b=some (.tup xs)->H' b=some (.tup xs)
 frzs:∀b o u,H b=some (.frz o u)->H' b=some (.frz o u)
 tbls:∀b ps,H b=some (.tbl ps)->∃more,H' b=some (.tbl (ps++more))
section
variable {fs fs' ex ex':List Addr}{H H1 H2:Hp}{h h1 h2 h':Heap}{a x e:Addr}{o:HO}
def Un.any (u:Un fs ex H H1 h h1){b:Addr}{ob:Obj}(q:h.get? b=some ob)(n:H b=none)(hx:b∉ex):∃sl,h1.get? b=some { ob with slots:=sl }:=by
 by_cases hb:b∈fs
 ·exact u.slot b ob q n hb hx
 ·exact⟨ob.slots,u.keep b ob q n hb hx⟩
def Un.kept (k:∀b u,h.get? b=some u->h'.get? b=some u):Un fs ex H H h h':=
 ⟨λb ob q _ _ _=>k b ob q,λb ob q _ _ _=>⟨ob.slots,k b ob q⟩,λ_ _ _ n _=>n,λb ob q _=>⟨ob,k b ob q⟩,λ_ _ q=>q,λ_ _ _ q=>q,λ_ ps q=>⟨#[],by rw[q];simp⟩⟩
def Un.refl:Un fs ex H H h h:=Un.kept λ_ _ q=>q
def Un.laid (k:∀b u,h.get? b=some u->h'.get? b=some u)(hp:h.objs.size<=a)(hn:H a=none):Un fs ex H (upd H a o) h h' where
 keep:=λb u q _ _ _=>k b u q
 slot:=λb u q _ _ _=>⟨u.slots,k b u q⟩
 free:=λb u q n _=>by rw[af (l30 (l28 (Heap.lt_size q) hp))];exact n
 there:=λb u q _=>⟨u,k b u q⟩
 tups:=λb xs q=>by rw[af (aN q hn)];exact q
 frzs:=λb u xs q=>by rw[af (aN q hn)];exact q
 tbls:=λb ps q=>⟨#[],by rw[af (aN q hn),q];simp⟩
def Un.write (mu:Mut (H x))(he:e=x ∨ H e=some (.own x))(k:∀b u,b≠e->h.get? b=some u->h'.get? b=some u)(heo:∃u,h'.get? e=some u):Un fs ex H (upd H x o) h h':=by
 have hx:∀b,H b=none->b≠x:=λb n z=>by subst z;rw[n] at mu;exact mu
 have hb:∀b,H b=none->b≠e:=λb n z=>by
  subst z;rcases he with r |r
  ·exact hx b n r
  ·rw[n] at r;cases r
 have hm:∀b u,H b=some u->¬ Mut (some u)->b≠x:=λb u q nm z=>by subst z;rw[q] at mu;exact nm mu
 refine ⟨λb u q n _ _=>k b u (hb b n) q,λb u q n _ _=>⟨u.slots,k b u (hb b n) q⟩,λb u q n _=>by rw[af (hx b n)];exact n,λb u q _=>?_,
  λb xs q=>by rw[af (hm b _ q λz=>z)];exact q,λb u xs q=>by rw[af (hm b _ q λz=>z)];exact q,λb ps q=>⟨#[],by rw[af (hm b _ q λz=>z),q];simp⟩⟩
 by_cases hbe:b=e
 ·subst hbe;exact heo
 ·exact⟨u,k b u hbe q⟩
end
def trk (h:Heap)(H:Hp):List Addr:=(List.range h.objs.size).filter λa=>(H a).isSome
def hidT (h:Heap)(H:Hp):Heap:=PySem.W.hideAll h (trk h H)
def mm (h:Heap)(H:Hp):(hidT h H).objs.size=h.objs.size:=PySem.W.hideAll_size _ _
def oJ {h:Heap}{H:Hp}{b:Addr}{o:Obj}(e:h.get? b=some o)(n:H b=none):(hidT h H).get? b=some o:=
 PySem.W.hideAll_get _ e λhm=>by
  have q:(H b).isSome=true:=(l64.mp hm).2;rw[n] at q;simp at q
def qZ {h:Heap}{H:Hp}{b:Addr}{o:Obj}(e:(hidT h H).get? b=some o):h.get? b=some o/\H b=none:=by
 have e':h.get? b=some o:=PySem.W.of_hideAll (trk h H) e;refine⟨e',?_⟩;cases q:H b with
 |none=>rfl
 |some x=>
  have hm:b∈trk h H:=l64.mpr ⟨l38.mpr (Heap.lt_size e'),by simp[q]⟩;have z:(hidT h H).get? b=none:=PySem.W.hideAll_none (trk h H) hm;rw[z] at e;cases e
structure Mod (K:Frag)(mg:Str->Option Value)(base:Heap):Prop where
 kin:K.In base
 glob:base.Ns mainGlobals mg
 blt:∃mb,base.Ns builtinsNs mb/\∀x:Str,x≠"__name__"->mb x=bootBuiltins x
 nolimit:base.NoLimit
structure Cx where
 prog:Program
 w:World
 K:Frag
 mg:Str->Option Value
 base:Heap
 A:Around
 N:List Str
 s₀:Shared
 H₀:Hp
 env:Env
 outer:List Env
 stack:List Env
 ex:List Addr
 fn:Str->Bool
 calm:Bool
 pn:List (Addr×Obj)
 xe:Value->Shared->Prop
def frs (l:List Env):List Addr:=l.filterMap (·.frame)
abbrev Cx.fs (X:Cx):List Addr:=frs X.outer
def Vis (sc:Scope)(x:Str):Prop:=sc.names.lookup x=some .local ∨ sc.names.lookup x=some .cell ∨ sc.names.lookup x=some .free
def Loc (sc:Scope)(x:Str):Prop:=sc.names.lookup x=some .local ∨ sc.names.lookup x=some .cell
def Look (env:Env)(h:Heap)(m:Str->Option Value)(x:Str)(u:Value):Prop:=
 (env.kindOf x=some .local/\m x=some u) ∨ ((env.kindOf x=some .cell ∨ env.kindOf x=some .free)/\∃c,env.cells.lookup x=some c/\h.IsCell c (some u))
structure Cx.Ok (X:Cx):Prop where
 mod:Mod X.K X.mg X.base
 kind:X.env.scope.kind = .function
 glob:X.env.globals=mainGlobals
 blt:X.env.builtins=builtinsNs
 above:X.s₀.heap.objs.size<=X.env.locals
 inj:∀x y c,X.env.cells.lookup x=some c->X.env.cells.lookup y=some c->x=y
 has:∀x,(X.env.kindOf x=some .cell ∨ X.env.kindOf x=some .free)->∃c,X.env.cells.lookup x=some c
 cab:∀x c,X.fn x=true->X.env.cells.lookup x=some c->X.s₀.heap.objs.size<=c
 hd:X.calm=true->X.A.handled=none
 frames:X.A.frames=some X.stack
 stk:X.stack=X.outer ∨ (X.stack=X.env::X.outer/\X.env.frame=some X.env.locals)
 exf:∀b∈X.ex,b≠X.env.locals/\∀x c,X.env.cells.lookup x=some c->c≠b
 bs:∀b o,X.base.get? b=some o->X.s₀.heap.get? b=some o/\X.H₀ b=none
 bsz:X.base.objs.size<=X.s₀.heap.objs.size
 noex:∀b o,X.base.get? b=some o->b∉X.ex
 exfs:∀b∈X.ex,b∉X.fs
 funs:X.s₀.heap.FunFrames X.base X.outer
 frf:∀b∈X.fs,X.H₀ b=none
structure Inv (X:Cx)(w9:List (Addr×Obj))(σ:List (Option V))(H:Hp)(s:Shared):Prop where
 ok:X.Ok
 os:s.os=X.s₀.os
 bare:AllBare s.gens
 base:Un X.fs X.ex X.H₀ H X.s₀.heap s.heap
 loc:∃m,s.heap.Ns X.env.locals m/\∀(i:Nat) (x:Str) (v:V),X.N[i]? = some x->σ[i]? = some (some v)->Vis X.env.scope x->∃u,RelV v u/\Look X.env s.heap m x u
 cell:∀x c,X.env.cells.lookup x=some c->∃v,s.heap.IsCell c v
 free:H X.env.locals=none
 freeC:∀x c,X.env.cells.lookup x=some c->H c=none
 pin:∀p∈X.pn++w9,s.heap.get? p.1=some p.2/\H p.1=none/\p.1≠X.env.locals/\p.1∉X.fs/\∀v,p.2.data ≠ .cell v
 hok:HOk X.prog X.w H s.heap
 len:σ.length=X.N.length
 tk:0 < s.toks
section
variable {X:Cx}{w9:List (Addr×Obj)}{σ:List (Option V)}{H H':Hp}{s:Shared}{h':Heap}
def Cx.Ok.nofr (ok:X.Ok){b:Addr}{o:Obj}(e:X.base.get? b=some o):b∉X.fs:=λhb=>by
 have:=(ok.funs.mem hb).1;rw[e] at this;cases this
def Inv.bs (I:Inv X w9 σ H s):∀b o,X.base.get? b=some o->s.heap.get? b=some o/\H b=none:=λb o e=>
 ⟨I.base.keep b o (I.ok.bs b o e).1 (I.ok.bs b o e).2 (I.ok.nofr e) (I.ok.noex b o e),I.base.free b o (I.ok.bs b o e).1 (I.ok.bs b o e).2 (I.ok.noex b o e)⟩
def Inv.bk (I:Inv X w9 σ H s):∀b o,X.base.get? b=some o->s.heap.get? b=some o:=λb o e=>(I.bs b o e).1
def Inv.mod (I:Inv X w9 σ H s):Mod X.K X.mg X.base:=I.ok.mod
def Inv.kIn (I:Inv X w9 σ H s):X.K.In s.heap:=I.ok.mod.kin.keeps I.bk
def Inv.lt (I:Inv X w9 σ H s):X.env.locals < s.heap.objs.size:=let ⟨_,hn,_⟩:=I.loc;hn.lt
def Inv.sz (I:Inv X w9 σ H s):X.s₀.heap.objs.size<=s.heap.objs.size:=l11 I.ok.above (Nat.le_of_lt I.lt)
def Inv.nofs (I:Inv X w9 σ H s){a:Addr}(h:s.heap.objs.size<=a):a∉X.fs:=λhb=>by
 obtain⟨_,o,ho,_⟩:=I.ok.funs.mem hb;exact absurd (l28 (Heap.lt_size ho) (l11 I.sz h)) (l37 _)
def Inv.cne (I:Inv X w9 σ H s):∀x c,X.env.cells.lookup x=some c->c≠X.env.locals:=λx c e z=>by
 obtain⟨v,o,ho,hd⟩:=I.cell x c e;obtain⟨m,⟨o',es,ep,ho',hd',_⟩,_⟩:=I.loc;rw[z,ho'] at ho;cases ho;rw[hd'] at hd;cases hd
def Inv.funs (I:Inv X w9 σ H s):s.heap.FunFrames X.base X.outer:=by
 have all:∀(l:List Env),(∀b∈frs l,b∈X.fs)->X.s₀.heap.FunFrames X.base l->s.heap.FunFrames X.base l:=by
  intro l
  induction l with
  |nil=>intro _ _;trivial
  |cons env r ih=>
   intro hs hl;obtain⟨hk,⟨L,o,hf,hn,ho,hd⟩,hr⟩:=hl;have hL:L∈X.fs:=hs L (by unfold frs;rw[l65,hf];exact l10);obtain⟨sl,e⟩:=I.base.slot L o ho (I.ok.frf L hL) hL λz=>I.ok.exfs L z hL;exact⟨hk,⟨L,_,hf,hn,e,hd⟩,ih (λb hb=>hs b (by unfold frs;rw[l65,hf];exact l7 _ hb)) hr⟩
 exact all X.outer (λ_ hb=>hb) I.ok.funs
def Inv.stack (I:Inv X w9 σ H s):s.heap.FunFrames X.base X.stack:=by
 rcases I.ok.stk with e |⟨e,hf⟩
 ·rw[e];exact I.funs
 ·rw[e];obtain⟨m,hn,_⟩:=I.loc;refine .cons (by rw[I.ok.kind];decide) hf hn ?_ I.funs;exact Heap.get?_none_of_le (l11 I.ok.bsz I.ok.above)
def Inv.stkSub (I:Inv X w9 σ H s):∀b∈frs X.stack,b∈X.env.locals::X.fs:=λb hb=>by
 rcases I.ok.stk with e |⟨e,hf⟩
 ·rw[e] at hb;exact l7 _ hb
 ·rw[e] at hb;unfold frs at hb;rw[l65,hf] at hb;exact hb
def Inv.stkFree (I:Inv X w9 σ H s):∀b∈frs X.stack,H b=none:=λb hb=>by
 rcases l6.mp (I.stkSub b hb) with e |hb
 ·rw[e];exact I.free
 ·obtain⟨_,o,ho,_⟩:=I.ok.funs.mem hb;exact I.base.free b o ho (I.ok.frf b hb) λz=>I.ok.exfs b z hb
def Inv.step {g':Array GenState}{t':Nat}{d':Drawn}{ch:List Addr}(I:Inv X w9 σ H s)
  (hch:∀b∈ch,(b∈X.ex ∨ X.s₀.heap.objs.size<=b)/\b≠X.env.locals/\(∀x c,X.env.cells.lookup x=some c->c≠b)/\∀p∈X.pn++w9,p.1≠b)
  (keep:∀b o,b≠X.env.locals->b∉X.fs->b∉ch->s.heap.get? b=some o->H b=none->h'.get? b=some o)
  (slot:∀b o,b≠X.env.locals->b∈X.fs->b∉ch->s.heap.get? b=some o->H b=none->∃sl,h'.get? b=some { o with slots:=sl }) (free:∀b o,b∉ch->s.heap.get? b=some o->H b=none->H' b=none)
  (there:∀b o,b∉ch->s.heap.get? b=some o->∃o',h'.get? b=some o')
  (tups:∀b xs,H b=some (.tup xs)->H' b=some (.tup xs)) (frzs:∀b o u,H b=some (.frz o u)->H' b=some (.frz o u)) (tbls:∀b ps,H b=some (.tbl ps)->∃more,H' b=some (.tbl (ps++more)))
  (ns:∀m,s.heap.Ns X.env.locals m->h'.Ns X.env.locals m) (hok:HOk X.prog X.w H' h') (hg:AllBare g') (ht:0 < t':=by first |assumption |exact l33 _ |(apply Inv.tk;assumption)):
  Inv X w9 σ H' { s with heap:=h',gens:=g',drawn:=d',toks:=t' }:=by
 have neL:∀b o,X.s₀.heap.get? b=some o->b≠X.env.locals:=λb o e=>l30 (l28 (Heap.lt_size e) I.ok.above);have neC:∀b o,X.s₀.heap.get? b=some o->b∉X.ex->b∉ch:=λb o e hx hb=>by
  rcases (hch b hb).1 with z |z
  ·exact hx z
  ·exact absurd (l28 (Heap.lt_size e) z) (l37 _)
 have cellK:∀x c,X.env.cells.lookup x=some c->∀v,s.heap.IsCell c v->h'.IsCell c v:=λx c e v ⟨o,ho,hd⟩=>by
  have nch:c∉ch:=λz=>(hch c z).2.2.1 x c e rfl;by_cases hc:c∈X.fs
  ·obtain⟨sl,q⟩:=slot c o (I.cne x c e) hc nch ho (I.freeC x c e);exact⟨_,q,hd⟩
  ·exact⟨o,keep c o (I.cne x c e) hc nch ho (I.freeC x c e),hd⟩
 refine⟨I.ok,I.os,hg,⟨λb o e n hb hx=>?_,λb o e n hb hx=>?_,λb o e n hx=>?_,λb o e hx=>?_,λb xs e=>tups b xs (I.base.tups b xs e),λb o xs e=>frzs b o xs (I.base.frzs b o xs e),λb ps e=>?_⟩,?_,λx c e=>?_,?_,λx c e=>?_,λp hp=>?_,hok,I.len,ht⟩
 ·exact keep b o (neL b o e) hb (neC b o e hx) (I.base.keep b o e n hb hx) (I.base.free b o e n hx)
 ·obtain⟨sl,e1⟩:=I.base.slot b o e n hb hx;obtain⟨sl',e2⟩:=slot b _ (neL b o e) hb (neC b o e hx) e1 (I.base.free b o e n hx);exact⟨sl',e2⟩
 ·obtain⟨o',e1⟩:=I.base.there b o e hx;exact free b o' (neC b o e hx) e1 (I.base.free b o e n hx)
 ·obtain⟨o',e1⟩:=I.base.there b o e hx;exact there b o' (neC b o e hx) e1
 ·obtain⟨m1,e1⟩:=I.base.tbls b ps e;obtain⟨m2,e2⟩:=tbls b _ e1;exact⟨m1++m2,by rw[e2,Array.append_assoc]⟩
 ·obtain⟨m,hn,hl⟩:=I.loc;refine⟨m,ns m hn,λi x v e1 e2 e3=>?_⟩;obtain⟨u,r,l⟩:=hl i x v e1 e2 e3;refine⟨u,r,?_⟩;rcases l with l |⟨k,c,e,z⟩
  ·exact .inl l
  ·exact .inr ⟨k,c,e,cellK x c e _ z⟩
 ·obtain⟨v,z⟩:=I.cell x c e;exact⟨v,cellK x c e v z⟩
 ·obtain⟨m,⟨o,_,_,ho,_⟩,_⟩:=I.loc;exact free _ o (λz=>(hch _ z).2.1 rfl) ho I.free
 ·obtain⟨v,o,ho,hd⟩:=I.cell x c e;exact free c o (λz=>(hch c z).2.2.1 x c e rfl) ho (I.freeC x c e)
 ·obtain⟨e,n,ne,nf,d⟩:=I.pin p hp;have nch:p.1∉ch:=λz=>(hch p.1 z).2.2.2 p hp rfl;exact⟨keep p.1 p.2 ne nf nch e n,free p.1 p.2 nch e n,ne,nf,d⟩
def Inv.un {t':Nat}(I:Inv X w9 σ H s)(u:Un X.fs [] H H' s.heap h')(hok:HOk X.prog X.w H' h')(ht:0 < t':=by first |assumption |exact l33 _ |(apply Inv.tk;assumption)):Inv X w9 σ H' { s with heap:=h',toks:=t' }:=by
 obtain⟨m,⟨o,es,ep,ho,r⟩,_⟩:=id I.loc;obtain⟨sl,hL⟩:=u.any ho I.free (by simp);exact I.step (g' := s.gens) (d' := s.drawn) (ch := []) (fun _ z => nomatch z) (fun b o _ hb _ e n => u.keep b o e n hb (by simp)) (fun b o _ hb _ e n => u.slot b o e n hb (by simp)) (fun b o _ e n => u.free b o e n (by simp)) (fun b o _ e => u.there b o e (by simp)) u.tups u.frzs u.tbls (λm' hm=>by
  obtain⟨o',es',ep',ho',r'⟩:=hm;rw[ho] at ho';cases ho';exact⟨_,es',ep',hL,r'⟩) hok I.bare
def Inv.call {g':Array GenState}{t':Nat}{d':Drawn}{ch:List Addr}(I:Inv X w9 σ H s)(u:Un (frs X.stack) ch H H' s.heap h')(hok:HOk X.prog X.w H' h')(hg:AllBare g')
  (hch:∀b∈ch,(b∈X.ex ∨ X.s₀.heap.objs.size<=b)/\b≠X.env.locals/\(∀x c,X.env.cells.lookup x=some c->c≠b)/\∀p∈X.pn++w9,p.1≠b)(ht:0 < t':=by first |assumption |exact l33 _ |(apply Inv.tk;assumption)):
  Inv X w9 σ H' { s with heap:=h',gens:=g',drawn:=d',toks:=t' }:=by
 obtain⟨m,⟨o,es,ep,ho,r⟩,_⟩:=id I.loc;obtain⟨sl,hL⟩:=u.any ho I.free λz=>(hch _ z).2.1 rfl;exact I.step (ch := ch) hch (fun b o hL hb hc e n => u.keep b o e n (fun z => (l6.mp (I.stkSub b z)).elim hL hb) hc) (fun b o _ _ hc e n => u.any e n hc) (fun b o hc e n => u.free b o e n hc) (fun b o hc e => u.there b o e hc) u.tups u.frzs u.tbls (λm' hm=>by
  obtain⟨o',es',ep',ho',r'⟩:=hm;rw[ho] at ho';cases ho';exact⟨_,es',ep',hL,r'⟩) hok hg
def Inv.turned {t':Nat}{it:Addr}(I:Inv X w9 σ H s)(k:∀b o,b≠it->s.heap.get? b=some o->h'.get? b=some o)(hn:H it=none)(hL:it≠X.env.locals)
  (h1:it∈X.ex ∨ X.s₀.heap.objs.size<=it)(h2:∀x c,X.env.cells.lookup x=some c->c≠it)(h3:∀p∈X.pn++w9,p.1≠it)(ht:0 < t':=by first |assumption |exact l33 _ |(apply Inv.tk;assumption)):Inv X w9 σ H { s with heap:=h',toks:=t' }:=by
 have nit:∀b u,H b=some u->b≠it:=λb u e z=>by rw[z,hn] at e;cases e
 refine I.step (g':=s.gens) (d':=s.drawn) (ch:=[it]) (λb hb=>?_) (λb o _ _ hc e _=>k b o (λz=>hc (by simp[z])) e) (λb o _ _ hc e _=>⟨o.slots,k b o (λz=>hc (by simp[z])) e⟩) (λ_ _ _ _ n=>n)
  (λb o hc e=>⟨o,k b o (λz=>hc (by simp[z])) e⟩) (λ_ _ e=>e) (λ_ _ _ e=>e) (λb ps e=>⟨#[],by rw[e];simp⟩) (λm hm=>?_) (λb u e=>?_) I.bare
 ·have e:b=it:=by simpa using hb
  subst e;exact⟨h1,hL,h2,h3⟩
 ·obtain⟨o,es,ep,ho,r⟩:=hm;exact⟨o,es,ep,k _ o (Ne.symm hL) ho,r⟩
 ·refine(I.hok b u e).stay (λc v hc q=>k c v ?_ q) (λ_ q=>q) λ_ _ q=>q;rcases hc with z |z
  ·rw[z];exact nit b u e
  ·exact nit c _ z
def Inv.tok (I:Inv X w9 σ H s)(t:Nat)(ht:0 < t:=by first |assumption |exact l33 _ |(apply Inv.tk;assumption)):Inv X w9 σ H { s with toks:=t }:=I.un (h':=s.heap) (t':=t) Un.refl I.hok
def Inv.kept {t':Nat}(I:Inv X w9 σ H s)(k:∀b u,s.heap.get? b=some u->h'.get? b=some u)(ht:0 < t':=by first |assumption |exact l33 _ |(apply Inv.tk;assumption)):Inv X w9 σ H { s with heap:=h',toks:=t' }:=I.un (Un.kept k) (I.hok.kept k)
def Inv.laid {a:Addr}{o:HO}{t':Nat}(I:Inv X w9 σ H s)(k:∀b u,s.heap.get? b=some u->h'.get? b=some u)(hp:s.heap.objs.size<=a)(new:ObjOk X.prog X.w (upd H a o) h' a o)(ht:0 < t':=by first |assumption |exact l33 _ |(apply Inv.tk;assumption)):
  Inv X w9 σ (upd H a o) { s with heap:=h',toks:=t' }:=I.un (Un.laid k hp (I.hok.fresh hp)) (I.hok.laid k hp new)
def Inv.write {x e:Addr}{o:HO}{t':Nat}(I:Inv X w9 σ H s)(mu:Mut (H x))(he:e=x ∨ H e=some (.own x))(k:∀b u,b≠e->s.heap.get? b=some u->h'.get? b=some u)(heo:∃u,h'.get? e=some u)
  (new:ObjOk X.prog X.w (upd H x o) h' x o)(ht:0 < t':=by first |assumption |exact l33 _ |(apply Inv.tk;assumption)):Inv X w9 σ (upd H x o) { s with heap:=h',toks:=t' }:=I.un (Un.write mu he k heo) (I.hok.write mu he k heo new)
def Inv.weak {σ':List (Option V)}(I:Inv X w9 σ H s)(hl:σ'.length=σ.length)(w:∀(i:Nat) v,σ'[i]? = some (some v)->σ[i]? = some (some v)):Inv X w9 σ' H s:=
 ⟨I.ok,I.os,I.bare,I.base,let ⟨m,hn,hl'⟩:=I.loc;⟨m,hn,λi x v e1 e2 e3=>hl' i x v e1 (w i v e2) e3⟩,I.cell,I.free,I.freeC,I.pin,I.hok,hl.trans I.len,I.tk⟩
def Inv.pins_of {pins':List (Addr×Obj)}(I:Inv X w9 σ H s)(h:∀p∈pins',s.heap.get? p.1=some p.2/\H p.1=none/\p.1≠X.env.locals/\p.1∉X.fs/\∀v,p.2.data ≠ .cell v):Inv X pins' σ H s:=
 ⟨I.ok,I.os,I.bare,I.base,I.loc,I.cell,I.free,I.freeC,λp hp=>(l20.mp hp).elim (λz=>I.pin p (l47 _ z)) (h p),I.hok,I.len,I.tk⟩
def kJ {N:List Str}(hN:N.Nodup){i j:Nat}{x:Str}(a:N[i]? = some x)(b:N[j]? = some x):i=j:=by
 obtain⟨h1,e1⟩:=List.getElem?_eq_some_iff.mp a;obtain⟨h2,e2⟩:=List.getElem?_eq_some_iff.mp b;exact(List.getElem_inj hN).mp (e1.trans e2.symm)
def iO {M:Model}{A:Around}{E:Value->Shared->Prop}{i:Nat}{x:Str}{v:V}{u:Value}{Q:Unit->Shared->Prop}(I:Inv X w9 σ H s)(hN:X.N.Nodup)(hi:X.N[i]? = some x)(hx:Loc X.env.scope x)(r:RelV v u)
  (h:∀s',Inv X w9 (σ.set i (some v)) H s'->(∃a,Heap.SameBut a s.heap s'.heap/\(a=X.env.locals ∨ X.env.cells.lookup x=some a))->Q () s')(hf:X.fn x=true ∨ X.env.scope.names.lookup x=some .local:=by first |exact .inl rfl |exact .inr rfl |assumption):wpAny M A (storeName X.env x u) Q E s:=by
 obtain⟨m,hn,hl⟩:=id I.loc;have hcls:(X.env.scope.kind == .class||(X.env.scope.kind == .module&&X.env.locals != X.env.globals))=false:=by rw[I.ok.kind];rfl
 have hiσ:i < σ.length:=by rw[I.len];exact(List.getElem?_eq_some_iff.mp hi).1
 have cne:=I.cne;have tracked:∀{a:Addr} {h':Heap},(∃o,s.heap.get? a=some o/\H a=none)->Heap.SameBut a s.heap h'->HOk X.prog X.w H h':=λ{a h'} ha hs b ob e=>by
  obtain⟨_,_,hfree⟩:=ha;refine(I.hok b ob e).stay (λc w' hc q=>(hs.2 c ?_).trans q) (λ_ q=>q) λ_ _ q=>q;rintro rfl;rcases hc with rfl |hc
  ·rw[hfree] at e;cases e
  ·rw[hfree] at hc;cases hc
 rcases hx with hk |hk
 ·refine wpAny_storeName_local hk hn (λh' hn' hs=>?_) hcls;obtain⟨oL,_,_,hoL,_⟩:=id hn;refine h _ ⟨I.ok,I.os,I.bare,⟨λb o e n hb hx=>?_,λb o e n hb hx=>?_,I.base.free,λb o e hx=>?_,I.base.tups,I.base.frzs,I.base.tbls⟩,⟨_,hn',λj y v' e1 e2 e3=>?_⟩,λy c e=>?_,I.free,I.freeC,λp hp=>?_,tracked ⟨oL,hoL,I.free⟩ hs,by simpa using I.len,by first |exact I.tk |exact l33 _⟩ ⟨_,hs, .inl rfl⟩
  ·exact(hs.2 b (l30 (l28 (Heap.lt_size e) I.ok.above))).trans (I.base.keep b o e n hb hx)
  ·obtain⟨sl,e1⟩:=I.base.slot b o e n hb hx;exact⟨sl,(hs.2 b (l30 (l28 (Heap.lt_size e) I.ok.above))).trans e1⟩
  ·obtain⟨o',e1⟩:=I.base.there b o e hx;exact⟨o',(hs.2 b (l30 (l28 (Heap.lt_size e) I.ok.above))).trans e1⟩
  ·by_cases hj:j=i
   ·subst hj;rw[hi] at e1;cases e1;rw[List.getElem?_set_self hiσ] at e2;cases e2;exact⟨u,r, .inl ⟨hk,by simp⟩⟩
   ·rw[List.getElem?_set_ne (Ne.symm hj)] at e2;obtain⟨u',r',q⟩:=hl j y v' e1 e2 e3;refine⟨u',r',?_⟩;rcases q with ⟨k,e⟩ |⟨k,c,e,z⟩
    ·refine .inl ⟨k,?_⟩;have:y≠x:=λe=>hj (kJ hN e1 (e▸hi));simp[this,e]
    ·exact .inr ⟨k,c,e,z.sameBut hs (cne y c e)⟩
  ·obtain⟨w',z⟩:=I.cell y c e;exact⟨w',z.sameBut hs (cne y c e)⟩
  ·obtain⟨e,n,ne,nf,d⟩:=I.pin p hp;exact⟨(hs.2 p.1 ne).trans e,n,ne,nf,d⟩
 ·have hfn:X.fn x=true:=by
   rcases hf with z |z
   ·exact z
   ·rw[z] at hk;cases hk
  obtain⟨c,hc⟩:=I.ok.has x (.inl hk);obtain⟨w',z⟩:=I.cell x c hc;refine wpAny_storeName_cell I.ok.kind hk hc z (λh' hc' hs=>?_);obtain⟨oc,hoc,hocd⟩:=id z;refine h { s with heap:=h' } ⟨I.ok,I.os,I.bare,⟨λb o e n hb hx=>?_,λb o e n hb hx=>?_,I.base.free,λb o e hx=>?_,I.base.tups,I.base.frzs,I.base.tbls⟩,⟨m,hn.sameBut hs (Ne.symm (cne x c hc)),λj y v' e1 e2 e3=>?_⟩,λy c' e=>?_,I.free,I.freeC,λp hp=>?_,tracked ⟨oc,hoc,I.freeC x c hc⟩ hs,by simpa using I.len,by first |exact I.tk |exact l33 _⟩ ⟨c,hs, .inr hc⟩
  ·exact(hs.2 b (l30 (l28 (Heap.lt_size e) (I.ok.cab x c hfn hc)))).trans (I.base.keep b o e n hb hx)
  ·obtain⟨sl,e1⟩:=I.base.slot b o e n hb hx;exact⟨sl,(hs.2 b (l30 (l28 (Heap.lt_size e) (I.ok.cab x c hfn hc)))).trans e1⟩
  ·obtain⟨o',e1⟩:=I.base.there b o e hx;exact⟨o',(hs.2 b (l30 (l28 (Heap.lt_size e) (I.ok.cab x c hfn hc)))).trans e1⟩
  ·by_cases hj:j=i
   ·subst hj;rw[hi] at e1;cases e1;rw[List.getElem?_set_self hiσ] at e2;cases e2;exact⟨u,r, .inr ⟨.inl hk,c,hc,hc'⟩⟩
   ·rw[List.getElem?_set_ne (Ne.symm hj)] at e2;obtain⟨u',r',q⟩:=hl j y v' e1 e2 e3;refine⟨u',r',?_⟩;rcases q with q |⟨k,c',e,z'⟩
    ·exact .inl q
    ·refine .inr ⟨k,c',e,z'.sameBut hs ?_⟩;rintro rfl;exact hj (kJ hN e1 (I.ok.inj _ _ _ e hc▸hi))
  ·by_cases hcc:c'=c
   ·subst hcc;exact⟨_,hc'⟩
   ·obtain⟨w2,z2⟩:=I.cell y c' e;exact⟨w2,z2.sameBut hs hcc⟩
  ·obtain⟨e,n,ne,nf,d⟩:=I.pin p hp;refine⟨(hs.2 p.1 ?_).trans e,n,ne,nf,d⟩;intro q;rw[q,hoc] at e;have q':oc=p.2:=Option.some.inj e;exact d w' (by rw[<- q'];exact hocd)
def gQ {M:Model}{A:Around}{E:Value->Shared->Prop}{i:Nat}{x:Str}{v:V}{u:Value}{Q:Unit->Shared->Prop}(I:Inv X w9 σ H s)(hN:X.N.Nodup)(hi:X.N[i]? = some x)(hx:Loc X.env.scope x)(r:RelV v u)
  (h:∀s',Inv X w9 (σ.set i (some v)) H s'->Q () s')(hf:X.fn x=true ∨ X.env.scope.names.lookup x=some .local:=by first |exact .inl rfl |exact .inr rfl |assumption):wpAny M A (storeName X.env x u) Q E s:=
 iO I hN hi hx r (λs' I' _=>h s' I') hf
def Inv.call' {s':Shared}{ch:List Addr}(I:Inv X w9 σ H s)(ho:s'.os=s.os)(u:Un (frs X.stack) ch H H' s.heap s'.heap)(hok:HOk X.prog X.w H' s'.heap)(hg:AllBare s'.gens)
  (hch:∀b∈ch,(b∈X.ex ∨ X.s₀.heap.objs.size<=b)/\b≠X.env.locals/\(∀x c,X.env.cells.lookup x=some c->c≠b)/\∀p∈X.pn++w9,p.1≠b)(ht:0 < s'.toks):Inv X w9 σ H' s':=by
 obtain⟨h',g',d',t',o'⟩:=s';have e:o'=s.os:=ho;subst e;exact I.call (g':=g') (t':=t') (d':=d') u hok hg hch ht
end
abbrev XK:=Value->Option Addr->Hp->Prop
abbrev St:=List (Option V)
abbrev VK:=V->Hp->Prop
abbrev TE:=St->Hp->VK->Prop
abbrev TT:=St->Hp->(Bool->Hp->Prop)->Prop
abbrev TA:=St->Hp->(List V->Hp->Prop)->Prop
structure Ends where
 nx:St->Hp->Prop
 rt:VK
 bk:St->Hp->Prop:=λ_ _=>False
 ct:St->Hp->Prop:=λ_ _=>False
abbrev TS:=Ends->St->Hp->Prop
inductive EP (X:Cx)(w9:List (Addr×Obj))(σ:St)(Q:VK)(u:Value)(s':Shared):Prop
 |mk (v H')(_:Inv X w9 σ H' s')(_:RelV v u)(_:Q v H')
inductive TP (X:Cx)(w9:List (Addr×Obj))(σ:St)(Q:Bool->Hp->Prop)(b:Bool)(s':Shared):Prop
 |mk (H')(_:Inv X w9 σ H' s')(_:Q b H')
inductive AP (X:Cx)(w9:List (Addr×Obj))(σ:St)(Q:List V->Hp->Prop)(us:List Value)(s':Shared):Prop
 |mk (vs H')(_:Inv X w9 σ H' s')(_:Vals vs us)(_:Q vs H')
def SP (X:Cx)(w9:List (Addr×Obj))(D:Ends)(f:Flow)(s':Shared):Prop:=
 match f with
 | .next=>∃σ' H',Inv X w9 σ' H' s'/\D.nx σ' H'
 | .brk=>∃σ' H',Inv X w9 σ' H' s'/\D.bk σ' H'
 | .cont=>∃σ' H',Inv X w9 σ' H' s'/\D.ct σ' H'
 | .ret u=>∃v σ' H',Inv X w9 σ' H' s'/\RelV v u/\D.rt v H'
def PE (X:Cx)(e:Expr)(t:TE):Prop:=
 ∀(w9:List (Addr×Obj)) (s:Shared) (σ:St) (H:Hp) (Q:VK),Inv X w9 σ H s->t σ H Q->wpAny (model X.prog X.w) X.A (eval e X.env) (EP X w9 σ Q) X.xe s
def PT (X:Cx)(e:Expr)(t:TT):Prop:=
 ∀(w9:List (Addr×Obj)) (s:Shared) (σ:St) (H:Hp) (Q:Bool->Hp->Prop),Inv X w9 σ H s->t σ H Q->wpAny (model X.prog X.w) X.A (isTrue e X.env (eval e X.env)) (TP X w9 σ Q) X.xe s
def PW (X:Cx)(e:Expr)(t:TT):Prop:=
 ∀(whole:Sem Value) (w9:List (Addr×Obj)) (s:Shared) (σ:St) (H:Hp) (Q:Bool->Hp->Prop),Inv X w9 σ H s->t σ H Q->wpAny (model X.prog X.w) X.A (isTrue e X.env whole) (TP X w9 σ Q) X.xe s
def PW.pt {X:Cx}{e:Expr}{t:TT}(h:PW X e t):PT X e t:=h _
def PA (X:Cx)(es:List Expr)(t:TA):Prop:=
 ∀(pos:Pos) (w9:List (Addr×Obj)) (s:Shared) (σ:St) (H:Hp) (Q:List V->Hp->Prop),Inv X w9 σ H s->t σ H Q->wpAny (model X.prog X.w) X.A (spliced (backTo pos (starEach es X.env))) (AP X w9 σ Q) X.xe s
def PS (X:Cx)(st:Stmt)(t:TS):Prop:=
 ∀(w9:List (Addr×Obj)) (s:Shared) (σ:St) (H:Hp) (D:Ends),Inv X w9 σ H s->t D σ H->wpAny (model X.prog X.w) X.A (exec st X.env) (SP X w9 D) X.xe s
def PSs (X:Cx)(st:List Stmt)(t:TS):Prop:=
 ∀(w9:List (Addr×Obj)) (s:Shared) (σ:St) (H:Hp) (D:Ends),Inv X w9 σ H s->t D σ H->wpAny (model X.prog X.w) X.A (execs st X.env) (SP X w9 D) X.xe s
def thn {α:Type}{t:Sem α}{Q Q':α->Shared->Prop}{M:Model}{A:Around}{E:Value->Shared->Prop}{s:Shared}(h:wpAny M A t Q E s)(hQ:∀a s,Q a s->Q' a s):wpAny M A t Q' E s:=wpAny_mono h hQ λ_ _ x=>x
section
variable {X:Cx}
inductive tVar (i:Nat)(σ:St)(H:Hp)(Q:VK):Prop
 |mk (v)(_:σ[i]? = some (some v))(_:Q v H)
def tC (v:V):TE:=λ_ H Q=>Q v H
def tD {i:Nat}{x:Str}{pos:Pos}(hN:X.N[i]? = some x)(hv:Vis X.env.scope x)(hd:(x==("__debug__":Str))=false:=by decide) (hcd:(x==("__classdict__":Str))=false:=by decide):PE X (.Name x pos) (tVar i):=by
 intro w9 s σ H Q I h;obtain⟨v,e,h⟩:=h;obtain⟨m,hn,hl⟩:=I.loc;obtain⟨u,r,l⟩:=hl i x v hN e hv;have fin:EP X w9 σ Q u s:=⟨v,H,I,r,h⟩;rcases l with ⟨hk,hm⟩ |⟨hk,c,hc,w5⟩
 ·exact wpAny_Name (wpAny_loadName_local I.ok.kind hk hn hm fin) hd
 ·rcases hk with hk |hk
  ·exact wpAny_Name (wpAny_loadName_cell I.ok.kind hk hc w5 fin) hd
  ·exact wpAny_Name (wpAny_loadName_free I.ok.kind hk hc w5 fin hcd) hd
def qo {i j pos}:PE X (.Constant (.int i) j pos) (tC (.int i)):=λ_ _ _ H _ I h=>wpAny_Constant_int ⟨.int i,H,I.tok _,⟨_,rfl⟩,h⟩
def uU {b j pos}:PE X (.Constant (.bool b) j pos) (tC (.bl b)):=λ_ _ _ H _ I h=>Constant_bool ⟨.bl b,H,I,rfl,h⟩
def tF {j pos}:PE X (.Constant .none j pos) (tC .non):=λ_ _ _ H _ I h=>Constant_none ⟨.non,H,I,rfl,h⟩
def tG {x j pos}:PE X (.Constant (.str x) j pos) (tC (.str x)):=λ_ _ _ H _ I h=>Calls.Constant_str ⟨.str x,H,I.tok _,⟨_,rfl⟩,h⟩
def Gl (X:Cx)(x:Str):Prop:=X.env.kindOf x=some .globalImplicit
def jJ {E:Value->Shared->Prop}{w9:List (Addr×Obj)}{s:Shared}{σ:St}{H:Hp}{x:Str}{u:Value}{pos:Pos}{Q:Value->Shared->Prop}(I:Inv X w9 σ H s)(hg:Gl X x)(hm:X.mg x=some u)(h:Q u s)
  (hd:(x==("__debug__":Str))=false:=by decide):wpAny (model X.prog X.w) X.A (eval (.Name x pos) X.env) Q E s:=
 Calls.Name_function_global I.ok.kind hg (Calls.loadGlobal_global (by rw[I.ok.glob];exact I.mod.glob.keeps I.bk) hm h) hd
def iP {E:Value->Shared->Prop}{w9:List (Addr×Obj)}{s:Shared}{σ:St}{H:Hp}{x:Str}{u:Value}{pos:Pos}{Q:Value->Shared->Prop}(I:Inv X w9 σ H s)(hg:Gl X x)(hm:X.mg x=none)(hv:bootBuiltins x=some u)(h:Q u s)
  (hn:x≠"__name__":=by decide) (hd:(x==("__debug__":Str))=false:=by decide):wpAny (model X.prog X.w) X.A (eval (.Name x pos) X.env) Q E s:=by
 obtain⟨mb,h1,h2⟩:=I.mod.blt;exact Calls.Name_function_global I.ok.kind hg (Calls.loadGlobal_builtin (by rw[I.ok.glob];exact I.mod.glob.keeps I.bk) hm (by rw[I.ok.blt];exact h1.keeps I.bk) ((h2 x hn).trans hv) h) hd
def mn {x:Str}{v:V}{u:Value}{pos:Pos}(hg:Gl X x)(hm:X.mg x=some u)(r:RelV v u)(hd:(x==("__debug__":Str))=false:=by decide):PE X (.Name x pos) (tC v):=
 λ_ _ _ H _ I h=>jJ I hg hm ⟨v,H,I,r,h⟩ hd
def q0 {x:Str}{v:V}{u:Value}{pos:Pos}(hg:Gl X x)(hm:X.mg x=none)(hv:bootBuiltins x=some u)(r:RelV v u)(hn:x≠"__name__":=by decide) (hd:(x==("__debug__":Str))=false:=by decide):PE X (.Name x pos) (tC v):=
 λ_ _ _ H _ I h=>iP I hg hm hv ⟨v,H,I,r,h⟩ hn hd
variable {a b:Expr}{ta tb:TE}{pos:Pos}
inductive tB.I (Q:(Bool->Hp->Prop))(x:V)(H1:Hp):Prop
 |mk (c)(_:x = .bl c)(_:Q c H1)
def tB (t:TE):TT:=λσ H Q=>t σ H (tB.I Q)
def tH {e:Expr}{t:TE}(h:PE X e t)(he:∀whole,isTrue e X.env whole=(do let v ← whole;standAt e.pos;holding [v] (truthy v)):=by intro _;rfl):PT X e (tB t):=by
 intro w9 s σ H Q I hw;refine isTrue_plain (thn (h w9 s σ H _ I hw) λv s1 ⟨x,H1,I1,r1,q1⟩=>?_) (he _);obtain⟨d,rfl,q⟩:=q1;cases r1;exact wpAny_truthy_bool ⟨H1,I1,q⟩
variable {tA tB':TT}{rest:List Expr}
abbrev tAnd.K0 (u:TT)(σ:St)(Q:(Bool->Hp->Prop))(c:Bool)(H1:Hp):Prop:=if c=true then u σ H1 Q else Q false H1
def tAnd (t u:TT):TT:=λσ H Q=>t σ H (tAnd.K0 u σ Q)
abbrev tOr.K0 (u:TT) (σ:St) (Q:(Bool->Hp->Prop)) (c:Bool) (H1:Hp):Prop:=if c=true then Q true H1 else u σ H1 Q
def tOr (t u:TT):TT:=λσ H Q=>t σ H (tOr.K0 u σ Q)
abbrev tNot.K0 (Q:(Bool->Hp->Prop)) (c:Bool) (H1:Hp):Prop:=Q (!c) H1
def tNot (t:TT):TT:=λσ H Q=>t σ H (tNot.K0 Q)
def q8 (ha:PT X a tA):PW X (.BoolOp .And [a] pos) tA:=by
 intro wh w9 s σ H Q I h;refine isTrue_and (thn (ha w9 s σ H Q I h) λc s1 e=>?_);cases c with
 |true=>exact isTrue_and_nil e
 |false=>exact e
def tI (ha:PT X a tA):PW X (.BoolOp .Or [a] pos) tA:=by
 intro wh w9 s σ H Q I h;refine isTrue_or (thn (ha w9 s σ H Q I h) λc s1 e=>?_);cases c with
 |false=>exact isTrue_or_nil e
 |true=>exact e
def tJ (ha:PT X a tA)(hb:PW X (.BoolOp .And (b::rest) pos) tB'):PW X (.BoolOp .And (a::b::rest) pos) (tAnd tA tB'):=by
 intro wh w9 s σ H Q I h;refine isTrue_and (thn (ha w9 s σ H _ I h) λc s1 ⟨H1,I1,q1⟩=>?_);cases c with
 |true=>exact hb wh w9 s1 σ H1 Q I1 q1
 |false=>exact⟨H1,I1,q1⟩
def uV (ha:PT X a tA)(hb:PW X (.BoolOp .Or (b::rest) pos) tB'):PW X (.BoolOp .Or (a::b::rest) pos) (tOr tA tB'):=by
 intro wh w9 s σ H Q I h;refine isTrue_or (thn (ha w9 s σ H _ I h) λc s1 ⟨H1,I1,q1⟩=>?_);cases c with
 |true=>exact⟨H1,I1,q1⟩
 |false=>exact hb wh w9 s1 σ H1 Q I1 q1
def tK (ha:PT X a tA):PT X (.UnaryOp .Not a pos) (tNot tA):=by
 intro w9 s σ H Q I h;exact isTrue_not (thn (ha w9 s σ H (λc H1=>Q (!c) H1) I h) λc s1 ⟨H1,I1,q1⟩=>⟨H1,I1,q1⟩)
inductive tAndV.I (tb:TE)(σ:St)(Q:VK)(x:V)(H1:Hp):Prop
 |mk (c)(_:x = .bl c)(_:if c=true then tb σ H1 Q else Q (.bl false) H1)
def tAndV (ta tb:TE):TE:=λσ H Q=>ta σ H (tAndV.I tb σ Q)
inductive tOrV.I (tb:TE)(σ:St)(Q:VK)(x:V)(H1:Hp):Prop
 |mk (c)(_:x = .bl c)(_:if c=true then Q (.bl true) H1 else tb σ H1 Q)
def tOrV (ta tb:TE):TE:=λσ H Q=>ta σ H (tOrV.I tb σ Q)
def tL {op}{t:TE}(h:PE X a t):PE X (.BoolOp op [a] pos) t:=λw9 s σ H Q I hw=>BoolOp_one (h w9 s σ H Q I hw)
def tM (ha:PE X a ta)(hb:PE X (.BoolOp .And (b::rest) pos) tb):PE X (.BoolOp .And (a::b::rest) pos) (tAndV ta tb):=by
 intro w9 s σ H Q I h;refine BoolOp_and (thn (ha w9 s σ H _ I h) λv s1 ⟨x,H1,I1,r1,q1⟩=>?_);obtain⟨c,rfl,q1⟩:=q1;cases r1;refine wpAny_truthy_bool ?_;cases c with
 |true=>exact hb w9 s1 σ H1 Q I1 q1
 |false=>exact⟨.bl false,H1,I1,rfl,q1⟩
def uW (ha:PE X a ta)(hb:PE X (.BoolOp .Or (b::rest) pos) tb):PE X (.BoolOp .Or (a::b::rest) pos) (tOrV ta tb):=by
 intro w9 s σ H Q I h;refine BoolOp_or (thn (ha w9 s σ H _ I h) λv s1 ⟨x,H1,I1,r1,q1⟩=>?_);obtain⟨c,rfl,q1⟩:=q1;cases r1;refine wpAny_truthy_bool ?_;cases c with
 |false=>exact hb w9 s1 σ H1 Q I1 q1
 |true=>exact⟨.bl true,H1,I1,rfl,q1⟩
abbrev tIf.K0 (ta:TE) (tb:TE) (σ:St) (Q:VK) (c:Bool) (H1:Hp):Prop:=if c=true then ta σ H1 Q else tb σ H1 Q
def tIf (t:TT)(ta tb:TE):TE:=λσ H Q=>t σ H (tIf.K0 ta tb σ Q)
def oK {c:Expr}(hc:PT X c tA)(ha:PE X a ta)(hb:PE X b tb):PE X (.IfExp c a b pos) (tIf tA ta tb):=by
 intro w9 s σ H Q I h;refine wpAny_IfExp (thn (hc w9 s σ H _ I h) λd s1 ⟨H1,I1,q1⟩=>?_);cases d with
 |true=>exact ha w9 s1 σ H1 Q I1 q1
 |false=>exact hb w9 s1 σ H1 Q I1 q1
end
def SqL (K:Frag)(H:Hp)(a:Addr)(xs:List V):Prop:=
 Rd H a (.lst xs) ∨
  ∃(o:Obj) (its:Array Value) (n:Nat),K.lookup a=some o/\o.cls = .type "list"/\o.dict=none/\o.data = .seq its n/\its.size<=sizeLine/\Vals xs its.toList
def SqT (K:Frag)(H:Hp)(a:Addr)(xs:List V):Prop:=
 Rd H a (.tup xs) ∨
  ∃(o:Obj) (its:Array Value) (n:Nat),K.lookup a=some o/\o.cls = .type "tuple"/\o.data = .seq its n/\its.size<=sizeLine/\Vals xs its.toList
def absV:Value->Option V
 | .none=>some .non
 | .bool b=>some (.bl b)
 | .int i _=>some (.int i)
 | .str x _=>some (.str x)
 | .bytes b _=>some (.byt b)
 | .float b _=>some (.flt b)
 | .ref a=>some (.ref a)
 | .type n=>some (.ty n)
 |_=>none
def RelV.abs {x:V}{u:Value}(r:RelV x u):absV u=some x:=by
 cases x with
 |non=>cases r;rfl
 |bl _=>cases r;rfl
 |int _=>obtain⟨t,rfl⟩:=r;rfl
 |str _=>obtain⟨t,rfl⟩:=r;rfl
 |byt _=>obtain⟨t,rfl⟩:=r;rfl
 |flt _=>obtain⟨t,rfl⟩:=r;rfl
 |ref _=>cases r;rfl
 |ty _=>cases r;rfl
def RelV.inj {x y:V}{u:Value}(r:RelV x u)(q:RelV y u):x=y:=Option.some.inj (r.abs.symm.trans q.abs)
theorem Vals.inj:∀{xs ys:List V} {us:List Value},Vals xs us->Vals ys us->xs=ys
 |_,_,_, .nil, .nil=>rfl
 |_,_,_, .cons r t, .cons r' t'=>by rw[r.inj r',Vals.inj t t']
section
variable {X:Cx}{w9:List (Addr×Obj)}{σ:St}{H:Hp}{s:Shared}{a:Addr}{xs ys:List V}
def SqL.of {K:Frag}(h:H a=some (.lst xs)):SqL K H a xs := .inl (.inl h)
def SqT.of {K:Frag}(h:H a=some (.tup xs)):SqT K H a xs := .inl (.inl h)
def Inv.list (I:Inv X w9 σ H s)(h:SqL X.K H a xs):∃its:List Value,Vals xs its/\PlainL s.heap a its.toArray/\xs.length<=sizeLine:=by
 rcases h with h |⟨o,its,n,hk,hc,hd,hs,hz,r⟩
 ·obtain⟨z,its,n,r,e⟩:=h.ok I.hok;exact⟨its,r,⟨_,n,e,rfl,rfl,rfl⟩,z⟩
 ·refine⟨its.toList,r,⟨o,n,I.kIn a o hk,hc,hd,by simpa using hs⟩,?_⟩;have e:=r.length;simp only[Array.length_toList] at e;omega
def Inv.tuple (I:Inv X w9 σ H s)(h:SqT X.K H a xs):∃its:List Value,Vals xs its/\IsTup s.heap a its.toArray/\xs.length<=sizeLine:=by
 rcases h with h |⟨o,its,n,hk,hc,hs,hz,r⟩
 ·obtain⟨z,its,r,p⟩:=h.ok I.hok;exact⟨its,r,p,z⟩
 ·refine⟨its.toList,r,⟨o,I.kIn a o hk,hc,n,by simpa using hs⟩,?_⟩;have e:=r.length;simp only[Array.length_toList] at e;omega
def Inv.list_inj (I:Inv X w9 σ H s)(h:SqL X.K H a xs)(h':SqL X.K H a ys):xs=ys:=by
 obtain⟨its,r,⟨o,n,e,_,_,d⟩,_⟩:=I.list h;obtain⟨its',r',⟨o',n',e',_,_,d'⟩,_⟩:=I.list h';rw[e] at e';cases e';rw[d] at d';injection d' with d1 _
 have:its=its':=by simpa using congrArg Array.toList d1
 subst this;exact r.inj r'
end
abbrev Cx.wish (X:Cx)(E:Value->Shared->Prop):Cx:={ X with xe:=E }
abbrev Cx.nox (X:Cx):Cx:=X.wish λ_ _=>False
def Cx.Ok.wish {X:Cx}(ok:X.Ok)(E:Value->Shared->Prop):(X.wish E).Ok:=
 ⟨ok.mod,ok.kind,ok.glob,ok.blt,ok.above,ok.inj,ok.has,ok.cab,ok.hd,ok.frames,ok.stk,ok.exf,ok.bs,ok.bsz,ok.noex,ok.exfs,ok.funs,ok.frf⟩
def Cx.Ok.unwish {X:Cx}{E:Value->Shared->Prop}(ok:(X.wish E).Ok):X.Ok:=
 ⟨ok.mod,ok.kind,ok.glob,ok.blt,ok.above,ok.inj,ok.has,ok.cab,ok.hd,ok.frames,ok.stk,ok.exf,ok.bs,ok.bsz,ok.noex,ok.exfs,ok.funs,ok.frf⟩
section
variable {X:Cx}{w9:List (Addr×Obj)}{σ:St}{H:Hp}{s:Shared}{E:Value->Shared->Prop}
def Inv.wish (I:Inv X w9 σ H s)(E:Value->Shared->Prop):Inv (X.wish E) w9 σ H s:=⟨I.ok.wish E,I.os,I.bare,I.base,I.loc,I.cell,I.free,I.freeC,I.pin,I.hok,I.len,I.tk⟩
def Inv.unwish (I:Inv (X.wish E) w9 σ H s):Inv X w9 σ H s:=⟨I.ok.unwish,I.os,I.bare,I.base,I.loc,I.cell,I.free,I.freeC,I.pin,I.hok,I.len,I.tk⟩
def SP.unwish {D:Ends}{f:Flow}{s':Shared}(h:SP (X.wish E) w9 D f s'):SP X w9 D f s':=by
 cases f with
 |next=>obtain⟨σ',H',I,q⟩:=h;exact⟨σ',H',I.unwish,q⟩
 |brk=>obtain⟨σ',H',I,q⟩:=h;exact⟨σ',H',I.unwish,q⟩
 |cont=>obtain⟨σ',H',I,q⟩:=h;exact⟨σ',H',I.unwish,q⟩
 |ret u=>obtain⟨v,σ',H',I,r,q⟩:=h;exact⟨v,σ',H',I.unwish,r,q⟩
def PSs.nox {st:List Stmt}{t:TS}(h:PSs X.nox st t):PSs X st t:=λw9 s σ H D I hw=>
 wpAny_mono (h w9 s σ H D (I.wish _) hw) (λ_ _ q=>q.unwish) λ_ _ z=>False.elim z
end
section
variable {X:Cx}{st:Stmt}{rest:List Stmt}{t u:TS}{e:Expr}{te:TE}{pos:Pos}
def gR:TS:=λD σ H=>D.nx σ H
def Ends.to (D:Ends)(u:TS):Ends:={ D with nx:=u D }
def Ends.to_nx {D:Ends}{u:TS}:(Ends.to D u).nx=u D:=rfl
def Ends.to_rt {D:Ends}{u:TS}:(Ends.to D u).rt=D.rt:=rfl
def tSeq (t u:TS):TS:=λD σ H=>t (Ends.to D u) σ H
def q9:PSs X [] gR:=λ_ _ σ H _ I h=>wpAny_execs_nil ⟨σ,H,I,h⟩
def oM (h1:PS X st t)(h2:PSs X rest u):PSs X (st::rest) (tSeq t u):=by
 intro w9 s σ H D I h;refine wpAny_execs_cons (thn (h1 w9 s σ H { D with nx:=u D } I h) λf s1 q=>?_);cases f with
 |next=>
  obtain⟨σ',H',I',q⟩:=q;exact h2 w9 s1 σ' H' D I' q
 |ret v=>exact q
 |brk=>exact q
 |cont=>exact q
def rc (h1:PS X st t):PSs X [st] t:=by
 intro w9 s σ H D I h;refine wpAny_execs_cons (thn (h1 w9 s σ H D I h) λf s1 q=>?_);cases f with
 |next=>exact wpAny_execs_nil q
 |ret v=>exact q
 |brk=>exact q
 |cont=>exact q
def qp:TS:=λD σ H=>D.bk σ H
def tO:TS:=λD σ H=>D.ct σ H
def oN:PS X (.Break pos) qp:=λ_ _ σ H _ I h=>wpAny_Break ⟨σ,H,I,h⟩
def jK:PS X (.Continue pos) tO:=λ_ _ σ H _ I h=>wpAny_Continue ⟨σ,H,I,h⟩
def Inv.quiet {w9:List (Addr×Obj)}{σ:St}{H:Hp}{s:Shared}(I:Inv X w9 σ H s):interactive X.env=false:=by simp[interactive,I.ok.kind]
abbrev tDrop.K0 (D:Ends) (σ:St) (u_0:V) (H1:Hp):Prop:=D.nx σ H1
def tDrop (te:TE):TS:=λD σ H=>te σ H (tDrop.K0 D σ)
def re (he:PE X e te)(hs:swapsWith e none pos.line X.env=pure false:=by rfl):PS X (.Expr e pos) (tDrop te):=by
 intro w9 s σ H D I h;exact wpAny_Expr_any (thn (he w9 s σ H _ I h) λv s1 ⟨x,H1,I1,r1,q1⟩=>⟨σ,H1,I1,q1⟩) I.quiet hs
def tRet (te:TE):TS:=λD σ H=>te σ H D.rt
def tP (he:PE X e te):PS X (.Return (some e) pos) (tRet te):=by
 intro w9 s σ H D I h;exact wpAny_Return_some (thn (he w9 s σ H _ I h) λv s1 ⟨x,H1,I1,r1,q1⟩=>⟨x,σ,H1,I1,r1,q1⟩)
abbrev tIfS.K0 (t:TS) (u:TS) (D:Ends) (σ:St) (b:Bool) (H1:Hp):Prop:=if b=true then t D σ H1 else u D σ H1
def tIfS (c:TT)(t u:TS):TS:=λD σ H=>c σ H (tIfS.K0 t u D σ)
def uX {c:Expr}{a b:List Stmt}{tc:TT}(hc:PT X c tc)(ha:PSs X a t)(hb:PSs X b u):PS X (.If c a b pos) (tIfS tc t u):=by
 intro w9 s σ H D I h;refine wpAny_If (thn (hc w9 s σ H _ I h) λd s1 ⟨H1,I1,q1⟩=>?_);cases d with
 |true=>exact ha w9 s1 σ H1 D I1 q1
 |false=>exact hb w9 s1 σ H1 D I1 q1
def qr:TS:=λ_ _ _=>False
def oO:PS X st qr:=λ_ _ _ _ _ _ h=>h.elim
end
abbrev TG:=V->St->Hp->(St->Hp->Prop)->Prop
abbrev TGs:=List V->St->Hp->(St->Hp->Prop)->Prop
def PG (X:Cx)(target:Expr)(t:TG):Prop:=
 ∀(w9:List (Addr×Obj)) (s:Shared) (σ:St) (H:Hp) (v:V) (u:Value) (Q:St->Hp->Prop),Inv X w9 σ H s->RelV v u->t v σ H Q →
  wpAny (model X.prog X.w) X.A (assign target X.env u) (λ_ s'=>∃σ' H',Inv X w9 σ' H' s'/\Q σ' H') X.xe s
def PGs (X:Cx)(ts:List Expr)(t:TGs):Prop:=
 ∀(w9:List (Addr×Obj)) (s:Shared) (σ:St) (H:Hp) (vs:List V) (us:List Value) (Q:St->Hp->Prop),Inv X w9 σ H s->Vals vs us->t vs σ H Q →
  wpAny (model X.prog X.w) X.A (assignInOrder ((assignEach ts X.env).map (·.2)) us) (λ_ s'=>∃σ' H',Inv X w9 σ' H' s'/\Q σ' H') X.xe s
abbrev TIp:=V->V->Hp->VK->Prop
def PIp (X:Cx)(op:Operator)(t:TIp):Prop:=
 ∀(w9:List (Addr×Obj)) (s:Shared) (σ:St) (H:Hp) (x y:V) (v u:Value) (Q:VK),Inv X w9 σ H s->RelV x v->RelV y u->t x y H Q →
  wpAny (model X.prog X.w) X.A (inplaceOp op v u) (EP X w9 σ Q) X.xe s
section
variable {X:Cx}{pos:Pos}
def al (i:Nat):TG:=λv σ H Q=>Q (σ.set i (some v)) H
def rg {i:Nat}{x:Str}(hN:X.N.Nodup)(hi:X.N[i]? = some x)(hx:Loc X.env.scope x)(hf:X.fn x=true ∨ X.env.scope.names.lookup x=some .local:=by first |exact .inl rfl |exact .inr rfl |assumption):PG X (.Name x pos) (al i):=by
 intro w9 s σ H v u Q I r h;exact wpAny_assign_Name (gQ I hN hi hx r (λs' I'=>⟨_,H,I',h⟩) hf)
inductive gNil (vs:List V)(σ:St)(H:Hp)(Q:(St->Hp->Prop)):Prop
 |mk (_:vs=[])(_:Q σ H)
inductive gCons (t:TG)(u:TGs)(vs:List V)(σ:St)(H:Hp)(Q:(St->Hp->Prop)):Prop
 |mk (v r)(_:vs=v::r)(_:t v σ H λσ' H'=>u r σ' H' Q)
def rh:PGs X [] gNil:=by
 intro w9 s σ H vs us Q I r h;obtain⟨e,h⟩:=h;subst e;cases r;exact assignInOrder_nil ⟨σ,H,I,h⟩
def oP {e:Expr}{es:List Expr}{t:TG}{u:TGs}(h1:PG X e t)(h2:PGs X es u)
  (hs:(assignEach (e::es) X.env).map (·.2)=assign e X.env::(assignEach es X.env).map (·.2):=by rfl):PGs X (e::es) (gCons t u):=by
 intro w9 s σ H vs us Q I r h;obtain⟨v,vr,e1,h⟩:=h;subst e1;cases r with
 |cons r rr=>
  rw[hs];refine assignInOrder_cons (thn (h1 w9 s σ H _ _ _ I r h) λ_ s1 ⟨σ1,H1,I1,q1⟩=>?_);exact h2 w9 s1 σ1 H1 _ _ Q I1 rr q1
inductive gTup (K:Frag)(n:Nat)(t:TGs)(v:V)(σ:St)(H:Hp)(Q:(St->Hp->Prop)):Prop
 |mk (a xs)(_:v = .ref a)(_:SqT K H a xs)(_:xs.length=n)(_:t xs σ H Q)
def tQ {es:List Expr}{k:Nat}{t:TGs}{n:Nat}(hc:X.calm=true)(h:PGs X es t)
  (hn:(assignEach es X.env).length=n:=by rfl) (hst:(assignEach es X.env).findIdx? (·.1)=none:=by rfl):PG X (.Tuple es k pos) (gTup X.K n t):=by
 intro w9 s σ H v u Q I r hw;obtain⟨a,xs,e1,hq,hl,hw⟩:=hw;subst e1;cases r;obtain⟨its,rv,ht,hz⟩:=I.tuple hq;refine assign_Tuple_tuple (I.ok.hd hc) ht (by simp[hn,<- hl,rv.length]) hst λh' hx=>?_;have I1:Inv X w9 σ H { s with heap:=h' }:=I.kept (t':=s.toks) λb o e=>hx b o (l30 (Heap.lt_size e)) e;exact h w9 _ σ H xs _ Q I1 (by simpa using rv) hw
abbrev tAsg.K0 (g:TG) (D:Ends) (σ:St) (x:V) (H1:Hp):Prop:=g x σ H1 D.nx
def tAsg (te:TE)(g:TG):TS:=λD σ H=>te σ H (tAsg.K0 g D σ)
def tR {tg e:Expr}{te:TE}{g:TG}(he:PE X e te)(hg:PG X tg g)(hs:swapsWithSole [tg] e pos.line X.env=pure false:=by rfl) (hw:swappedStores [tg] e X.env=pure none:=by rfl)
  (h1:(assignEach [tg] X.env).map (·.2)=[assign tg X.env]:=by rfl):PS X (.Assign [tg] e pos) (tAsg te g):=by
 intro w9 s σ H D I h;refine wpAny_Assign_stores (thn (he w9 s σ H _ I h) λv s1 ⟨x,H1,I1,r1,q1⟩=>?_) hs hw;rw[h1];exact thn (hg w9 s1 σ H1 x v _ I1 r1 q1) λ_ s2 q=>q
def tT {i:Nat}{x:Str}{e:Expr}{te:TE}{pos':Pos}(hN:X.N.Nodup)(hi:X.N[i]? = some x)(hx:Loc X.env.scope x)(he:PE X e te)(hs:swapsWith e (some (.Name x pos')) pos.line X.env=pure false:=by rfl) (hf:X.fn x=true ∨ X.env.scope.names.lookup x=some .local:=by first |exact .inl rfl |exact .inr rfl |assumption):
  PS X (.Assign [.Name x pos'] e pos) (tAsg te (al i)):=by
 intro w9 s σ H D I h;refine wpAny_Assign_Name (thn (he w9 s σ H _ I h) λv s1 ⟨y,H1,I1,r1,q1⟩=>?_) hs;exact gQ I1 hN hi hx r1 (λs2 I2=>⟨_,H1,I2,q1⟩) hf
inductive tAug (i:Nat)(te:TE)(ti:TIp)(D:Ends)(σ:St)(H:Hp):Prop
 |mk (x)(_:σ[i]? = some (some x))(_:te σ H λy H1=>ti x y H1 λz H2=>D.nx (σ.set i (some z)) H2)
def tU {i:Nat}{x:Str}{e:Expr}{te:TE}{op:Operator}{ti:TIp}{pos':Pos}(hN:X.N.Nodup)(hi:X.N[i]? = some x)(hx:Loc X.env.scope x)(he:PE X e te)(ho:PIp X op ti)(hf:X.fn x=true ∨ X.env.scope.names.lookup x=some .local:=by first |exact .inl rfl |exact .inr rfl |assumption):
  PS X (.AugAssign (.Name x pos') op e pos) (tAug i te ti):=by
 intro w9 s σ H D I h;obtain⟨v,e1,h⟩:=h;obtain⟨m,hn,hl⟩:=I.loc;have vis:Vis X.env.scope x:=by rcases hx with k |k;exact .inl k;exact .inr (.inl k)
 obtain⟨u,r,l⟩:=hl i x v hi e1 vis;refine wpAny_AugAssign_Name ?_;have go:wpAny (model X.prog X.w) X.A (eval e X.env) (λw s₂=>wpAny (model X.prog X.w) X.A (inplaceOp op u w) (λr s₃=>wpAny (model X.prog X.w) X.A (storeName X.env x r) (λ_=>SP X w9 D .next) X.xe s₃) X.xe s₂) X.xe s:=by
  refine thn (he w9 s σ H _ I h) λw s1 ⟨y,H1,I1,r1,q1⟩=>?_;refine thn (ho w9 s1 σ H1 v y u w _ I1 r r1 q1) λz s2 ⟨zv,H2,I2,r2,q2⟩=>?_;exact gQ I2 hN hi hx r2 (λs3 I3=>⟨_,H2,I3,q2⟩) hf
 rcases l with ⟨hk,hm⟩ |⟨hk,c,hc,w5⟩
 ·exact wpAny_loadName_local I.ok.kind hk hn hm go
 ·rcases hk with hk |hk
  ·exact wpAny_loadName_cell I.ok.kind hk hc w5 go
  ·rcases hx with k |k
   ·have:X.env.scope.names.lookup x=some .free:=hk;rw[k] at this;cases this
   ·have:X.env.scope.names.lookup x=some .free:=hk;rw[k] at this;cases this
inductive ipI (f:Int->Int->Int)(x y:V)(H:Hp)(Q:VK):Prop
 |mk (i j)(_:x = .int i)(_:y = .int j)(_:Q (.int (f i j)) H)
def fq:PIp X .Add (ipI λi j=>i+j):=by
 intro w9 s σ H x y v u Q I r1 r2 h;obtain⟨i,j,e1,e2,q⟩:=h;subst e1;subst e2;obtain⟨t,rfl⟩:=r1;obtain⟨t',rfl⟩:=r2;exact iadd_int ⟨.int _,H,I.tok _,⟨_,rfl⟩,q⟩
inductive tWhile (c:TT)(tb:TS)(D:Ends)(σ:St)(H:Hp):Prop
 |mk (W:Nat->St->Hp->Prop)(_:∃m,W m σ H)(_:∀m σ H,W m σ H->c σ H λb H1=>if b=true then ∃N:St->Hp->Prop,(∀σ' H',N σ' H'->∃m',m' < m/\W m' σ' H')/\tb { D with nx:=N,ct:=N,bk:=D.nx } σ H1 else D.nx σ H1)
def oQ {c:Expr}{body:List Stmt}{tc:TT}{tb:TS}(hp:PassesOwn (model X.prog X.w) X.A X.env X.xe)(hc:PT X c tc)(hb:PSs X body tb):PS X (.While c body [] pos) (tWhile tc tb):=by
 intro w9 s σ H D I h;obtain⟨W,⟨m0,w0⟩,turn⟩:=h;refine wpAny_While (codeAny_whileLoop (λn s'=>∃σ' H',Inv X w9 σ' H' s'/\W n σ' H') ?_ m0 ⟨σ,H,I,w0⟩);rintro n s1 ⟨σ1,H1,I1,w1⟩;refine wpAny_passesOwn hp (thn (hc w9 s1 σ1 H1 _ I1 (turn n σ1 H1 w1)) λb s2 ⟨H2,I2,q2⟩=>?_);cases b with
 |true=>
  obtain⟨N,hN,q2⟩:=q2;rw[if_pos rfl];refine wpAny_passesOwn hp (thn (hb w9 s2 σ1 H2 _ I2 q2) λf s3 q3=>?_);cases f with
  |next=>
   obtain⟨σ3,H3,I3,n3⟩:=q3;obtain⟨m',hm,w3⟩:=hN σ3 H3 n3;exact⟨m',hm,σ3,H3,I3,w3⟩
  |cont=>
   obtain⟨σ3,H3,I3,n3⟩:=q3;obtain⟨m',hm,w3⟩:=hN σ3 H3 n3;exact⟨m',hm,σ3,H3,I3,w3⟩
  |brk=>exact q3
  |ret v=>exact q3
 |false=>
  rw[if_neg Bool.false_ne_true];exact wpAny_execs_nil ⟨σ1,H2,I2,q2⟩
end
structure It where
 go:Nat->Hp->Prop
 yld:Nat->Hp->V->Hp->Prop
 stop:Nat->Hp->Prop
def FpOk (X:Cx)(w9:List (Addr×Obj))(H:Hp)(b:Addr):Prop:=
 H b=none/\b≠X.env.locals/\b∉X.fs/\(b∈X.ex ∨ X.s₀.heap.objs.size<=b)/\(∀x c,X.env.cells.lookup x=some c->c≠b)/\∀p∈X.pn++w9,p.1≠b
def Inv.fpOk {X:Cx}{w9:List (Addr×Obj)}{σ:St}{H H':Hp}{s:Shared}{b:Addr}(I:Inv X w9 σ H s)(hb:s.heap.objs.size<=b)(hn:H' b=none):FpOk X w9 H' b:=by
 refine⟨hn,l66 (l28 I.lt hb),I.nofs hb, .inr (l11 I.sz hb),λx c e z=>?_,λp hp z=>?_⟩
 ·obtain⟨v,q⟩:=I.cell x c e;exact absurd (l28 q.lt (by rw[z];exact hb)) (l37 _)
 ·exact absurd (l28 (Heap.lt_size (I.pin p hp).1) (by rw[z];exact hb)) (l37 _)
structure Turn (P:Program)(w:World)(K:Frag)(tg:Expr)(J:It)(fp:List Addr)(it:Addr)(tn:Nat->Heap->Prop):Prop where
 mem:it∈fp
 obj:∀i h,tn i h->∀b∈fp,∃o,h.get? b=some o/\∀v,o.data ≠ .cell v
 keep:∀i h h',tn i h->(∀b∈fp,∀o,h.get? b=some o->h'.get? b=some o)->tn i h'
 item:∀(X:Cx),X.prog=P->X.w=w->X.K=K->X.calm=true->∀(i:Nat) (w9:List (Addr×Obj)) (s:Shared) (σ:St) (H:Hp) (E:Value->Shared->Prop),Inv X w9 σ H s->(∀b∈fp,FpOk X w9 H b)->tn i s.heap->J.go i H →
  wpAny (model P w) X.A (pyNext (.ref it)) (λr s1=>∃u,r=some u ∧
   wpAny (model P w) X.A (letOwnedTupleGo tg (.ref it) u) (λ_ s2=>∃x H',Inv X w9 σ H' s2/\RelV x u/\J.yld i H x H'/\tn (i+1) s2.heap/\∀b∈fp,H' b=none) E s1) E s
 done:∀(X:Cx),X.prog=P->X.w=w->X.K=K->X.calm=true->∀(i:Nat) (w9:List (Addr×Obj)) (s:Shared) (σ:St) (H:Hp) (E:Value->Shared->Prop),Inv X w9 σ H s->(∀b∈fp,FpOk X w9 H b)->tn i s.heap->J.stop i H →
  wpAny (model P w) X.A (pyNext (.ref it)) (λr s1=>r=none/\Inv X w9 σ H s1) E s
 self:∀(A:Around) (i:Nat) (s:Shared) (Q:Value->Shared->Prop) (E:Value->Shared->Prop),tn i s.heap->Q (.ref it) s->wpAny (model P w) A (pyIter (.ref it)) Q E s
abbrev TI:=St->Hp->(It->Hp->Prop)->Prop
inductive PIE (X:Cx)(w9:List (Addr×Obj))(σ:St)(tg:Expr)(R:It->Hp->Prop)(itv:Value)(s2:Shared):Prop
 |mk (it:Addr)(fp:List Addr)(tn:Nat->Heap->Prop)(J:It)(H':Hp)(_:itv = .ref it)(_:Inv X w9 σ H' s2)(_:Turn X.prog X.w X.K tg J fp it tn)(_:tn 0 s2.heap)(_:∀b∈fp,FpOk X w9 H' b)(_:R J H')
def PI (X:Cx)(tg iter:Expr)(wi:TI):Prop:=
 ∀(w9:List (Addr×Obj)) (s:Shared) (σ:St) (H:Hp) (R:It->Hp->Prop),Inv X w9 σ H s->wi σ H R →
  wpAny (model X.prog X.w) X.A (eval iter X.env) (λv s1=>wpAny (model X.prog X.w) X.A (pyIter v) (PIE X w9 σ tg R) X.xe s1) X.xe s
def tV {M:Model}{A:Around}{E:Value->Shared->Prop}{s:Shared}{tg:Expr}{it:Addr}{u:Value}{o:Obj}{n:String}{vs:Array Value}{Q:Unit->Shared->Prop}(ho:s.heap.get? it=some o)(hc:o.cls = .type n)(hd:o.data = .fields vs)
  (hn:["enumerate","zip","dict_itemiterator","dict_reverseitemiterator","odict_iterator","itertools.zip_longest","itertools.pairwise"].contains n=false)(hQ:Q () s):wpAny M A (letOwnedTupleGo tg (.ref it) u) Q E s:=by
 unfold letOwnedTupleGo;cases tg <;> first
  |exact wpAny_pure hQ
  | (cases u <;> first
    |exact wpAny_pure hQ
    | (refine wpAny_bind (wpAny_load ho ?_)
       rw[hc,hd];show wpAny M A (if (["enumerate","zip","dict_itemiterator","dict_reverseitemiterator","odict_iterator","itertools.zip_longest","itertools.pairwise"].contains n&&vs[0]? == some (rawInt _))=true then _ else _) Q E s;rw[if_neg (by intro h;rw[hn,Bool.false_and] at h;cases h)];exact wpAny_pure hQ))
def Itl (K:Frag)(a:Addr):It:=
 ⟨λi H=>∃xs x,SqL K H a xs/\xs[i]? = some x,λi H x H'=>H'=H/\∀xs,SqL K H a xs->xs[i]? = some x,λi H=>∃xs,SqL K H a xs/\xs.length<=i⟩
def Itr (lo:Int)(n:Nat):It:=⟨λi _=>i < n,λi H x H'=>H'=H/\x = .int (lo+i),λi _=>n<=i⟩
def mq {P:Program}{w:World}{K:Frag}{tg:Expr}(a it:Addr):Turn P w K tg (Itl K a) [it] it (λi h=>h.IsListIter it a i) where
 mem:=by simp
 obj:=λi h st b hb=>by
  have e:b=it:=by simpa using hb
  subst e;obtain⟨o,e,c,d⟩:=st;exact⟨o,e,λv z=>by rw[d] at z;cases z⟩
 keep:=λi h h' st k=>st.at λo e=>k it (by simp) o e
 item:=by
  intro X hP hw hK hc i w9 s σ H E I hf st hg;subst hP hw hK;obtain⟨xs,x,hq,hx⟩:=hg;obtain⟨its,rv,p,hz⟩:=I.list hq;obtain⟨u,hu,ru⟩:=rv.get hx;obtain⟨f0,f1,f2,f3,f4,f5⟩:=hf it (by simp);refine wpAny_pyNext_list_item st p.isList (x:=u) (by simpa using hu) λh' st' sb=>?_;have I1:Inv X w9 σ H { s with heap:=h' }:=I.turned (t':=s.toks) (λb o hb e=>(sb.2 b hb).trans e) f0 f1 f3 f4 f5;obtain⟨o,e,c,d⟩:=id st';exact⟨u,rfl,tV (s:={ s with heap:=h' }) e c d ∅ ⟨x,H,I1,ru,⟨rfl,λys hy=>by rw[I.list_inj hy hq];exact hx⟩,st',λb hb=>(hf b hb).1⟩⟩
 done:=by
  intro X hP hw hK hc i w9 s σ H E I hf st hg;subst hP hw hK;obtain⟨xs,hq,hx⟩:=hg;obtain⟨its,rv,p,hz⟩:=I.list hq;obtain⟨f0,f1,f2,f3,f4,f5⟩:=hf it (by simp);have hl:=rv.length;exact wpAny_pyNext_list_end (I.ok.hd hc) st p.isList (by simp;omega) λh' eb=>⟨rfl,I.turned (t':=s.toks) (λb o hb e=>eb b o hb e) f0 f1 f3 f4 f5⟩
 self:=λ_ _ _ _ _ st h=>wpAny_pyIter_listiter st h
def lB {P:Program}{w:World}{K:Frag}{tg:Expr}(it:Addr)(lo:Int)(n:Nat):Turn P w K tg (Itr lo n) [it] it (λi h=>IsRangeIter h it (lo+(i:Nat) * 1) ((n:Int) - (i:Nat)) 1) where
 mem:=by simp
 obj:=λi h st b hb=>by
  have e:b=it:=by simpa using hb
  subst e;exact ⟨_,st,λv z=>by
   have z':Data.fields _=Data.cell v:=z;cases z'⟩
 keep:=λi h h' st k=>k it (by simp) _ st
 item:=by
  intro X hP hw hK hc i w9 s σ H E I hf st hg;subst hP hw hK;obtain⟨f0,f1,f2,f3,f4,f5⟩:=hf it (by simp);have W:=Walks.range (prog:=X.prog) (w:=X.w) (I.ok.hd hc) it lo 1 n;refine wpAny_with_toks (n:=1) I.tk (W.item i s _ _ hg st λv h' tk hv st' kk htk=>?_);obtain⟨t,rfl⟩:=hv;have htk:0 < tk:=htk;have I1:Inv X w9 σ H { s with heap:=h',toks:=tk }:=I.turned (λb o hb e=>kk b o (by simpa using hb) e) f0 f1 f3 f4 f5;refine⟨_,rfl,tV (s:={ s with heap:=h',toks:=tk }) (n:="range_iterator") st' rfl rfl ∅ ⟨.int (lo+i),H,I1,⟨t,?_⟩,⟨rfl,rfl⟩,st',λb hb=>(hf b hb).1⟩⟩;rw[Int.mul_one]
 done:=by
  intro X hP hw hK hc i w9 s σ H E I hf st hg;subst hP hw hK;obtain⟨f0,f1,f2,f3,f4,f5⟩:=hf it (by simp);exact wpAny_pyNext_range_end (I.ok.hd hc) st (by have:n<=i:=hg;omega) λh' eb=>⟨rfl,I.turned (t':=s.toks) (λb o hb e=>eb b o hb e) f0 f1 f3 f4 f5⟩
 self:=λ_ _ _ _ _ st h=>wpAny_pyIter_rangeiter st h
section
variable {X:Cx}{tg:Expr}
inductive iList.I (K:Frag)(R:(It->Hp->Prop))(x:V)(H1:Hp):Prop
 |mk (a)(_:x = .ref a)(_:∃xs,SqL K H1 a xs)(_:R (Itl K a) H1)
def iList (K:Frag)(tl:TE):TI:=λσ H R=>tl σ H (iList.I K R)
def ri {l:Expr}{tl:TE}(hl:PE X l tl):PI X tg l (iList X.K tl):=by
 intro w9 s σ H R I h;refine thn (hl w9 s σ H _ I h) λv s1 ⟨x,H1,I1,r1,q1⟩=>?_;obtain⟨a,e,⟨xs,hq⟩,q⟩:=q1;subst e;cases r1;obtain⟨its,rv,p,hz⟩:=I1.list hq;refine wpAny_pyIter_list p.isList ?_;refine⟨s1.heap.objs.size,[s1.heap.objs.size],_,_,H1,rfl,I1.kept (t':=s1.toks) λb o e=>Heap.get?_push_of_some _ e,mq a _,⟨_,Heap.get?_push_size _ rfl,rfl,rfl⟩,λb hb=>?_,q⟩;have e:b=s1.heap.objs.size:=by simpa using hb
 subst e;exact I1.fpOk (l5 _) (I1.hok.fresh (l5 _))
def oR {w9:List (Addr×Obj)}{σ:St}{H:Hp}{s:Shared}{R:It->Hp->Prop}{E:Value->Shared->Prop}{lo hi:Int}{t u v:Tok}{tk:Nat}(htk:0 < tk)(I:Inv X w9 σ H s) (h1 : -(2 ^ 62)<=lo)(h2:lo < 2 ^ 62) (h3 : -(2 ^ 62)<=hi)(h4:hi < 2 ^ 62)
  (q:R (Itr lo (hi - lo).toNat) H):wpAny (model X.prog X.w) X.A (pyIter (.ref s.heap.objs.size)) (PIE X w9 σ tg R) E { s with heap:=s.heap.push { cls := .type "range",data := .fields #[.int lo t, .int hi u, .int 1 v] },toks:=tk }:=by
 refine wpAny_pyIter_range (IsRange.new ..) (small_one h1 h2 h3 h4) ?_;have I1:Inv X w9 σ H { s with heap:=s.heap.push { cls := .type "range",data := .fields #[.int lo t, .int hi u, .int 1 v] },toks:=tk }:=I.kept λb o e=>Heap.get?_push_of_some _ e;refine ⟨(s.heap.push { cls := .type "range",data := .fields #[.int lo t, .int hi u, .int 1 v] }).objs.size,[(s.heap.push { cls := .type "range",data := .fields #[.int lo t, .int hi u, .int 1 v] }).objs.size],_,_,H,rfl,
  I1.kept (t':=tk) λb o e=>Heap.get?_push_of_some _ e,lB _ lo (hi - lo).toNat,?_,λb hb=>?_,q⟩
 ·have e1:lo+((0:Nat):Int) * 1=lo:=by simp
  have e2:(((hi - lo).toNat:Nat):Int) - ((0:Nat):Int)=Builtin.Range.rangeSize lo hi 1:=by rw[rangeSize_one];split <;> omega
  show IsRangeIter _ _ (lo+((0:Nat):Int) * 1) ((((hi - lo).toNat:Nat):Int) - ((0:Nat):Int)) 1;rw[e1,e2];exact Heap.get?_push_size _ rfl
 ·have e:b=(s.heap.push { cls := .type "range",data := .fields #[.int lo t, .int hi u, .int 1 v] }).objs.size:=by simpa using hb
  subst e;exact I1.fpOk (l5 _) (I1.hok.fresh (l5 _))
inductive iRng1.I (R:(It->Hp->Prop))(vs:List V)(H1:Hp):Prop
 |mk (j:Int)(_:vs=[.int j])(_:-(2 ^ 62)<=j)(_:j < 2 ^ 62)(_:R (Itr 0 j.toNat) H1)
def iRng1 (ta:TA):TI:=λσ H R=>ta σ H (iRng1.I R)
def mr {a:Expr}{ta:TA}{p pos:Pos}(hg:Gl X "range")(hm:X.mg "range"=none)(ha:PA X [a] ta)(hs:starEach [a] X.env=[(false,eval a X.env)]:=by rfl):PI X tg (.Call (.Name "range" p) [a] [] pos) (iRng1 ta):=by
 intro w9 s σ H R I h;refine Call_ (iP I hg hm boot_range (callWith_type1 (thn (ha pos w9 s σ H _ I h) λus s1 ⟨vs,H1,I1,r1,q1⟩=>?_) hs rfl));obtain⟨j,e,q1,q2,q⟩:=q1;subst e;cases r1 with
 |cons r rr=>
  cases rr;obtain⟨t,rfl⟩:=r;exact call_range_1 (oR (by first |exact I1.tk |exact l33 _) I1 nofun nofun q1 q2 (by simpa using q))
abbrev tFor.K0 (g:TG) (tb:TS) (D:Ends) (σ:St) (J:It) (H1:Hp):Prop:=∃W:Nat->Nat->St->Hp->Prop,(∃m,W 0 m σ H1)/\∀i m σ H,W i m σ H->(J.stop i H/\D.nx σ H) ∨ (J.go i H/\∃N:St->Hp->Prop,(∀σ' H',N σ' H'->∃m',m' < m/\W (i+1) m' σ' H')/\∀x H',J.yld i H x H'->g x σ H' λσ2 H2=>tb { D with nx:=N,ct:=N,bk:=D.nx } σ2 H2)
def tFor (wi:TI)(g:TG)(tb:TS):TS:=λD σ H=>wi σ H (tFor.K0 g tb D σ)
def gv (fp:List Addr)(h:Heap):List (Addr×Obj):=fp.filterMap λb=>(h.get? b).map λo=>(b,o)
def cA {fp:List Addr}{h:Heap}{b:Addr}{o:Obj}(hb:b∈fp)(e:h.get? b=some o):(b,o)∈gv fp h:=List.mem_filterMap.mpr ⟨b,hb,by rw[e];rfl⟩
def mt {fp:List Addr}{h:Heap}{p:Addr×Obj}(hp:p∈gv fp h):p.1∈fp/\h.get? p.1=some p.2:=by
 obtain⟨b,hb,e⟩:=List.mem_filterMap.mp hp;cases q:h.get? b with
 |none=>rw[q] at e;cases e
 |some o=>
  rw[q] at e;have e':(b,o)=p:=Option.some.inj e;subst e';exact⟨hb,q⟩
def Inv.pinned {w9:List (Addr×Obj)}{σ:St}{H:Hp}{s:Shared}{fp:List Addr}(I:Inv X w9 σ H s)(hf:∀b∈fp,FpOk X w9 H b)(ho:∀b∈fp,∃o,s.heap.get? b=some o/\∀v,o.data ≠ .cell v):Inv X (w9++gv fp s.heap) σ H s:=
 I.pins_of λp hp=>(l20.mp hp).elim (λz=>I.pin p (l31 _ z)) λz=>by
  obtain⟨hb,e⟩:=mt z;obtain⟨f0,f1,f2,_⟩:=hf p.1 hb;obtain⟨o,e',d⟩:=ho p.1 hb;rw[e] at e';cases e';exact⟨e,f0,f1,f2,d⟩
def Inv.unpinned {w9 pl:List (Addr×Obj)}{σ:St}{H:Hp}{s:Shared}(I:Inv X (w9++pl) σ H s):Inv X w9 σ H s:=I.pins_of λp hp=>I.pin p (l31 _ (l47 _ hp))
def tW {iter:Expr}{body:List Stmt}{wi:TI}{g:TG}{tb:TS}{pos:Pos}(hp:PassesOwn (model X.prog X.w) X.A X.env X.xe)(hc:X.calm=true)(hi:PI X tg iter wi)(hg:PG X tg g)(hb:PSs X body tb)
  (hs:∀x,foldedSetIterable iter X.env x=pure x:=by intro _;rfl):PS X (.For tg iter body [] pos) (tFor wi g tb):=by
 intro w9 s σ H D I h;refine wpAny_For (thn (hi w9 s σ H _ I h) λv s1 h1=>thn h1 λitv s2 h2=>?_) hs;obtain⟨it,fp,tn,J,H2,e,I2,T,st2,f2,W,⟨m0,w0⟩,turn⟩:=h2;subst e;have stat:∀{H':Hp},(∀b∈fp,H' b=none)->∀b∈fp,FpOk X w9 H' b:=λhn b hb=>⟨hn b hb,(f2 b hb).2⟩;refine codeAny_forLoop_any (λn s'=>∃i σ' H',Inv X w9 σ' H' s'/\tn i s'.heap/\(∀b∈fp,H' b=none)/\W i n σ' H') ?_ m0 ⟨0,σ,H2,I2,st2,λb hb=>(f2 b hb).1,w0⟩;rintro n s3 ⟨i,σ3,H3,I3,st3,fr3,w3⟩;rcases turn i n σ3 H3 w3 with ⟨stop,qn⟩ |⟨go,N,hN,step⟩
 ·refine wpAny_passesOwn hp (thn (T.done X rfl rfl rfl hc i w9 s3 σ3 H3 X.xe I3 (stat fr3) st3 stop) λr s4 ⟨hr,I4⟩=>?_);subst hr;exact wpAny_execs_nil ⟨σ3,H3,I4,qn⟩
 ·refine wpAny_passesOwn hp (thn (T.item X rfl rfl rfl hc i w9 s3 σ3 H3 X.xe I3 (stat fr3) st3 go) λr s4 ⟨u,hr,h4⟩=>?_);subst hr;refine wpAny_passesOwn hp (thn h4 λ_ s5 ⟨x,H5,I5,r5,y5,st5,fr5⟩=>?_);have I5':=I5.pinned (stat fr5) (T.obj _ _ st5);refine wpAny_passesOwn hp (thn (hg _ s5 σ3 H5 x u _ I5' r5 (step x H5 y5)) λ_ s6 ⟨σ6,H6,I6,q6⟩=>?_);refine wpAny_passesOwn hp (thn (hb _ s6 σ6 H6 _ I6 q6) λf s7 q7=>?_);have again:∀{σ7:St} {H7:Hp},Inv X (w9++gv fp s5.heap) σ7 H7 s7->N σ7 H7->∃m,m < n/\∃i σ' H',Inv X w9 σ' H' s7/\tn i s7.heap/\(∀b∈fp,H' b=none)/\W i m σ' H':=λ{σ7 H7} I7 n7=>by
   obtain⟨m',hm,w7⟩:=hN σ7 H7 n7;refine⟨m',hm,i+1,σ7,H7,I7.unpinned,T.keep _ _ _ st5 λb hb o e=>(I7.pin (b,o) (l31 _ (l31 _ (cA hb e)))).1,λb hb=>?_,w7⟩;obtain⟨o,e,d⟩:=T.obj _ _ st5 b hb;exact(I7.pin (b,o) (l31 _ (l31 _ (cA hb e)))).2.1
  cases f with
  |next=>obtain⟨σ7,H7,I7,n7⟩:=q7;exact again I7 n7
  |cont=>obtain⟨σ7,H7,I7,n7⟩:=q7;exact again I7 n7
  |brk=>obtain⟨σ7,H7,I7,q7⟩:=q7;exact⟨σ7,H7,I7.unpinned,q7⟩
  |ret v=>obtain⟨x7,σ7,H7,I7,r7,q7⟩:=q7;exact⟨x7,σ7,H7,I7.unpinned,r7,q7⟩
end
def cC {K:Frag}{a:Addr}{xs:List V}{g:TG}{tb:TS}{D:Ends}{σ:St}{H:Hp}(Pv:Nat->St->Hp->Prop)(h0:Pv 0 σ H)(hl:∀i σ H,i<=xs.length->Pv i σ H->SqL K H a xs)
  (hs:∀i x σ H,xs[i]? = some x->Pv i σ H->g x σ H λσ2 H2=>tb { D with nx:=Pv (i+1),ct:=Pv (i+1),bk:=D.nx } σ2 H2) (hd:∀σ H,Pv xs.length σ H->D.nx σ H):
  ∃W:Nat->Nat->St->Hp->Prop,(∃m,W 0 m σ H)/\∀i m σ H,W i m σ H →
   ((Itl K a).stop i H/\D.nx σ H) ∨ ((Itl K a).go i H/\∃N:St->Hp->Prop,(∀σ' H',N σ' H'->∃m',m' < m/\W (i+1) m' σ' H')/\∀x H',(Itl K a).yld i H x H'->g x σ H' λσ2 H2=>tb { D with nx:=N,ct:=N,bk:=D.nx } σ2 H2):=by
 refine⟨λi m σ H=>m=xs.length - i/\i<=xs.length/\Pv i σ H,⟨xs.length,by simp,l12 _,h0⟩,?_⟩;rintro i m σ H ⟨rfl,hi,p⟩;have q:=hl i σ H hi p;by_cases hlt:i < xs.length
 ·refine .inr ⟨⟨xs,xs[i],q,by simp[hlt]⟩,Pv (i+1),λσ' H' p'=>⟨xs.length - (i+1),by omega,rfl,hlt,p'⟩,λx H' y=>?_⟩;obtain⟨e,y⟩:=y;subst e;exact hs i x σ _ (y xs q) p
 ·have e:i=xs.length:=by omega
  subst e;exact .inl ⟨⟨xs,q,l5 _⟩,hd σ H p⟩
def ft {lo:Int}{n:Nat}{g:TG}{tb:TS}{D:Ends}{σ:St}{H:Hp}(Pv:Nat->St->Hp->Prop)(h0:Pv 0 σ H)
  (hs:∀i σ H,i < n->Pv i σ H->g (.int (lo+i)) σ H λσ2 H2=>tb { D with nx:=Pv (i+1),ct:=Pv (i+1),bk:=D.nx } σ2 H2) (hd:∀σ H,Pv n σ H->D.nx σ H):
  ∃W:Nat->Nat->St->Hp->Prop,(∃m,W 0 m σ H)/\∀i m σ H,W i m σ H →
   ((Itr lo n).stop i H/\D.nx σ H) ∨ ((Itr lo n).go i H/\∃N:St->Hp->Prop,(∀σ' H',N σ' H'->∃m',m' < m/\W (i+1) m' σ' H')/\∀x H',(Itr lo n).yld i H x H'->g x σ H' λσ2 H2=>tb { D with nx:=N,ct:=N,bk:=D.nx } σ2 H2):=by
 refine⟨λi m σ H=>m=n - i/\i<=n/\Pv i σ H,⟨n,by simp,l12 _,h0⟩,?_⟩;rintro i m σ H ⟨rfl,hi,p⟩;by_cases hlt:i < n
 ·refine .inr ⟨hlt,Pv (i+1),λσ' H' p'=>⟨n - (i+1),by omega,rfl,hlt,p'⟩,λx H' y=>?_⟩;obtain⟨e,y⟩:=y;subst e y;exact hs i σ _ hlt p
 ·have e:i=n:=by omega
  subst e;exact .inl ⟨l5 _,hd σ H p⟩
abbrev R2:=V->V->Hp->VK->Prop
def OpR (X:Cx)(f:Value->Value->Sem Value)(r:R2):Prop:=
 ∀(w9:List (Addr×Obj)) (s:Shared) (σ:St) (H:Hp) (x y:V) (v u:Value) (Q:VK),Inv X w9 σ H s->RelV x v->RelV y u->r x y H Q →
  wpAny (model X.prog X.w) X.A (f v u) (EP X w9 σ Q) X.xe s
def UnR (X:Cx)(f:Value->Sem Value)(r:V->Hp->VK->Prop):Prop:=
 ∀(w9:List (Addr×Obj)) (s:Shared) (σ:St) (H:Hp) (x:V) (v:Value) (Q:VK),Inv X w9 σ H s->RelV x v->r x H Q →
  wpAny (model X.prog X.w) X.A (f v) (EP X w9 σ Q) X.xe s
def cV (X:Cx)(f:Value)(r:List V->Hp->VK->Prop):Prop:=
 ∀(w9:List (Addr×Obj)) (s:Shared) (σ:St) (H:Hp) (xs:List V) (us:List Value) (Q:VK),Inv X w9 σ H s->Vals xs us->r xs H Q →
  wpAny (model X.prog X.w) X.A (call f us) (EP X w9 σ Q) X.xe s
def TruR (X:Cx)(r:V->Hp->(Bool->Hp->Prop)->Prop):Prop:=
 ∀(w9:List (Addr×Obj)) (s:Shared) (σ:St) (H:Hp) (x:V) (v:Value) (Q:Bool->Hp->Prop),Inv X w9 σ H s->RelV x v->r x H Q →
  wpAny (model X.prog X.w) X.A (truthy v) (TP X w9 σ Q) X.xe s
abbrev tOp.K1 (r:R2) (Q:VK) (x:V) (y:V) (H2:Hp):Prop:=r x y H2 Q
abbrev tOp.K0 (r:R2) (tb:TE) (σ:St) (Q:VK) (x:V) (H1:Hp):Prop:=tb σ H1 (tOp.K1 r Q x)
def tOp (r:R2)(ta tb:TE):TE:=λσ H Q=>ta σ H (tOp.K0 r tb σ Q)
abbrev tUn.K0 (r:V->Hp->VK->Prop) (Q:VK) (x:V) (H1:Hp):Prop:=r x H1 Q
def tUn (r:V->Hp->VK->Prop)(ta:TE):TE:=λσ H Q=>ta σ H (tUn.K0 r Q)
inductive rI (C:Int->Int->Prop)(g:Int->Int->V)(x y:V)(H:Hp)(Q:VK):Prop
 |mk (i j)(_:x = .int i)(_:y = .int j)(_:C i j)(_:Q (g i j) H)
inductive rI0 (g:Int->Int->V)(x y:V)(H:Hp)(Q:VK):Prop
 |mk (i j)(_:x = .int i)(_:y = .int j)(_:Q (g i j) H)
inductive rU (g:Int->V)(x:V)(H:Hp)(Q:VK):Prop
 |mk (i)(_:x = .int i)(_:Q (g i) H)
section
variable {X:Cx}{a b c:Expr}{ta tb tc:TE}{pos:Pos}
def binT (ha:PE X a ta)(hb:PE X b tb){w9:List (Addr×Obj)}{s:Shared}{σ:St}{H:Hp}{R:V->V->Hp->Prop}(I:Inv X w9 σ H s)
  (h:ta σ H λx H1=>tb σ H1 λy H2=>R x y H2){Q:Value->Shared->Prop}{f:Value->Value->Sem Value}
  (hf:∀v u s2 x y H2,Inv X w9 σ H2 s2->RelV x v->RelV y u->R x y H2->wpAny (model X.prog X.w) X.A (f v u) Q X.xe s2):
  wpAny (model X.prog X.w) X.A (eval a X.env) (λv s₁=>wpAny (model X.prog X.w) X.A (eval b X.env) (λu s₂=>wpAny (model X.prog X.w) X.A (f v u) Q X.xe s₂) X.xe s₁) X.xe s:=by
 refine thn (ha w9 s σ H _ I h) λv s1 ⟨x,H1,I1,r1,q1⟩=>?_;refine thn (hb w9 s1 σ H1 _ I1 q1) λu s2 ⟨y,H2,I2,r2,q2⟩=>?_;exact hf v u s2 x y H2 I2 r1 r2 q2
def uY {op:Operator}{r:R2}(ho:OpR X (binaryOp op) r)(ha:PE X a ta)(hb:PE X b tb):PE X (.BinOp a op b pos) (tOp r ta tb):=by
 intro w9 s σ H Q I h;exact wpAny_BinOp (binT ha hb I h λv u s2 x y H2 I2 rx ry q=>ho w9 s2 σ H2 x y v u Q I2 rx ry q)
def tX {op:UnaryOp}{r:V->Hp->VK->Prop}(ho:UnR X (unaryOp op) r)(ha:PE X a ta):PE X (.UnaryOp op a pos) (tUn r ta):=by
 intro w9 s σ H Q I h;exact UnaryOp_ (thn (ha w9 s σ H _ I h) λv s1 ⟨x,H1,I1,r1,q1⟩=>ho w9 s1 σ H1 x v Q I1 r1 q1)
def opI {f:Value->Value->Sem Value}{C:Int->Int->Prop}{g:Int->Int->Int}
  (rule:∀(i j:Int)(t u:Tok)(s:Shared)(Q:Value->Shared->Prop)(E:Value->Shared->Prop),C i j->Q (.int (g i j) s.toks) { s with toks:=s.toks+1 }->wpAny (model X.prog X.w) X.A (f (.int i t) (.int j u)) Q E s):
  OpR X f (rI C λi j => .int (g i j)):=by
 intro w9 s σ H x y v u Q I rx ry h;obtain⟨i,j,rfl,rfl,hc,q⟩:=h;obtain⟨t,rfl⟩:=rx;obtain⟨t',rfl⟩:=ry;exact rule i j t t' s _ _ hc ⟨.int (g i j),H,I.tok _,⟨_,rfl⟩,q⟩
def opI0 {f:Value->Value->Sem Value}{g:Int->Int->Int}
  (rule:∀(i j:Int)(t u:Tok)(s:Shared)(Q:Value->Shared->Prop)(E:Value->Shared->Prop),Q (.int (g i j) s.toks) { s with toks:=s.toks+1 }->wpAny (model X.prog X.w) X.A (f (.int i t) (.int j u)) Q E s):
  OpR X f (rI0 λi j => .int (g i j)):=by
 intro w9 s σ H x y v u Q I rx ry h;obtain⟨i,j,rfl,rfl,q⟩:=h;obtain⟨t,rfl⟩:=rx;obtain⟨t',rfl⟩:=ry;exact rule i j t t' s _ _ ⟨.int (g i j),H,I.tok _,⟨_,rfl⟩,q⟩
def opB0 {f:Value->Value->Sem Value}{g:Int->Int->Bool}
  (rule:∀(i j:Int)(t u:Tok)(s:Shared)(Q:Value->Shared->Prop)(E:Value->Shared->Prop),Q (.bool (g i j)) s->wpAny (model X.prog X.w) X.A (f (.int i t) (.int j u)) Q E s):
  OpR X f (rI0 λi j => .bl (g i j)):=by
 intro w9 s σ H x y v u Q I rx ry h;obtain⟨i,j,rfl,rfl,q⟩:=h;obtain⟨t,rfl⟩:=rx;obtain⟨t',rfl⟩:=ry;exact rule i j t t' s _ _ ⟨.bl (g i j),H,I,rfl,q⟩
def CDiv (i j:Int):Prop:=0 < j/\j < 1073741824
def CMul (i j:Int):Prop:=(-(2 ^ 64) < i/\i < 2 ^ 64) ∨ (-(2 ^ 64) < j/\j < 2 ^ 64)
def CMul.ok {i j:Int}(h:CMul i j):IntMulOk i j:=by
 rcases h with ⟨h1,h2⟩ |⟨h1,h2⟩
 ·exact .of_left (intBits_le_64 h1 h2)
 ·exact .of_right (intBits_le_64 h1 h2)
def av:OpR X (binaryOp .Add) (rI0 λi j => .int (i+j)):=opI0 λ_ _ _ _ _ _ _ q=>add_int q
def bM:OpR X (binaryOp .Sub) (rI0 λi j => .int (i - j)):=opI0 λ_ _ _ _ _ _ _ q=>sub_int q
def iQ:OpR X (binaryOp .Mult) (rI CMul λi j => .int (i * j)):=opI λ_ _ _ _ _ _ _ hc q=>mul_int q hc.ok
def dW:OpR X (binaryOp .FloorDiv) (rI CDiv λi j => .int (i / j)):=opI λi j _ _ _ _ _ hc q=>by
 have h1:(0:Int) < j:=hc.1;have h2:j < 1073741824:=hc.2;exact floordiv_int nofun (by rw[Int.fdiv_eq_ediv_of_nonneg i nofun];exact q) (.inl (PyProof.noPylong_small nofun))
def cU:OpR X (binaryOp .Mod) (rI (λ_ j=>0 < j) λi j => .int (i % j)):=opI λi j _ _ _ _ _ hc q=>by
 have h1:(0:Int) < j:=hc;exact mod_int' nofun (by rw[Int.fmod_eq_emod_of_nonneg i nofun];exact q)
def unI {f:Value->Sem Value}{g:Int->Int}
  (rule:∀(i:Int)(t:Tok)(s:Shared)(Q:Value->Shared->Prop)(E:Value->Shared->Prop),Q (.int (g i) s.toks) { s with toks:=s.toks+1 }->wpAny (model X.prog X.w) X.A (f (.int i t)) Q E s):
  UnR X f (rU λi => .int (g i)):=by
 intro w9 s σ H x v Q I rx h;obtain⟨i,rfl,q⟩:=h;obtain⟨t,rfl⟩:=rx;exact rule i t s _ _ ⟨.int (g i),H,I.tok _,⟨_,rfl⟩,q⟩
def gw:UnR X (unaryOp .USub) (rU λi => .int (-i)):=unI λ_ _ _ _ _ q=>neg_int q
end
def scal:V->V->Bool
 | .non, .non=>true | .non, .int _=>true | .int _, .non=>true | .non, .bl _=>true | .bl _, .non=>true | .non, .str _=>true | .str _, .non=>true
 | .int _, .int _=>true | .bl _, .bl _=>true | .str _, .str _=>true | .byt _, .byt _=>true
 | .int _, .str _=>true | .str _, .int _=>true | .bl _, .str _=>true | .str _, .bl _=>true
 |_,_=>false
inductive rEq (x y:V)(H:Hp)(Q:VK):Prop
 |mk (_:scal x y=true)(_:Q (.bl (decide (x=y))) H)
inductive rNe (x y:V)(H:Hp)(Q:VK):Prop
 |mk (_:scal x y=true)(_:Q (.bl (!decide (x=y))) H)
def jL {i j:Int}:decide (V.int i=V.int j)=(i==j):=by
 rw[Bool.eq_iff_iff];simp
def qt {i j:Bool}:decide (V.bl i=V.bl j)=(i==j):=by
 rw[Bool.eq_iff_iff];simp
def mv {i j:Str}:decide (V.str i=V.str j)=(i==j):=by
 rw[Bool.eq_iff_iff];simp
def mw {i j:Array UInt8}:decide (V.byt i=V.byt j)=(i.toList==j.toList):=by
 rw[Bool.eq_iff_iff];cases i;cases j;simp
section
variable {X:Cx}{a b c:Expr}{ta tb tc:TE}{pos:Pos}
def aJ {w9:List (Addr×Obj)}{σ:St}{H:Hp}{s:Shared}{Q:VK}{k k':Bool}(I:Inv X w9 σ H s)(q:Q (.bl k) H)(e:k=k'):EP X w9 σ Q (.bool k') s:=by
 subst e;exact⟨.bl k,H,I,rfl,q⟩
def be:OpR X (compareOp .Eq) rEq:=by
 intro w9 s σ H x y v u Q I rx ry h;obtain⟨hs,q⟩:=h;cases x with
 |non=>
  cases rx;cases y with
  |non=>cases ry;exact PySem.EqNone.eq_none_none (aJ I q (by simp))
  |bl j=>cases ry;exact PySem.EqNone.eq_none_bool (aJ I q (by simp))
  |int j=>obtain⟨t',rfl⟩:=ry;exact PySem.EqNone.eq_none_int (aJ I q (by simp))
  |str j=>obtain⟨t',rfl⟩:=ry;exact PySem.EqNone.eq_none_str (aJ I q (by simp))
  |_=>exact absurd (show false=true from hs) Bool.false_ne_true
 |bl i=>
  cases rx;cases y with
  |non=>cases ry;exact PySem.EqNone.eq_bool_none (aJ I q (by simp))
  |bl j=>cases ry;exact eq_bool (aJ I q qt)
  |str j=>obtain⟨t',rfl⟩:=ry;exact PySem.EqMixed.eq_bool_str (aJ I q (by simp))
  |_=>exact absurd (show false=true from hs) Bool.false_ne_true
 |int i=>
  obtain⟨t,rfl⟩:=rx;cases y with
  |non=>cases ry;exact PySem.EqNone.eq_int_none (aJ I q (by simp))
  |int j=>obtain⟨t',rfl⟩:=ry;exact eq_int (aJ I q jL)
  |str j=>obtain⟨t',rfl⟩:=ry;exact PySem.EqMixed.eq_int_str (aJ I q (by simp))
  |_=>exact absurd (show false=true from hs) Bool.false_ne_true
 |str i=>
  obtain⟨t,rfl⟩:=rx;cases y with
  |non=>cases ry;exact PySem.EqNone.eq_str_none (aJ I q (by simp))
  |bl j=>cases ry;exact PySem.EqMixed.eq_str_bool (aJ I q (by simp))
  |int j=>obtain⟨t',rfl⟩:=ry;exact PySem.EqMixed.eq_str_int (aJ I q (by simp))
  |str j=>obtain⟨t',rfl⟩:=ry;exact eq_str (aJ I q mv)
  |_=>exact absurd (show false=true from hs) Bool.false_ne_true
 |byt i=>
  obtain⟨t,rfl⟩:=rx;cases y with
  |byt j=>obtain⟨t',rfl⟩:=ry;exact PySem.W.eq_bytes (aJ I q mw)
  |_=>exact absurd (show false=true from hs) Bool.false_ne_true
 |_=>cases y <;> exact absurd (show false=true from hs) Bool.false_ne_true
def jM:OpR X (compareOp .NotEq) rNe:=by
 intro w9 s σ H x y v u Q I rx ry h;obtain⟨hs,q⟩:=h;cases x with
 |non=>
  cases rx;cases y with
  |non=>cases ry;exact PySem.EqNone.ne_none_none (aJ I q (by simp))
  |bl j=>cases ry;exact PySem.EqNone.ne_none_bool (aJ I q (by simp))
  |int j=>obtain⟨t',rfl⟩:=ry;exact PySem.EqNone.ne_none_int (aJ I q (by simp))
  |str j=>obtain⟨t',rfl⟩:=ry;exact PySem.EqNone.ne_none_str (aJ I q (by simp))
  |_=>exact absurd (show false=true from hs) Bool.false_ne_true
 |bl i=>
  cases rx;cases y with
  |non=>cases ry;exact PySem.EqNone.ne_bool_none (aJ I q (by simp))
  |bl j=>cases ry;exact ne_bool (aJ I q (congrArg not qt))
  |str j=>obtain⟨t',rfl⟩:=ry;exact PySem.EqMixed.ne_bool_str (aJ I q (by simp))
  |_=>exact absurd (show false=true from hs) Bool.false_ne_true
 |int i=>
  obtain⟨t,rfl⟩:=rx;cases y with
  |non=>cases ry;exact PySem.EqNone.ne_int_none (aJ I q (by simp))
  |int j=>obtain⟨t',rfl⟩:=ry;exact ne_int (aJ I q (congrArg not jL))
  |str j=>obtain⟨t',rfl⟩:=ry;exact PySem.EqMixed.ne_int_str (aJ I q (by simp))
  |_=>exact absurd (show false=true from hs) Bool.false_ne_true
 |str i=>
  obtain⟨t,rfl⟩:=rx;cases y with
  |non=>cases ry;exact PySem.EqNone.ne_str_none (aJ I q (by simp))
  |bl j=>cases ry;exact PySem.EqMixed.ne_str_bool (aJ I q (by simp))
  |int j=>obtain⟨t',rfl⟩:=ry;exact PySem.EqMixed.ne_str_int (aJ I q (by simp))
  |str j=>obtain⟨t',rfl⟩:=ry;exact ne_str (aJ I q (congrArg not mv))
  |_=>exact absurd (show false=true from hs) Bool.false_ne_true
 |byt i=>
  obtain⟨t,rfl⟩:=rx;cases y with
  |byt j=>obtain⟨t',rfl⟩:=ry;exact PySem.W.ne_bytes (aJ I q (congrArg not mw))
  |_=>exact absurd (show false=true from hs) Bool.false_ne_true
 |_=>cases y <;> exact absurd (show false=true from hs) Bool.false_ne_true
def db:OpR X (compareOp .Lt) (rI0 λi j => .bl (decide (i < j))):=opB0 λ_ _ _ _ _ _ _ q=>lt_int q
def rj:OpR X (compareOp .LtE) (rI0 λi j => .bl (decide (i<=j))):=opB0 λ_ _ _ _ _ _ _ q=>le_int q
def rk:OpR X (compareOp .Gt) (rI0 λi j => .bl (decide (j < i))):=opB0 λ_ _ _ _ _ _ _ q=>gt_int q
def mx:OpR X (compareOp .GtE) (rI0 λi j => .bl (decide (j<=i))):=opB0 λ_ _ _ _ _ _ _ q=>ge_int q
inductive R_op_in_str (x y:V)(H:Hp)(Q:VK):Prop
 |mk (i j)(_:x = .str i)(_:y = .str j)(_:Q (.bl (!(Builtin.Str.occurrences j i 0 j.length 1).isEmpty)) H)
def fu:OpR X (compareOp .In) R_op_in_str:=by
 intro w9 s σ H x y v u Q I rx ry h;obtain⟨i,j,rfl,rfl,q⟩:=h;obtain⟨t,rfl⟩:=rx;obtain⟨t',rfl⟩:=ry;exact in_str (aJ I q rfl)
inductive R_op_isN (x y:V)(H:Hp)(Q:VK):Prop
 |mk (_:y = .non)(_:Q (.bl (decide (x = .non))) H)
def qu:OpR X (compareOp .Is) R_op_isN:=by
 intro w9 s σ H x y v u Q I rx ry h;obtain⟨rfl,q⟩:=h;cases ry;refine is_none_gen (aJ I q ?_);cases x <;> first
  |(cases rx;rfl)
  |(obtain⟨t,rfl⟩:=rx;rfl)
inductive R_op_notN (x y:V)(H:Hp)(Q:VK):Prop
 |mk (_:y = .non)(_:Q (.bl (!decide (x = .non))) H)
def jN:OpR X (compareOp .IsNot) R_op_notN:=by
 intro w9 s σ H x y v u Q I rx ry h;obtain⟨rfl,q⟩:=h;cases ry;refine isnot_none_gen (aJ I q ?_);cases x <;> first
  |(cases rx;rfl)
  |(obtain⟨t,rfl⟩:=rx;rfl)
def ai (b:Expr){op:CmpOp}(h:op ≠ .In:=by decide) (h2:op ≠ .NotIn:=by decide):behindInMarks op b=false:=by
 have e1:(op==CmpOp.In)=false:=by cases op <;> first |rfl |exact absurd rfl h
 have e2:(op==CmpOp.NotIn)=false:=by cases op <;> first |rfl |exact absurd rfl h2
 cases b <;> simp[behindInMarks,e1,e2]
def rl {op:CmpOp}{r:R2}(ho:OpR X (compareOp op) r)(ha:PE X a ta)(hb:PE X b tb)(hm:behindInMarks op b=false):PE X (.Compare a [op] [b] pos) (tOp r ta tb):=by
 intro w9 s σ H Q I h;exact wpAny_Compare1 (binT ha hb I h λv u s2 x y H2 I2 rx ry q=>ho w9 s2 σ H2 x y v u Q I2 rx ry q) hm
inductive tTest.I (Q:(Bool->Hp->Prop))(x:V)(H':Hp):Prop
 |mk (k)(_:x = .bl k)(_:Q k H')
def tTest (t:TE):TT:=λσ H Q=>t σ H (tTest.I Q)
def rm {op:CmpOp}{r:R2}(ho:OpR X (compareOp op) r)(ha:PE X a ta)(hb:PE X b tb)(hm:behindInMarks op b=false):PT X (.Compare a [op] [b] pos) (tTest (tOp r ta tb)):=by
 intro w9 s σ H Q I h;refine wpAny_isTrue_Compare1 (thn (ha w9 s σ H _ I h) λv s1 ⟨x,H1,I1,r1,q1⟩=>thn (hb w9 s1 σ H1 _ I1 q1) λu s2 ⟨y,H2,I2,r2,q2⟩=>
  thn (ho w9 s2 σ H2 x y v u _ I2 r1 r2 q2) λc s3 ⟨z,H3,I3,r3,k,e,q3⟩=>?_) hm
 subst e;cases r3;exact wpAny_truthy_bool ⟨H3,I3,q3⟩
def TruV (K:Frag)(x:V)(H:Hp)(k:Bool):Prop:=
 match x with
 | .non=>k=false
 | .bl b=>k=b
 | .int i=>k=(i != 0)
 | .str y=>y.length<=sizeLine/\k=((y.length:Int) != 0)
 | .byt y=>y.size<=sizeLine/\k=((y.size:Int) != 0)
 | .ref p=>(∃xs,SqL K H p xs/\k = !xs.isEmpty) ∨ (∃xs,SqT K H p xs/\k = !xs.isEmpty) ∨ ∃kvs,H p=some (.dK kvs)/\k = !kvs.isEmpty
 |_=>False
def lC {κ:Type}{kvs:List (κ×V)}{vs:List (κ×Value)}(r:KV kvs vs):(!vs.isEmpty) = !kvs.isEmpty:=by
 cases r <;> rfl
def gx {xs:List V}{its:List Value}(r:Vals xs its):(!its.toArray.isEmpty) = !xs.isEmpty:=by
 cases r <;> simp
def gy:(sizeLine:Nat) < 2 ^ 63:=by rw[sizeLine_eq];decide
def tY:TruR X (λx H Q=>∃k,TruV X.K x H k/\Q k H):=by
 intro w9 s σ H x v Q I rx h;obtain⟨k,e,q⟩:=h;have hl:=gy;have hs:=sizeLine_eq;cases x with
 |non=>
  cases rx;have e':k=false:=e;subst e';exact truthy_none ⟨H,I,q⟩
 |bl b=>
  cases rx;have e':k=b:=e;subst e';exact wpAny_truthy_bool ⟨H,I,q⟩
 |int i=>
  obtain⟨t,rfl⟩:=rx;have e':k=(i != 0):=e;subst e';exact PySem.P.truthy_int ⟨H,I,q⟩
 |str y=>
  obtain⟨t,rfl⟩:=rx;obtain⟨hy,e'⟩:y.length<=sizeLine/\k=((y.length:Int) != 0):=e;subst e';exact PySem.P.truthy_str nofun ⟨H,I.tok _,q⟩
 |byt y=>
  obtain⟨t,rfl⟩:=rx;obtain⟨hy,e'⟩:y.size<=sizeLine/\k=((y.size:Int) != 0):=e;subst e';exact PySem.W.truthy_bytes nofun ⟨H,I.tok _,q⟩
 |ref p=>
  cases rx;have e':(∃xs,SqL X.K H p xs/\k = !xs.isEmpty) ∨ (∃xs,SqT X.K H p xs/\k = !xs.isEmpty) ∨ ∃kvs,H p=some (.dK kvs)/\k = !kvs.isEmpty:=e;rcases e' with ⟨xs,hx,e'⟩ |⟨xs,hx,e'⟩ |⟨kvs,hx,e'⟩
  ·subst e';obtain⟨its,r,pl,hz⟩:=I.list hx;have w6:=r.length;exact wpAny_truthy_list pl.isList (by simp only[l24];omega) ⟨H,I.tok _,by rw[gx r];exact q⟩
  ·subst e';obtain⟨its,r,pl,hz⟩:=I.tuple hx;have w6:=r.length;exact truthy_tuple pl (by simp only[l24];omega) ⟨H,I.tok _,by rw[gx r];exact q⟩
  ·subst e';obtain⟨hz,hS,vs,r,m⟩:kvs.length<=sizeLine/\(p==sysModules)=false/\∃vs,KV kvs vs/\s.heap.DictOf (jI X.prog X.w) p vs:=I.hok p _ hx;have w6:kvs.length=vs.length:=Paired.length r;exact wpAny_truthy_dict hS m nofun ⟨H,I.tok _,by rw[lC r];exact q⟩
 |_=>exact(show False from e).elim
inductive R_op_add_str (x y:V)(H:Hp)(Q:VK):Prop
 |mk (i j)(_:x = .str i)(_:y = .str j)(_:i.length+j.length<=sizeLine)(_:Q (.str (i++j)) H)
def gz:OpR X (binaryOp .Add) R_op_add_str:=by
 intro w9 s σ H x y v u Q I rx ry h;obtain⟨i,j,rfl,rfl,hz,q⟩:=h;obtain⟨t,rfl⟩:=rx;obtain⟨t',rfl⟩:=ry;exact wpAny_with_toks (n:=1) I.tk (add_str (λt' tk htk=>⟨.str (i++j),H,I.tok _ htk,⟨_,rfl⟩,q⟩) hz)
def lD {x:V}{us:List Value}(r:Vals [x] us):∃u,us=[u]/\RelV x u:=by
 cases r with
 |cons r1 r2=>cases r2;exact⟨_,rfl,r1⟩
def tZ {x y:V}{us:List Value}(r:Vals [x,y] us):∃u w',us=[u,w']/\RelV x u/\RelV y w':=by
 cases r with
 |cons r1 r2=>
  cases r2 with
  |cons r3 r4=>cases r4;exact⟨_,_,rfl,r1,r3⟩
inductive R_call_max2 (xs:List V)(H:Hp)(Q:VK):Prop
 |mk (i j)(_:xs=[.int i, .int j])(_:Q (.int (if j > i then j else i)) H)
def my (hc:X.calm=true):cV X (.builtin "max") R_call_max2:=by
 intro w9 s σ H xs us Q I r h;obtain⟨i,j,rfl,q⟩:=h;obtain⟨u,w',rfl,⟨t,rfl⟩,⟨t',rfl⟩⟩:=tZ r;refine wpAny_with_toks (n:=1) I.tk (max_two_ints (I.ok.hd hc) λh' tk k htk=>⟨_,H,I.kept k htk,?_,q⟩);by_cases hj:j > i
 ·rw[if_pos hj,if_pos hj];exact⟨_,rfl⟩
 ·rw[if_neg hj,if_neg hj];exact⟨_,rfl⟩
end
structure ObjM (h:Heap)(x dx C:Addr)(mA:Str->Option Value):Prop where
 obj:h.get? x=some (instObj C dx)
 ns:h.Ns1 dx mA
 ne:dx≠x
def mz {h:Heap}{dx:Addr}{mA:Str->Option Value}(n:h.Ns1 dx mA):∃od,h.get? dx=some od/\∀name,lookIn name od=some (mA name):=by
 obtain⟨o,es,ep,ho,hd,hk,_,hm⟩:=n;refine⟨o,ho,λname=>?_⟩;have e:=hm name;unfold nsFind findBy at e;rw[<- Array.find?_toList] at e;unfold lookIn;rw[hd]
 try dsimp only
 split
 ·rename_i y q;rw[q] at e;exact congrArg some e
 ·rename_i q;rw[q] at e;have a:es.toList.any (·.refKey)=false:=by
   rw[List.any_eq_false];intro y hy;obtain⟨z,t,hkey⟩:=hk y (Array.mem_toList_iff.mp hy);simp[DictEntry.refKey,hkey]
  have a':¬ es.toList.any (·.refKey)=true:=by rw[a];exact Bool.false_ne_true
  rw[if_neg a'];exact congrArg some e
def ObjM.look {h:Heap}{x dx C:Addr}{mA:Str->Option Value}(I:ObjM h x dx C mA):∃od,PySem.W.InstAt h x (instObj C dx) C (some od)/\∀name,lookIn name od=some (mA name):=
 let ⟨od,ho,hl⟩:=mz I.ns
 ⟨od,⟨I.obj,rfl,rfl,ho⟩,hl⟩
section
variable {prog:Program}{w:World}{A:Around}{E:Value->Shared->Prop}{s:Shared}{K:Frag}{x dx C f:Addr}{mA:Str->Option Value}{name:Str}{v:Value}
def rn {expr:Bool}{Q:Value->Shared->Prop}(X:K.In s.heap)(I:ObjM s.heap x dx C mA)(hg:plainGet K C name=true)(hh:hasDictIn K C=true)
  (ha:findIn K (.ref C) name=some none)(hv:mA name=some v)(hv':handedIn v=true)(h:Q v { s with toks:=s.toks+1 }):
  wpAny (model prog w) A (getAttr (.ref x) name expr) Q E s:=by
 obtain⟨od,J,hl⟩:=I.look;exact PySem.W.get_value X J (plainGet_of hg).1 (PySem.W.findObj_own hh ha rfl (by rw[hl,hv])) hv' h
def oS {pl:Sem Bool}{Q:Value×List Value->Shared->Prop}(X:K.In s.heap)(I:ObjM s.heap x dx C mA)(hg:plainGet K C name=true)
  (hf:findIn K (.ref C) name=some (some (.ref f)))(ht:isFn K (.ref f)=true)(hv:mA name=none)(h:Q (.ref f,[.ref x]) s):
  wpAny (model prog w) A (getMethod (.ref x) name pl) Q E s:=by
 obtain⟨od,J,hl⟩:=I.look;exact PySem.W.method_fn X J (plainGet_of hg).1 (plainGet_of hg).2 hf (beq_iff_eq.mp ht) (by show (lookIn name od).map (·.isSome)=some false;rw[hl,hv];rfl) h
def ro {ns:List Str}{Q:Unit->Shared->Prop}(X:K.In s.heap)(I:ObjM s.heap x dx C mA)
  (hs:findIn K (.ref C) "__setattr__"=some (some (.builtin "object.__setattr__")))(hp:plainOver K C=true)(ht:takerIn K C name=some none)(hh:hasDictIn K C=true)
  (hw:PySem.Within mA ns)(hsz:ns.length<=sizeLine)
  (h:∀h',ObjM h' x dx C (λy=>if y=name then some v else mA y)->Heap.SameBut dx s.heap h'->Q () { s with heap:=h',toks:=s.toks+2 }):
  wpAny (model prog w) A (setAttr (.ref x) name v) Q E s:=by
 obtain⟨od,J,hl⟩:=I.look;refine PySem.W.set_plain X J hs (PySem.W.osa_open (s:={ s with toks:=s.toks+1 }) (r:=none) X J hp ht λb=>?_);obtain⟨cd,hc,hd'⟩:=PySem.W.any_some hh;have hx:s.heap.get? x=some ⟨.ref C,some dx, .plain,#[]⟩:=I.obj;refine wpAny_bind (wpAny_pure (wpAny_bind (wpAny_bind (wpAny_loadPart hx (wpAny_bind (PySem.W.Looks.here (s:={ s with toks:=s.toks+1 }) (PySem.W.looks_clsIn X hc) ?_))))));rw[hd'];refine wpAny_pure (a:=some dx) (wpAny_bind (wpAny_pure (wpAny_bind ?_)));refine wpAny_nsSet1 (s:={ s with toks:=s.toks+1 }) I.ns λh' hn2 hs2=>?_;obtain⟨oD,esD,epD,hoD,hdD,hcD⟩:=hn2.count (PySem.Within.cons name v hw);refine wpAny_bind (wpAny_lookBehind hoD (by rw[hdD];exact pastItsLine_dict (l11 hcD (by rw[l4];omega))) ?_);exact wpAny_pure (h _ ⟨(hs2.2 _ (Ne.symm I.ne)).trans I.obj,hn2,I.ne⟩ hs2)
def oT {R:Result->Shared->Prop}{vs:List Value}{kw:List (Str×Value)}(X:K.In s.heap)(hm:makesIn K C=true)
  (hi:findIn K (.ref C) "__init__"=some (some (.ref f)))(hf:PySem.W.typeIn K (.ref f)=some (.type "function"))
  (h:codeAny (model prog w) (A.under (.builtin "type.__call__" ⟨.ref C::vs,kw⟩)) (.call (.ref f) ⟨.ref (s.heap.objs.size+1)::vs,kw⟩) (PySem.W.InitBack (s.heap.objs.size+1) R)
   { s with heap:=(s.heap.push emptyDict).push (instObj C s.heap.objs.size) }):
  codeAny (model prog w) A (.call (.ref C) ⟨vs,kw⟩) R s:=by
 obtain⟨hh,g,d,t,os⟩:=s;exact PySem.W.make_core (PySem.W.makes_of X hm) (PySem.W.looks_findIn X hi) (λself=>PySem.W.bind_fn X self hf) (.inl rfl) h
end
def putF (f:Str)(v:V):List (Str×V)->List (Str×V)
 | []=>[(f,v)]
 |(g,x)::r=>if g=f then (g,v)::r else (g,x)::putF f v r
theorem fw (f g:Str)(v:V):∀fs:List (Str×V),(putF f v fs).lookup g=if g=f then some v else fs.lookup g
 | []=>by
  show List.lookup g [(f,v)]=_;by_cases h:g=f
  ·have hb:(g==f)=true:=beq_iff_eq.mpr h;simp only[List.lookup,hb,if_pos h]
  ·have hb:(g==f)=false:=beq_eq_false_iff_ne.mpr h;simp only[List.lookup,hb,if_neg h]
 |(k,x)::r=>by
  have ih:=fw f g v r;rw[show putF f v ((k,x)::r)=(if k=f then (k,v)::r else (k,x)::putF f v r) from rfl];by_cases hk:k=f
  ·rw[if_pos hk];by_cases h:g=k
   ·have hb:(g==k)=true:=beq_iff_eq.mpr h;simp only[List.lookup,hb,if_pos (h.trans hk)]
   ·have hb:(g==k)=false:=beq_eq_false_iff_ne.mpr h;simp only[List.lookup,hb,if_neg (λe:g=f=>h (e.trans hk.symm))]
  ·rw[if_neg hk];by_cases h:g=k
   ·have hb:(g==k)=true:=beq_iff_eq.mpr h;simp only[List.lookup,hb,if_neg (λe:g=f=>hk (h.symm.trans e))]
   ·have hb:(g==k)=false:=beq_eq_false_iff_ne.mpr h;simp only[List.lookup,hb];exact ih
theorem fx (f:Str)(v:V):∀fs:List (Str×V),f∈(putF f v fs).map (·.1)/\∀g,g∈fs.map (·.1)->g∈(putF f v fs).map (·.1)
 | []=>⟨by simp[putF],λg h=>by simp at h⟩
 |(k,x)::r=>by
  obtain⟨i1,i2⟩:=fx f v r;rw[show putF f v ((k,x)::r)=(if k=f then (k,v)::r else (k,x)::putF f v r) from rfl];by_cases hk:k=f
  ·rw[if_pos hk];subst hk;exact⟨by simp,λg h=>by simpa using h⟩
  ·rw[if_neg hk];refine⟨?_,λg h=>?_⟩
   ·rw[l13];exact l7 _ i1
   ·rw[l13] at h ⊢;rcases l6.mp h with e |e
    ·exact l6.mpr (.inl e)
    ·exact l7 _ (i2 g e)
theorem fy (f:Str)(v:V):∀fs:List (Str×V),(putF f v fs).length<=fs.length+1
 | []=>by simp[putF]
 |(k,x)::r=>by
  have ih:=fy f v r;rw[show putF f v ((k,x)::r)=(if k=f then (k,v)::r else (k,x)::putF f v r) from rfl];by_cases hk:k=f
  ·rw[if_pos hk,l4,l4];omega
  ·rw[if_neg hk,l4,l4];omega
def RelO.some_of {v:V}{o:Option Value}(r:RelO (some v) o):∃u,o=some u/\RelV v u:=by
 cases o with
 |none=>exact(show False from r).elim
 |some u=>exact⟨u,rfl,r⟩
def RelO.none_of {o:Option Value}(r:RelO none o):o=none:=by
 cases o with
 |none=>rfl
 |some u=>exact(show False from r).elim
def mB {v:V}{u:Value}(r:RelV v u):handedIn u=true:=by
 cases v with
 |non=>cases (show u=Value.none from r);rfl
 |bl b=>cases (show u=Value.bool b from r);rfl
 |int i=>obtain⟨t,e⟩:=(show ∃t,u=Value.int i t from r);cases e;rfl
 |str x=>obtain⟨t,e⟩:=(show ∃t,u=Value.str x t from r);cases e;rfl
 |byt b=>obtain⟨t,e⟩:=(show ∃t,u=Value.bytes b t from r);cases e;rfl
 |flt b=>obtain⟨t,e⟩:=(show ∃t,u=Value.float b t from r);cases e;rfl
 |ref a=>cases (show u=Value.ref a from r);rfl
 |ty n=>cases (show u=Value.type n from r);rfl
section
variable {P:Program}{w:World}{H H':Hp}{h h':Heap}{a C dx:Addr}{fs fs':List (Str×V)}
def gS (hok:HOk P w H h)(e:H a=some (.ins C dx fs)):∃mA,ObjM h a dx C mA/\(∀f,RelO (fs.lookup f) (mA f))/\PySem.Within mA (fs.map (·.1))/\fs.length<=1000/\H dx=some (.own a):=by
 obtain⟨d,z,ne,ob,mA,n,r,q⟩:=(show ObjOk P w H h a (.ins C dx fs) from hok a _ e);exact⟨mA,⟨ob,n,ne⟩,r,q,z,d⟩
end
structure Cls (K:Frag)(C:Addr):Prop where
 pg:plainGet K C Str.empty=true
 hd:hasDictIn K C=true
 po:plainOver K C=true
 sa:findIn K (.ref C) "__setattr__"=some (some (.builtin "object.__setattr__"))
def Cls.get {K:Frag}{C:Addr}(c:Cls K C)(f:Str):plainGet K C f=true:=c.pg
def NoAttr (K:Frag)(C:Addr)(f:Str):Prop:=findIn K (.ref C) f=some none
def NoAttr.taker {K:Frag}{C:Addr}{f:Str}(n:NoAttr K C f):takerIn K C f=some none:=by
 unfold takerIn;rw[show findIn K (.ref C) f=some none from n];rfl
structure Meth (K:Frag)(C:Addr)(m:Str)(f:Addr):Prop where
 at_:findIn K (.ref C) m=some (some (.ref f))
 fn:isFn K (.ref f)=true
 kp:keepIn K (.ref f)=true
section
variable {X:Cx}{w9:List (Addr×Obj)}{σ:St}{H:Hp}{s:Shared}{a C dx:Addr}{fs:List (Str×V)}{f:Str}{v:V}{A:Around}{E:Value->Shared->Prop}
def lE {b:Bool}{Q:Value->Shared->Prop}(I:Inv X w9 σ H s)(e:H a=some (.ins C dx fs))(c:Cls X.K C)(n:NoAttr X.K C f)(l:fs.lookup f=some v)
  (h:∀u s',Inv X w9 σ H s'->RelV v u->Q u s'):wpAny (model X.prog X.w) A (getAttr (.ref a) f b) Q E s:=by
 obtain⟨mA,O,r,_,_,_⟩:=gS I.hok e;obtain⟨u,hu,ru⟩:=RelO.some_of (v:=v) (o:=mA f) (by rw[<- l];exact r f);exact rn I.kIn O (c.get f) c.hd n hu (mB ru) (h u _ (I.tok _) ru)
def lF {m:Str}{g:Addr}{pl:Sem Bool}{Q:Value×List Value->Shared->Prop}(I:Inv X w9 σ H s)(e:H a=some (.ins C dx fs))(c:Cls X.K C)(k:Meth X.K C m g)(l:fs.lookup m=none)
  (h:Q (.ref g,[.ref a]) s):wpAny (model X.prog X.w) A (getMethod (.ref a) m pl) Q E s:=by
 obtain⟨mA,O,r,_,_,_⟩:=gS I.hok e;have hn:mA m=none:=RelO.none_of (by rw[<- l];exact r m);exact oS I.kIn O (c.get m) k.at_ k.fn hn h
def lG {y:V}{u:Value}{Q:Unit->Shared->Prop}(I:Inv X w9 σ H s)(e:H a=some (.ins C dx fs))(c:Cls X.K C)(n:NoAttr X.K C f)(hl:fs.length < 1000)(ry:RelV y u)
  (h:∀s',Inv X w9 σ (upd H a (.ins C dx (putF f y fs))) s'->Q () s'):wpAny (model X.prog X.w) A (setAttr (.ref a) f u) Q E s:=by
 obtain⟨mA,O,r,wi,_,ho⟩:=gS I.hok e;have hz:(fs.map (·.1)).length<=sizeLine:=by rw[l0,sizeLine_eq];omega
 refine ro I.kIn O c.sa c.po n.taker c.hd wi hz λh' O' sb=>h _ ?_;have hd:∃o,h'.get? dx=some o:=let ⟨o,_,_,e',_⟩:=O'.ns;⟨o,e'⟩
 refine I.write (x:=a) (e:=dx) (by rw[e];exact True.intro) (.inr ho) (λb q hb z=>(sb.2 b hb).trans z) hd ?_;refine⟨by rw[af O.ne];exact ho,?_,O.ne,O'.obj,_,O'.ns,λg=>?_,λg hg=>?_⟩
 ·have:=fy f y fs;omega
 ·show RelO ((putF f y fs).lookup g) (if g=f then some u else mA g);rw[fw];by_cases q:g=f
  ·rw[if_pos q,if_pos q];exact ry
  ·rw[if_neg q,if_neg q];exact r g
 ·by_cases q:g=f
  ·rw[q];exact(fx f y fs).1
  ·refine(fx f y fs).2 g (wi g λz=>hg ?_);show (if g=f then some u else mA g)=none;rw[if_neg q];exact z
def Inv.made (I:Inv X w9 σ H s):Inv X w9 σ (upd (upd H s.heap.objs.size (.own (s.heap.objs.size+1))) (s.heap.objs.size+1) (.ins C s.heap.objs.size []))
  { s with heap:=(s.heap.push emptyDict).push (instObj C s.heap.objs.size) }:=by
 have e1:(s.heap.push emptyDict).get? s.heap.objs.size=some emptyDict:=Heap.get?_push_size s.heap rfl;have e2:((s.heap.push emptyDict).push (instObj C s.heap.objs.size)).get? (s.heap.objs.size+1)=some (instObj C s.heap.objs.size):=by
  have:=Heap.get?_push_size (s.heap.push emptyDict) (o:=instObj C s.heap.objs.size) rfl;rwa [Heap.size_push] at this
 have e3:(s.heap.push emptyDict).Ns s.heap.objs.size (λ_=>none):=⟨emptyDict,#[],_,e1,rfl,(λe he=>absurd he (by simp)),λ_=>rfl⟩;have I1:=I.laid (a:=s.heap.objs.size) (o := .own (s.heap.objs.size+1)) (h':=s.heap.push emptyDict) (t':=s.toks) (λb u q=>Heap.get?_push_of_some _ q) (l5 _) ⟨_,e1⟩;refine I1.laid (a:=s.heap.objs.size+1) (o := .ins C s.heap.objs.size []) (t':=s.toks) (λb u q=>Heap.get?_push_of_some _ q) (Nat.le_of_eq (Heap.size_push _ _)) ?_;have ne:s.heap.objs.size≠s.heap.objs.size+1:=l30 (l67 _);refine⟨by rw[af ne,aa],l12 _,ne,e2,λ_=>none,(Heap.Ns1.of_empty e3).at λo q=>Heap.get?_push_of_some _ q,λ_=>True.intro,λy hy=>absurd rfl hy⟩
def rp {prog:Program}{w:World}{env:Env}{e:Expr}{f:Str}{pos:Pos}{s:Shared}{Q:Value->Shared->Prop}(hb:attributeBase e f env (eval e env)=eval e env)
  (h:wpAny (model prog w) A (eval e env) (λo s₁=>wpAny (model prog w) A (getAttr o f true) Q E s₁) E s):wpAny (model prog w) A (eval (.Attribute e f pos) env) Q E s:=
 Attribute_any_ h (by rw[arm_eval_Attribute,hb])
end
inductive tFld.I (K:Frag)(f:Str)(Q:VK)(x:V)(H1:Hp):Prop
 |mk (a C dx fs v)(_:x = .ref a)(_:H1 a=some (.ins C dx fs))(_:Cls K C)(_:NoAttr K C f)(_:fs.lookup f=some v)(_:Q v H1)
def tFld (K:Frag)(ta:TE)(f:Str):TE:=λσ H Q=>ta σ H (tFld.I K f Q)
inductive sFld.I (K:Frag)(f:Str)(D:Ends)(σ:St)(y x:V)(H2:Hp):Prop
 |mk (a C dx fs)(_:x = .ref a)(_:H2 a=some (.ins C dx fs))(_:Cls K C)(_:NoAttr K C f)(_:fs.length < 1000)(_:D.nx σ (upd H2 a (.ins C dx (putF f y fs))))
abbrev sFld.K0 (K:Frag) (ta:TE) (f:Str) (D:Ends) (σ:St) (y:V) (H1:Hp):Prop:=ta σ H1 (sFld.I K f D σ y)
def sFld (K:Frag)(ta tv:TE)(f:Str):TS:=λD σ H=>tv σ H (sFld.K0 K ta f D σ)
section
variable {X:Cx}{o e value:Expr}{f:Str}{pos pos' tpos:Pos}{ta tv:TE}
def t7 (he:PE X e ta)(hb:attributeBase e f X.env (eval e X.env)=eval e X.env):PE X (.Attribute e f pos) (tFld X.K ta f):=by
 intro w9 s σ H Q I h;refine rp hb (thn (he w9 s σ H _ I h) λu s1 zz=>?_);obtain⟨x,H1,I1,rx,a,C,dx,fs,v,ex,ea,c,n,l,q⟩:=zz;subst ex;obtain rfl:u=Value.ref a:=rx;exact lE I1 ea c n l λu' s2 I2 ru=>⟨v,H1,I2,ru,q⟩
def t8 (ha:PE X o ta)(hv:PE X value tv)(hs:swapsWith value (some (.Attribute o f pos')) pos.line X.env=pure false):PS X (.Assign [.Attribute o f pos'] value pos) (sFld X.K ta tv f):=by
 intro w9 s σ H D I h;refine plainObj_wpAny_Assign_Attribute (thn (hv w9 s σ H _ I h) λu s1 ⟨y,H1,I1,ry,q⟩=>thn (ha w9 s1 σ H1 _ I1 q) λov s2 zz=>?_) hs;obtain⟨x,H2,I2,rx,a,C,dx,fs,ex,ea,c,n,l,q2⟩:=zz;subst ex;obtain rfl:ov=Value.ref a:=rx;exact lG I2 ea c n l ry λs3 I3=>⟨σ,_,I3,q2⟩
end
section
variable {X:Cx}{w9:List (Addr×Obj)}{σ:St}{H:Hp}{s:Shared}{A:Around}{E:Value->Shared->Prop}{Q:Value->Shared->Prop}{c:Value}{b:Bool}
inductive TyOf (K:Frag)(H:Hp):V->Value->Prop where
 |non:TyOf K H .non (.type "NoneType")
 |bl (x:Bool):TyOf K H (.bl x) (.type "bool")
 |int (i:Int):TyOf K H (.int i) (.type "int")
 |str (x:Str):TyOf K H (.str x) (.type "str")
 |flt (x:UInt64):TyOf K H (.flt x) (.type "float")
 |lst {a:Addr} {xs:List V} (e:H a=some (.lst xs)):TyOf K H (.ref a) (.type "list")
 |frz {a:Addr} {o:Obj} {xs:List V} (e:H a=some (.frz o (.lst xs))):TyOf K H (.ref a) (.type "list")
 |tup {a:Addr} {xs:List V} (e:H a=some (.tup xs)):TyOf K H (.ref a) (.type "tuple")
 |dK {a:Addr} {kvs:List (Key×V)} (e:H a=some (.dK kvs)):TyOf K H (.ref a) (.type "dict")
 |dT {a:Addr} {kvs:List (List Key×V)} (e:H a=some (.dT kvs)):TyOf K H (.ref a) (.type "dict")
 |ins {a C dx:Addr} {fs:List (Str×V)} (e:H a=some (.ins C dx fs)) (cl:Cls K C) (ha:findIn K (.ref C) "__class__"=some (some (.builtin "object.__class__")))
   (hn:specialIn K (.builtin "object.__class__") "__get__"=some (some (.builtin "getset_descriptor.__get__"))) (htk:takesIn K (.builtin "object.__class__")=some true)
   (hm:mroIn K C (.type "object")=some true):TyOf K H (.ref a) (.ref C)
def mC {x:V}{u t:Value}(I:Inv X w9 σ H s)(rx:RelV x u)(ty:TyOf X.K H x t)(e:kitOne X.K t c=some b)(h:∀tk,Q (.bool b) { s with toks:=tk }):
  wpAny (model X.prog X.w) A (call (.builtin "isinstance") [u,c]) Q E s:=by
 cases ty with
 |non=>cases (show u=Value.none from rx);exact kia_one PySem.W.kitx_none I.kIn True.intro e (λz=>nomatch z) h
 |bl y=>cases (show u=Value.bool y from rx);exact kia_one PySem.W.kitx_bool I.kIn True.intro e (λz=>nomatch z) h
 |int i=>obtain⟨t,q⟩:=(show ∃t,u=Value.int i t from rx);cases q;exact kia_one PySem.W.kitx_int I.kIn True.intro e (λz=>nomatch z) h
 |str y=>obtain⟨t,q⟩:=(show ∃t,u=Value.str y t from rx);cases q;exact kia_one PySem.W.kitx_str I.kIn True.intro e (λz=>nomatch z) h
 |flt y=>obtain⟨t,q⟩:=(show ∃t,u=Value.float y t from rx);cases q;exact kia_one PySem.W.kitx_float I.kIn True.intro e (λz=>nomatch z) h
 | @lst a xs ea=>
  cases (show u=Value.ref a from rx);obtain⟨_,_,n,_,h1⟩:=(show ObjOk X.prog X.w H s.heap a (.lst xs) from I.hok a _ ea);exact kia_one kitx_list I.kIn ⟨_,h1,rfl⟩ e (λz=>nomatch z) h
 | @frz a ob xs ea=>
  cases (show u=Value.ref a from rx);obtain⟨_,_,_,n,_,h1⟩:=(show ObjOk X.prog X.w H s.heap a (.frz ob (.lst xs)) from I.hok a _ ea);exact kia_one kitx_list I.kIn ⟨_,h1,rfl⟩ e (λz=>nomatch z) h
 | @tup a xs ea=>
  cases (show u=Value.ref a from rx);obtain⟨_,_,_,p⟩:=(show ObjOk X.prog X.w H s.heap a (.tup xs) from I.hok a _ ea);obtain⟨o,h1,h2,_⟩:=p;exact kia_one PySem.W.kitx_tuple I.kIn ⟨o,h1,h2⟩ e (λz=>nomatch z) h
 | @dK a kvs ea=>
  cases (show u=Value.ref a from rx);obtain⟨_,_,vs,_,p⟩:=(show ObjOk X.prog X.w H s.heap a (.dK kvs) from I.hok a _ ea);obtain⟨o,es,ep,h1,h2,_⟩:=p;exact kia_one kitx_dict I.kIn ⟨o,h1,h2.1⟩ e (λz=>nomatch z) h
 | @dT a kvs ea=>
  cases (show u=Value.ref a from rx);obtain⟨_,_,xs,_,o,es,ep,h1,h2,_⟩:=(show ObjOk X.prog X.w H s.heap a (.dT kvs) from I.hok a _ ea);exact kia_one kitx_dict I.kIn ⟨o,h1,h2.1⟩ e (λz=>nomatch z) h
 | @ins a C dx fs ea cl ha hn htk hm=>
  cases (show u=Value.ref a from rx);obtain⟨mA,O,_⟩:=gS I.hok ea;obtain⟨od,J,_⟩:=O.look;exact kia_one (PySem.W.kitx_own (cl.get _) cl.hd ha hn htk hm) I.kIn J e (λz=>nomatch z) h
end
structure Room (k:Nat)(A:Around):Prop where
 hd:A.handled=none
 dp:A.depth+3 * k+5 < recursionLimit
 un:A.units+16 * k+200 < cLine
def Room.mono {j k:Nat}{A:Around}(r:Room k A)(h:j<=k:=by omega):Room j A:=⟨r.hd,by have:=r.dp;omega,by have:=r.un;omega⟩
def Room.deeper {k:Nat}{A:Around}(r:Room (k+1) A)(env:Env):Room k (A.deeper env):=
 ⟨r.hd,by have:=r.dp;show A.depth+1+3 * k+5 < _;omega,by have:=r.un;show A.units+3+16 * k+200 < _;omega⟩
def lH {A:Around}{C:Addr}{us:List Value}{kw:List (Str×Value)}:(A.under (.builtin "type.__call__" ⟨.ref C::us,kw⟩)).depth=A.depth+1:=by
 first |rfl |simp[Around.under,Code.weight,Code.isCreation,Code.isGuard,Code.isCaller,Code.frames,Code.isFrame,guardIds]
def lI {A:Around}{C:Addr}{us:List Value}{kw:List (Str×Value)}:(A.under (.builtin "type.__call__" ⟨.ref C::us,kw⟩)).units=A.units+1:=by
 first |rfl |simp[Around.under,Code.cUnits,Code.frames,Code.isFrame]
def Room.make {k:Nat}{A:Around}(r:Room (k+1) A)(C:Addr)(us:List Value)(kw:List (Str×Value)):Room k (A.under (.builtin "type.__call__" ⟨.ref C::us,kw⟩)):=
 ⟨r.hd,by have:=r.dp;rw[lH];omega,by have:=r.un;rw[lI];omega⟩
def Room.depth {k:Nat}{A:Around}(r:Room k A):A.depth < recursionLimit:=by have:=r.dp;omega
def tNil:TA:=λ_ H Q=>Q [] H
abbrev tCons.K1 (Q:(List V->Hp->Prop)) (x:V) (xs:List V) (H2:Hp):Prop:=Q (x::xs) H2
abbrev tCons.K0 (tr:TA) (σ:St) (Q:(List V->Hp->Prop)) (x:V) (H1:Hp):Prop:=tr σ H1 (tCons.K1 Q x)
def tCons (ta:TE)(tr:TA):TA:=λσ H Q=>ta σ H (tCons.K0 tr σ Q)
section
variable {X:Cx}{e:Expr}{es:List Expr}{te:TE}{t:TA}{pos:Pos}
def ua:PA X [] tNil:=λ_ _ _ _ H Q I h=>Calls.spliced_nil ⟨[],H,I, .nil,h⟩
def rq (ha:PE X e te)(hr:PA X es t)(hs:starEach (e::es) X.env=(false,eval e X.env)::starEach es X.env:=by rfl):PA X (e::es) (tCons te t):=by
 intro pos w9 s σ H Q I h;rw[hs];show wpAny _ _ (spliced ((false,eval e X.env)::backTo pos (starEach es X.env))) _ _ s;refine Calls.spliced_cons (thn (ha w9 s σ H _ I h) λu s1 ⟨x,H1,I1,r1,q1⟩=>?_);exact thn (hr pos w9 s1 σ H1 _ I1 q1) λus s2 ⟨xs,H2,I2,r2,q2⟩=>⟨x::xs,H2,I2, .cons r1 r2,q2⟩
inductive tTup.I (Q:VK)(xs:List V)(H1:Hp):Prop
 |mk (_:xs.length<=sizeLine)(_:∀p,H1 p=none->Q (.ref p) (upd H1 p (.tup xs)))
def tTup (t:TA):TE:=λσ H Q=>t σ H (tTup.I Q)
inductive tLst.I (Q:VK)(xs:List V)(H1:Hp):Prop
 |mk (_:xs.length<=sizeLine)(_:∀p,H1 p=none->Q (.ref p) (upd H1 p (.lst xs)))
def tLst (t:TA):TE:=λσ H Q=>t σ H (tLst.I Q)
def ub {x1}(h:PA X es t):PE X (.Tuple es x1 pos) (tTup t):=by
 intro w9 s σ H Q I hq;refine wpAny_Tuple_spliced (thn (h pos w9 s σ H _ I hq) λus s1 ⟨xs,H1,I1,r,z,q⟩=>⟨by rw[<- r.length];exact z,?_⟩);have hf:H1 s1.heap.objs.size=none:=I1.hok.fresh (l5 _);refine⟨.ref s1.heap.objs.size,upd H1 s1.heap.objs.size (.tup xs),I1.laid (t':=s1.toks) (λb u e=>Heap.get?_push_of_some _ e) (l5 _) ?_,rfl,q _ hf⟩;exact⟨z,us,r,⟨_,Heap.get?_push_size _ rfl,rfl,_,rfl⟩⟩
def uc (h:PA X es t):PE X (.List es pos) (tLst t):=by
 intro w9 s σ H Q I hq;refine wpAny_List_spliced (thn (h pos w9 s σ H _ I hq) λus s1 ⟨xs,H1,I1,r,z,q⟩=>⟨by rw[<- r.length];exact z,?_⟩);have hf:H1 s1.heap.objs.size=none:=I1.hok.fresh (l5 _);refine⟨.ref s1.heap.objs.size,upd H1 s1.heap.objs.size (.lst xs),I1.laid (t':=s1.toks) (λb u e=>Heap.get?_push_of_some _ e) (l5 _) ?_,rfl,q _ hf⟩;exact⟨z,us,0,r,Heap.get?_push_size _ rfl⟩
end
abbrev Sp:=List V->Hp->VK->XK->Prop
abbrev CXT:=List Env->Hp->Shared->XK->Value->Shared->Prop
structure Env0 (P:Program)(w:World)(K:Frag)(mg:Str->Option Value)(base:Heap)(A:Around)(outer:List Env)(s:Shared)(H:Hp):Prop where
 frames:A.frames=some outer
 mod:Mod K mg base
 bs:∀b o,base.get? b=some o->s.heap.get? b=some o/\H b=none
 bsz:base.objs.size<=s.heap.objs.size
 funs:s.heap.FunFrames base outer
 frf:∀b∈frs outer,H b=none
 hok:HOk P w H s.heap
 bare:AllBare s.gens
 tk:0 < s.toks
inductive CE (outer:List Env)(P:Program)(w:World)(H:Hp)(s:Shared)(Q:VK)(u:Value)(s':Shared):Prop
 |mk (v H')(_:s'.os=s.os)(_:AllBare s'.gens)(_:Un (frs outer) [] H H' s.heap s'.heap)(_:HOk P w H' s'.heap)(_:0 < s'.toks)(_:RelV v u)(_:Q v H')
def CR (CX:CXT)(outer:List Env)(P:Program)(w:World)(H:Hp)(s:Shared)(Q:VK)(E:XK)(r:Result)(s':Shared):Prop:=
 match r with
 | .ok (.ret u)=>CE outer P w H s Q u s'
 | .ok _=>False
 | .error e=>CX outer H s E e s'
structure FnOk (P:Program)(w:World)(K:Frag)(mg:Str->Option Value)(base:Heap)(CX:CXT)(k:Nat)(f:Addr)(fd:FuncData)(ps:List Str)(sp:Sp):Prop where
 len:∀vs H Q E,sp vs H Q E->vs.length=ps.length
 run:∀(A:Around) (outer:List Env) (s:Shared) (H:Hp) (args:Args) (us:List Value) (vs:List V) (Q:VK) (E:XK),Room k A->Env0 P w K mg base A outer s H->BindsTo s fd args (ps.zip us)->Vals vs us->sp vs H Q E →
  codeAny (model P w) A (.call (.ref f) args) (CR CX outer P w H s Q E) s
def FnOk.mono {P:Program}{w:World}{K:Frag}{mg:Str->Option Value}{base:Heap}{CX:CXT}{j k:Nat}{f:Addr}{fd:FuncData}{ps:List Str}{sp:Sp}(F:FnOk P w K mg base CX j f fd ps sp)(h:j<=k):
  FnOk P w K mg base CX k f fd ps sp:=⟨F.len,λA outer s H args us vs Q E hr=>F.run A outer s H args us vs Q E (hr.mono h)⟩
def FnOk.imp {P:Program}{w:World}{K:Frag}{mg:Str->Option Value}{base:Heap}{CX:CXT}{k:Nat}{f:Addr}{fd:FuncData}{ps:List Str}{sp sp':Sp}(F:FnOk P w K mg base CX k f fd ps sp)
  (h:∀vs H Q E,sp' vs H Q E->sp vs H Q E):FnOk P w K mg base CX k f fd ps sp':=
 ⟨λvs H Q E q=>F.len vs H Q E (h _ _ _ _ q),λA outer s H args us vs Q E hr he hb hv hs=>F.run A outer s H args us vs Q E hr he hb hv (h _ _ _ _ hs)⟩
def Env0.make {P:Program}{w:World}{K:Frag}{mg:Str->Option Value}{base:Heap}{A:Around}{outer:List Env}{s:Shared}{H:Hp}(e:Env0 P w K mg base A outer s H)(C:Addr)(us:List Value)(kw:List (Str×Value)):
  Env0 P w K mg base (A.under (.builtin "type.__call__" ⟨.ref C::us,kw⟩)) outer s H:=⟨by first |exact e.frames |(simpa[Around.under,Code.envs,Code.isFrame,pushEnvs] using e.frames),e.mod,e.bs,e.bsz,e.funs,e.frf,e.hok,e.bare,e.tk⟩
section
variable {X:Cx}{w9:List (Addr×Obj)}{σ:St}{H:Hp}{s s':Shared}
def Inv.env0 (I:Inv X w9 σ H s):Env0 X.prog X.w X.K X.mg X.base X.A X.stack s H:=
 ⟨I.ok.frames,I.ok.mod,I.bs,l11 I.ok.bsz I.sz,I.stack,I.stkFree,I.hok,I.bare,I.tk⟩
def Inv.after {Q:VK}{u:Value}(I:Inv X w9 σ H s)(h:CE X.stack X.prog X.w H s Q u s'):EP X w9 σ Q u s':=by
 obtain⟨v,H',os,bare,un,hok,tk',r,q⟩:=h;obtain⟨hh,g,d,t,os'⟩:=s';obtain rfl:os'=s.os:=os;exact⟨v,H',I.call (h':=hh) (g':=g) (d':=d) (t':=t) (ch:=[]) un hok bare (λb z=>absurd z (by simp)) tk',r,q⟩
end
abbrev tCall.K0 (sp:Sp) (dvs:List V) (E:XK) (Q:VK) (vs:List V) (H1:Hp):Prop:=sp (vs++dvs) H1 Q E
def tCall (sp:Sp)(dvs:List V)(E:XK)(t:TA):TE:=λσ H Q=>t σ H (tCall.K0 sp dvs E Q)
abbrev tMake.K0 (C:Addr) (sp:Sp) (dvs:List V) (E:XK) (Q:VK) (vs:List V) (H1:Hp):Prop:=∀x dx,H1 x=none->H1 dx=none->dx≠x->sp (.ref x::(vs++dvs)) (upd (upd H1 dx (.own x)) x (.ins C dx [])) (λv H2=>v = .non/\Q (.ref x) H2) E
def tMake (C:Addr)(sp:Sp)(dvs:List V)(E:XK)(t:TA):TE:=λσ H Q=>t σ H (tMake.K0 C sp dvs E Q)
def Binds (K:Frag)(fd:FuncData)(ps:List Str)(ds:List Value):Prop:=
 ∀(s:Shared) (us:List Value),K.In s.heap->(us++ds).length=ps.length->BindsTo s fd ⟨us,[]⟩ (ps.zip (us++ds))
def Binds.all {K:Frag}{fd:FuncData}{ps:List Str}(h:∀us:List Value,us.length=ps.length->bindArgs fd ⟨us,[]⟩=pure (ps.zip us)):Binds K fd ps []:=λs us _ hl=>by
 rw[l29] at hl ⊢;exact .of_eq (h us hl)
def iR (CX:CXT)(X:Cx)(E:XK):Prop:=∀(w9:List (Addr×Obj)) (σ:St) (H:Hp) (s:Shared) (e:Value) (s':Shared),Inv X w9 σ H s->CX X.stack H s E e s'->X.xe e s'
section
variable {X:Cx}{CX:CXT}{k:Nat}{f C:Addr}{fd:FuncData}{ps:List Str}{sp:Sp}{dvs:List V}{ds:List Value}{E:XK}{x m:Str}{p pos w4:Pos}{e o:Expr}{es:List Expr}{ta:TE}{t:TA}
def qv {w9:List (Addr×Obj)}{σ:St}{H:Hp}{s:Shared}{Q:VK}{us:List Value}{vs:List V}(F:FnOk X.prog X.w X.K X.mg X.base CX k f fd ps sp)(hr:Room k X.A)(hb:Binds X.K fd ps ds)(hd:Vals dvs ds)(hx:iR CX X E)
  (I:Inv X w9 σ H s)(r:Vals vs us)(h:sp (vs++dvs) H Q E):wpAny (model X.prog X.w) X.A (call (.ref f) us) (EP X w9 σ Q) X.xe s:=by
 have r2:Vals (vs++dvs) (us++ds):=r.append hd;have hl:(us++ds).length=ps.length:=by rw[<- r2.length];exact F.len _ _ _ _ h
 refine wpAny_call (codeAny_mono (F.run X.A X.stack s H ⟨us,[]⟩ (us++ds) (vs++dvs) Q E hr I.env0 (hb s us I.kIn hl) r2 h) λr s' hq=>?_);cases r with
 |error e=>exact hx w9 σ H s e s' I hq
 |ok fl=>
  cases fl with
  |ret u=>exact I.after hq
  |next=>exact False.elim hq
  |brk=>exact False.elim hq
  |cont=>exact False.elim hq
def rz (F:FnOk X.prog X.w X.K X.mg X.base CX k f fd ps sp)(hr:Room k X.A)(hg:Gl X x)(hm:X.mg x=some (.ref f))(hk:keepIn X.K (.ref f)=true)(hb:Binds X.K fd ps ds)(hd:Vals dvs ds)(hx:iR CX X E)
  (ha:PA X (e::es) t)(hdb:(x==("__debug__":Str))=false:=by decide) (he:starEach (e::es) X.env=(false,eval e X.env)::starEach es X.env:=by rfl) (hpl:(backTo pos (starEach es X.env)).any (·.1)=false:=by rfl):
  PE X (.Call (.Name x p) (e::es) [] pos) (tCall sp dvs E t):=by
 intro w9 s σ H Q I h;refine wpAny_Call_Name_kw (jJ I hg hm ?_ hdb);refine callWith_K (h₀:=X.base) I.ok.mod.kin hk (thn (ha pos w9 s σ H _ I h) λus s1 ⟨vs,H1,I1,r,q⟩=>⟨I1.kIn,?_⟩) he hpl;exact qv F hr hb hd hx I1 r q
structure Mk (K:Frag)(C f:Addr):Prop where
 makes:makesIn K C=true
 init:findIn K (.ref C) "__init__"=some (some (.ref f))
 fn:isFn K (.ref f)=true
 kp:keepIn K (.ref C)=true
def oU {w9:List (Addr×Obj)}{σ:St}{H:Hp}{s:Shared}{Q:VK}{us:List Value}{vs:List V}(M:Mk X.K C f)(F:FnOk X.prog X.w X.K X.mg X.base CX k f fd ps sp)(hr:Room (k+1) X.A)(hb:Binds X.K fd ps ds)(hd:Vals dvs ds)
  (hx:iR CX X E)(I:Inv X w9 σ H s)(r:Vals vs us)
  (h:∀x dx,H x=none->H dx=none->dx≠x->sp (.ref x::(vs++dvs)) (upd (upd H dx (.own x)) x (.ins C dx [])) (λv H2=>v = .non/\Q (.ref x) H2) E):
  wpAny (model X.prog X.w) X.A (call (.ref C) us) (EP X w9 σ Q) X.xe s:=by
 have hq:=h (s.heap.objs.size+1) s.heap.objs.size (I.hok.fresh (Nat.le_succ _)) (I.hok.fresh (l5 _)) (l30 (l67 _));have I2:=Inv.made (C:=C) I;have r2:Vals (V.ref (s.heap.objs.size+1)::(vs++dvs)) (Value.ref (s.heap.objs.size+1)::(us++ds)) := .cons rfl (r.append hd);have hl:(Value.ref (s.heap.objs.size+1)::us++ds).length=ps.length:=by
  have e:=r2.length;rw[F.len _ _ _ _ hq] at e;exact e.symm
 refine wpAny_call (oT (f := f) I.kIn M.makes M.init (beq_iff_eq.mp M.fn) (codeAny_mono (F.run _ X.stack _ _ ⟨Value.ref (s.heap.objs.size+1)::us,[]⟩ (Value.ref (s.heap.objs.size+1)::(us++ds)) _ _ E (hr.make C us [])
  (I2.env0.make C us []) (hb _ (Value.ref (s.heap.objs.size+1)::us) I2.kIn hl) r2 hq) λr s' hq'=>?_))
 cases r with
 |error e=>exact hx w9 σ _ _ e s' I2 hq'
 |ok fl=>
  cases fl with
  |ret u=>
   obtain⟨v,H',I3,rv,ev,q3⟩:=I2.after hq';subst ev;exact⟨rv,⟨V.ref (s.heap.objs.size+1),H',I3,rfl,q3⟩⟩
  |next=>exact False.elim hq'
  |brk=>exact False.elim hq'
  |cont=>exact False.elim hq'
def rA (M:Mk X.K C f)(F:FnOk X.prog X.w X.K X.mg X.base CX k f fd ps sp)(hr:Room (k+1) X.A)(hg:Gl X x)(hm:X.mg x=some (.ref C))(hb:Binds X.K fd ps ds)(hd:Vals dvs ds)(hx:iR CX X E)
  (ha:PA X (e::es) t)(hdb:(x==("__debug__":Str))=false:=by decide) (he:starEach (e::es) X.env=(false,eval e X.env)::starEach es X.env:=by rfl) (hpl:(backTo pos (starEach es X.env)).any (·.1)=false:=by rfl):
  PE X (.Call (.Name x p) (e::es) [] pos) (tMake C sp dvs E t):=by
 intro w9 s σ H Q I h;refine wpAny_Call_Name_kw (jJ I hg hm ?_ hdb);refine callWith_K (h₀:=X.base) I.ok.mod.kin M.kp (thn (ha pos w9 s σ H _ I h) λus s1 ⟨vs,H1,I1,r,q⟩=>⟨I1.kIn,?_⟩) he hpl;exact oU M F hr hb hd hx I1 r q
end
structure FnScope (N P:List Str)(sc:Scope):Prop where
 kind:sc.kind = .function
 co:sc.isCoroutine=false
 gen:sc.isGenerator=false
 nd:N.Nodup
 pre:N.take P.length=P
 par:∀x∈P,sc.names.lookup x=some .local ∨ sc.names.lookup x=some .cell
 nofree:∀y∈sc.names,y.2 ≠ .free
def mkS {N P:List Str}{sc:Scope}(a:sc.kind = .function:=by rfl) (b:sc.isCoroutine=false:=by rfl) (c:sc.isGenerator=false:=by rfl) (d:N.Nodup:=by decide) (e:N.take P.length=P:=by rfl) (f:∀x∈P,sc.names.lookup x=some .local ∨ sc.names.lookup x=some .cell:=by decide) (g:∀y∈sc.names,y.2 ≠ .free:=by decide):FnScope N P sc:=⟨a,b,c,d,e,f,g⟩
theorem iS {kindOf:Str->Option NameKind}{x:Str}:∀{binds:List (Str×Value)} {m:Str->Option Value},(∀v,(x,v)∉binds)->bindL kindOf binds m x=m x
 | [],_,_=>rfl
 |(n,v)::r,m,h=>by
  unfold bindL;rw[iS λw hw=>h w (l7 _ hw)];split
  ·have:x≠n:=by rintro rfl;exact h v l10
   simp[this]
  ·rfl
theorem iT {kindOf:Str->Option NameKind}{x:Str}:∀{binds:List (Str×Value)} {m:Str->Option Value},(∀v,(x,v)∉binds)->bindC kindOf binds m x=m x
 | [],_,_=>rfl
 |(n,v)::r,m,h=>by
  unfold bindC;rw[iT λw hw=>h w (l7 _ hw)];split
  ·rfl
  ·have:x≠n:=by rintro rfl;exact h v l10
   simp[this]
theorem iU {kindOf:Str->Option NameKind}{x:Str}{v:Value}:∀{P:List Str} {vs:List Value} {i:Nat} {m:Str->Option Value},P.Nodup->P[i]? = some x->vs[i]? = some v->kindOf x=some .local →
  bindL kindOf (P.zip vs) m x=some v
 | [],_,_,_,_,h,_,_=>by simp at h
 |_::_,[],_,_,_,_,h,_=>by simp at h
 |p::P,w::vs,0,m,nd,h1,h2,hk=>by
  simp at h1 h2;subst h1;subst h2;show bindL kindOf ((p,w)::P.zip vs) m p=_;unfold bindL;rw[iS λv hv=>(l75.mp nd).1 (List.of_mem_zip hv).1,if_pos hk];simp
 |p::P,w::vs,i+1,m,nd,h1,h2,hk=>by
  show bindL kindOf ((p,w)::P.zip vs) m x=_;unfold bindL;exact iU (i:=i) (l75.mp nd).2 (by simpa using h1) (by simpa using h2) hk
theorem iV {kindOf:Str->Option NameKind}{x:Str}{v:Value}:∀{P:List Str} {vs:List Value} {i:Nat} {m:Str->Option Value},P.Nodup->P[i]? = some x->vs[i]? = some v->kindOf x≠some .local →
  bindC kindOf (P.zip vs) m x=some v
 | [],_,_,_,_,h,_,_=>by simp at h
 |_::_,[],_,_,_,_,h,_=>by simp at h
 |p::P,w::vs,0,m,nd,h1,h2,hk=>by
  simp at h1 h2;subst h1;subst h2;show bindC kindOf ((p,w)::P.zip vs) m p=_;unfold bindC;rw[iT λv hv=>(l75.mp nd).1 (List.of_mem_zip hv).1,if_neg hk];simp
 |p::P,w::vs,i+1,m,nd,h1,h2,hk=>by
  show bindC kindOf ((p,w)::P.zip vs) m x=_;unfold bindC;exact iV (i:=i) (l75.mp nd).2 (by simpa using h1) (by simpa using h2) hk
def start (N:List Str)(vs:List V):St:=vs.map some++List.replicate (N.length - vs.length) none
def uZ {a0 a1:Str}{v0:V}:start [a0,a1] [v0]=[some v0,none]:=rfl
def u0 {a0 a1:Str}{v0 v1:V}:start [a0,a1] [v0,v1]=[some v0,some v1]:=rfl
def rB {a0 a1 a2:Str}{v0:V}:start [a0,a1,a2] [v0]=[some v0,none,none]:=rfl
def u1 {a0 a1 a2:Str}{v0 v1:V}:start [a0,a1,a2] [v0,v1]=[some v0,some v1,none]:=rfl
def ud {a0 a1 a2 a3:Str}{v0:V}:start [a0,a1,a2,a3] [v0]=[some v0,none,none,none]:=rfl
def ue {a0 a1 a2 a3:Str}{v0 v1:V}:start [a0,a1,a2,a3] [v0,v1]=[some v0,some v1,none,none]:=rfl
def uf {a0 a1 a2 a3:Str}{v0 v1 v2:V}:start [a0,a1,a2,a3] [v0,v1,v2]=[some v0,some v1,some v2,none]:=rfl
def ug {a0 a1 a2 a3 a4:Str}{v0:V}:start [a0,a1,a2,a3,a4] [v0]=[some v0,none,none,none,none]:=rfl
def uh {a0 a1 a2 a3 a4:Str}{v0 v1:V}:start [a0,a1,a2,a3,a4] [v0,v1]=[some v0,some v1,none,none,none]:=rfl
def oV {a0 a1 a2 a3 a4:Str}{v0 v1 v2:V}:start [a0,a1,a2,a3,a4] [v0,v1,v2]=[some v0,some v1,some v2,none,none]:=rfl
def ui {a0 a1 a2 a3 a4 a5:Str}{v0 v1 v2:V}:start [a0,a1,a2,a3,a4,a5] [v0,v1,v2]=[some v0,some v1,some v2,none,none,none]:=rfl
def u2 {a0 a1 a2 a3 a4 a5 a6:Str}{v0:V}:start [a0,a1,a2,a3,a4,a5,a6] [v0]=[some v0,none,none,none,none,none,none]:=rfl
def uj {a0 a1 a2 a3 a4 a5 a6 a7 a8 a9 a10 a11 a12:Str}{v0 v1 v2 v3 v4:V}:start [a0,a1,a2,a3,a4,a5,a6,a7,a8,a9,a10,a11,a12] [v0,v1,v2,v3,v4]=[some v0,some v1,some v2,some v3,some v4,none,none,none,none,none,none,none,none]:=rfl
def uk {a0 a1 a2 a3 a4 a5 a6 a7 a8 a9 a10 a11 a12 a13 a14 a15 a16 a17:Str}{v0:V}:start [a0,a1,a2,a3,a4,a5,a6,a7,a8,a9,a10,a11,a12,a13,a14,a15,a16,a17] [v0]=[some v0,none,none,none,none,none,none,none,none,none,none,none,none,none,none,none,none,none]:=rfl
def cxOf (CX:CXT)(P:Program)(w:World)(K:Frag)(mg:Str->Option Value)(base:Heap)(N:List Str)(qual:Str)(scope:Scope)(f:Addr)(cd:Value)(A:Around)(outer:List Env)(s:Shared)(H:Hp)(E:XK):Cx where
 prog:=P
 w:=w
 K:=K
 mg:=mg
 base:=base
 A:=A.deeper (envOfC qual scope s.heap.objs.size f cd)
 N:=N
 s₀:=s
 H₀:=H
 env:=envOfC qual scope s.heap.objs.size f cd
 outer:=outer
 stack:=envOfC qual scope s.heap.objs.size f cd::outer
 ex:=[]
 calm:=true
 fn:=λ_=>true
 pn:=[]
 xe:=λe s'=>wpAny (model P w) (A.deeper (envOfC qual scope s.heap.objs.size f cd)) (leaving (envOfC qual scope s.heap.objs.size f cd) e) (λ_ s''=>CX outer H s E e s'') (λe' s''=>CX outer H s E e' s'') s'
def kK {sc:Scope}{n:Nat}{x:Str}(h:sc.names.lookup x=some .cell):∃c,(cellsFrom n sc.names []).lookup x=some c:=by
 have q:=PySem.W.cellsFrom_some sc.names n [] (.inl h);exact l76.mp q
def mD {CX:CXT}{P:Program}{w:World}{K:Frag}{mg:Str->Option Value}{base:Heap}{N ps:List Str}{qual:Str}{scope:Scope}{f:Addr}{cd:Value}{A:Around}{outer:List Env}{s s1:Shared}{H:Hp}{E:XK}{us:List Value}{vs:List V}
  (S:FnScope N ps scope)(hd:A.handled=none)(e0:Env0 P w K mg base A outer s H)(hl:vs.length=ps.length)(r:Vals vs us)(htk:0 < s1.toks)
  (x:InCallC s s.heap.objs.size (bindL (envOfC qual scope s.heap.objs.size f cd).kindOf (ps.zip us) λ_=>none) (cellsFrom (s.heap.objs.size+1) scope.names []) (bindC (envOfC qual scope s.heap.objs.size f cd).kindOf (ps.zip us) λ_=>none) s1):
  Inv (cxOf CX P w K mg base N qual scope f cd A outer s H E) [] (start N vs) H s1:=by
 have hpl:ps.length<=N.length:=by have:=congrArg List.length S.pre;rw[l21] at this;omega
 obtain⟨h1,tk,rfl,hk⟩:=x.done;have noA:∀b:Addr,b∉(cxOf CX P w K mg base N qual scope f cd A outer s H E).ex:=λb z=>absurd (show b∈([]:List Addr) from z) (by simp);refine ⟨⟨e0.mod,S.kind,rfl,rfl,l5 _,λy z c h1 h2=>?_,λy hy=>?_,λy c _ h=>?_,λ_=>hd,Around.frames_deeper e0.frames, .inr ⟨rfl,rfl⟩,λb z=>absurd z (noA b),e0.bs,e0.bsz,λb _ _=>noA b,λb z=>absurd z (noA b),e0.funs,e0.frf⟩,
  rfl,e0.bare,Un.kept hk,⟨_,x.toInCall.ns,λi y v h1 h2 h3=>?_⟩,λy c h=>⟨_,x.cell y c h⟩,e0.hok.fresh (l5 _),λy c h=>?_,λp hp=>absurd (show p∈([]:List (Addr×Obj)) from hp) (by simp),e0.hok.kept hk,?_,htk⟩
 ·exact name_of_addr x.apart (PySem.mem_of_lookup h1) (PySem.mem_of_lookup h2)
 ·have hy:scope.names.lookup y=some .cell ∨ scope.names.lookup y=some .free:=hy;rcases hy with hy |hy
  ·exact kK hy
  ·exact absurd rfl (S.nofree _ (PySem.mem_of_lookup hy))
 ·exact Nat.le_of_lt (x.above y c (PySem.mem_of_lookup h))
 ·have hi:i < vs.length:=by
   unfold start at h2;by_cases hi:i < vs.length
   ·exact hi
   ·rw[List.getElem?_append_right (by simpa using hi)] at h2;rw[List.getElem?_replicate] at h2;split at h2 <;> cases h2
  have ha:vs[i]? = some v:=by
   unfold start at h2;rw[List.getElem?_append_left (by simpa using hi),List.getElem?_map] at h2;cases e:vs[i]? with
   |none=>rw[e] at h2;cases h2
   |some a=>rw[e] at h2;cases h2;rfl
  obtain⟨u,hu,rv⟩:=r.get ha;have hp:ps[i]? = some y:=by
   rw[<- S.pre,List.getElem?_take_of_lt nofun];exact h1
  have ndP:ps.Nodup:=by rw[<- S.pre];exact S.nd.sublist (List.take_sublist _ _)
  refine⟨u,rv,?_⟩;rcases S.par y (l15 hp) with k |k
  ·exact .inl ⟨k,iU ndP hp hu k⟩
  ·obtain⟨c,e⟩:=kK (n:=s.heap.objs.size+1) k;refine .inr ⟨.inl k,c,e,?_⟩;have q:=x.cell y c e;rw[iV ndP hp hu (by show scope.names.lookup y≠_;rw[k];decide)] at q;exact q
 ·exact e0.hok.fresh (Nat.le_of_lt (x.above y c (PySem.mem_of_lookup h)))
 ·unfold start;show _=N.length;rw[l8,l0,l36];omega
def u4 {CX:CXT}{P:Program}{w:World}{K:Frag}{mg:Str->Option Value}{base:Heap}{k:Nat}{f:Addr}{name qual:Str}{params:Arguments}{body:List Stmt}{scope:Scope}{dV kV doc pm cdv ct oc:Value}{an od:Option Addr}
  {osl:Array (Option Value)}{N ps:List Str}{sp:Sp}(lk:K.lookup f=some ⟨oc,od, .func (fnOf name qual params body scope dV kV doc pm an cdv ct),osl⟩)(hcd:codeIn K cdv qual=true)(S:FnScope N ps scope)
  (len:∀vs H Q E,sp vs H Q E->vs.length=ps.length)
  (v7:∀(A:Around)(outer:List Env)(s:Shared)(H:Hp)(vs:List V)(Q:VK)(E:XK),Room k (A.deeper (envOfC qual scope s.heap.objs.size f cdv))->sp vs H Q E →
   ∃t,PSs (cxOf CX P w K mg base N qual scope f cdv A outer s H E) body t/\t { nx:=λ_ H'=>Q .non H',rt:=Q } (start N vs) H):
  FnOk P w K mg base CX (k+1) f (fnOf name qual params body scope dV kV doc pm an cdv ct) ps sp:=by
 refine⟨len,λA outer s H args us vs Q E hr e0 hb r hsp=>?_⟩;have hl:=len _ _ _ _ hsp;have KX:K.In s.heap:=e0.mod.kin.keeps λb o e=>(e0.bs b o e).1;have lim:s.heap.NoLimit:=e0.mod.nolimit.keeps λb o e=>(e0.bs b o e).1;have hkind:∀y∈ps.zip us,scope.names.lookup y.1=some .local ∨ (scope.names.lookup y.1=some .cell/\((cellsFrom (s.heap.objs.size+1) scope.names []).lookup y.1).isSome=true):=λ⟨n,v⟩ hy=>by
  rcases S.par n (List.of_mem_zip hy).1 with q |q
  ·exact .inl q
  ·exact .inr ⟨q,PySem.W.cellsFrom_some _ _ _ (.inl q)⟩
 refine codeAny_call_function hr.depth (KX _ _ lk) rfl S.co S.gen rfl (PySem.W.codeRec_of KX hcd) (hb _ _ _ _ ?_);refine wpAny_with_toks (n:=1) e0.tk (wpAny_newFunctionEnv_cells S.kind hkind λenv he s1 x htk=>?_);subst he;refine⟨lim.keeps x.toInCall.keep,codeAny_func ?_⟩;obtain⟨t,ht,hq⟩:=v7 A outer s H vs Q E (hr.deeper _) hsp;have I:Inv (cxOf CX P w K mg base N qual scope f cdv A outer s H E) [] (start N vs) H s1:=mD S hr.hd e0 hl r htk x;refine wpAny_mono (ht [] s1 (start N vs) H _ I hq) (λfl s' hs=>?_) λe s' hs=>hs;have fin:∀{σ':St} {H':Hp} {v:V} {u:Value},Inv (cxOf CX P w K mg base N qual scope f cdv A outer s H E) [] σ' H' s'->RelV v u->Q v H'->CE outer P w H s Q u s':=
  λ{σ' H' v u} J rv q=>⟨v,H',J.os,J.bare,J.base,J.hok,J.tk,rv,q⟩
 cases fl with
 |ret u=>
  obtain⟨v,σ',H',J,rv,q⟩:=hs;exact fin J rv q
 |next=>
  obtain⟨σ',H',J,q⟩:=hs;exact fin (v:=V.non) (u:=Value.none) J rfl q
 |brk=>
  obtain⟨_,_,_,q⟩:=hs;exact False.elim q
 |cont=>
  obtain⟨_,_,_,q⟩:=hs;exact False.elim q
section
variable {X:Cx}{x:Str}{p pos:Pos}{e:Expr}{es:List Expr}{t:TA}{id T:String}{r:List V->Hp->VK->Prop}
abbrev tCB.K0 (r:List V->Hp->VK->Prop)(Q:VK)(vs:List V)(H1:Hp):Prop:=r vs H1 Q
def tCB (r:List V->Hp->VK->Prop)(t:TA):TE:=λσ H Q=>t σ H (tCB.K0 r Q)
def oW (hc:cV X (.builtin id) r)(hg:Gl X x)(hm:X.mg x=none)(hv:bootBuiltins x=some (.builtin id))(ha:PA X (e::es) t)(hn:x≠"__name__":=by decide) (hdb:(x==("__debug__":Str))=false:=by decide)
  (he:starEach (e::es) X.env=(false,eval e X.env)::starEach es X.env:=by rfl) (hpl:(backTo pos (starEach es X.env)).any (·.1)=false:=by rfl):PE X (.Call (.Name x p) (e::es) [] pos) (tCB r t):=by
 intro w9 s σ H Q I h;refine wpAny_Call_Name_kw (iP I hg hm hv ?_ hn hdb);exact PyProof.Rows.callWith_builtin1 (thn (ha pos w9 s σ H _ I h) λus s1 ⟨vs,H1,I1,r1,q1⟩=>hc w9 s1 σ H1 vs us Q I1 r1 q1) he hpl
def mE (hc:cV X (.type T) r)(hg:Gl X x)(hm:X.mg x=none)(hv:bootBuiltins x=some (.type T))(ha:PA X (e::es) t)(hn:x≠"__name__":=by decide) (hdb:(x==("__debug__":Str))=false:=by decide)
  (he:starEach (e::es) X.env=(false,eval e X.env)::starEach es X.env:=by rfl) (hpl:(backTo pos (starEach es X.env)).any (·.1)=false:=by rfl):PE X (.Call (.Name x p) (e::es) [] pos) (tCB r t):=by
 intro w9 s σ H Q I h;refine wpAny_Call_Name_kw (iP I hg hm hv ?_ hn hdb);exact callWith_type1 (thn (ha pos w9 s σ H _ I h) λus s1 ⟨vs,H1,I1,r1,q1⟩=>hc w9 s1 σ H1 vs us Q I1 r1 q1) he hpl
end
end L2
namespace HT
open PySem PyProof.Rows
section
open PySem.SeqAt
open PySem.AutoSeq1 (wpAny_loadPart')
open PySem.MeetsSeq PySem.MeetsSeq2 PySem.MeetsSeq3
end
section
variable {prog:Program}{w:World}{A:Around}{E:Value->Shared->Prop}{s:Shared}
def sIx (n d:Nat):Option Int->Nat
 |none=>d
 |some v=>if v < 0 then (v+(n:Int)).toNat else min v.toNat n
end
end HT
namespace L2
open PySem PySem.Spec PyProof.Rows
abbrev TO:=St->Hp->(Option Int->Hp->Prop)->Prop
def PO (X:Cx)(e:Option Expr)(t:TO):Prop:=
 ∀(w9:List (Addr×Obj)) (s:Shared) (σ:St) (H:Hp) (Q:Option Int->Hp->Prop),Inv X w9 σ H s->t σ H Q →
  wpAny (model X.prog X.w) X.A (evalPart e X.env) (λu s'=>∃o H',Inv X w9 σ H' s'/\IsPart u o/\Q o H') X.xe s
def jO:TO:=λ_ H Q=>Q none H
inductive tPart.I (Q:(Option Int->Hp->Prop))(x:V)(H1:Hp):Prop
 |mk (i)(_:x = .int i)(_:Q (some i) H1)
def tPart (t:TE):TO:=λσ H Q=>t σ H (tPart.I Q)
section
variable {X:Cx}{e:Expr}{te:TE}{lo hi:Option Expr}{tl th:TO}{pos p2:Pos}
def rC:PO X none jO:=by
 intro w9 s σ H Q I h;rw[evalPart_none];exact wpAny_pure ⟨none,H,I, .none,h⟩
def rD (h:PE X e te):PO X (some e) (tPart te):=by
 intro w9 s σ H Q I hw;rw[evalPart_some];refine thn (h w9 s σ H _ I hw) λu s1 ⟨x,H1,I1,r1,q1⟩=>?_;obtain⟨i,rfl,q⟩:=q1;obtain⟨t,rfl⟩:=r1;exact⟨some i,H1,I1, .int i t,q⟩
def SlR (X:Cx)(r:V->Option Int->Option Int->Hp->VK->Prop):Prop:=
 ∀(w9:List (Addr×Obj)) (s:Shared) (σ:St) (H:Hp) (x:V) (v vl vu:Value) (lo hi:Option Int) (sl:Addr) (Q:VK),Inv X w9 σ H s->RelV x v->s.heap.IsSliceOf sl vl vu .none->IsPart vl lo->IsPart vu hi->r x lo hi H Q →
  ∃T id,typeLookup (.type T) "__getitem__"=pure (some (.builtin id))/\s.TypeIs v T/\wpAny (model X.prog X.w) X.A (getItem v (.ref sl)) (EP X w9 σ Q) X.xe s
abbrev tSl.K2 (r:V->Option Int->Option Int->Hp->VK->Prop) (Q:VK) (x:V) (l:Option Int) (u:Option Int) (H3:Hp):Prop:=r x l u H3 Q
abbrev tSl.K1 (r:V->Option Int->Option Int->Hp->VK->Prop) (th:TO) (σ:St) (Q:VK) (x:V) (l:Option Int) (H2:Hp):Prop:=th σ H2 (tSl.K2 r Q x l)
abbrev tSl.K0 (r:V->Option Int->Option Int->Hp->VK->Prop) (tl:TO) (th:TO) (σ:St) (Q:VK) (x:V) (H1:Hp):Prop:=tl σ H1 (tSl.K1 r th σ Q x)
def tSl (r:V->Option Int->Option Int->Hp->VK->Prop)(te:TE)(tl th:TO):TE:=λσ H Q=>te σ H (tSl.K0 r tl th σ Q)
def oX {r:V->Option Int->Option Int->Hp->VK->Prop}(hr:SlR X r)(he:PE X e te)(hl:PO X lo tl)(hu:PO X hi th):PE X (.Subscript e (.Slice lo hi none p2) pos) (tSl r te tl th):=by
 intro w9 s σ H Q I h;refine Subscript_ (thn (he w9 s σ H _ I h) λv s1 ⟨x,H1,I1,r1,q1⟩=>?_);refine wpAny_Slice (thn (hl w9 s1 σ H1 _ I1 q1) λvl s2 ⟨l,H2,I2,pl,q2⟩=>thn (hu w9 s2 σ H2 _ I2 q2) λvu s3 ⟨u,H3,I3,pu,q3⟩=>?_);rw[evalPart_none];refine wpAny_pure ?_;have I4:Inv X w9 σ H3 { s3 with heap:=s3.heap.push { cls := .type "slice",data := .fields #[vl,vu, .none] } }:=I3.kept (t':=s3.toks) λb ob q=>Heap.get?_push_of_some _ q;obtain⟨T,id,hT,ht,hg⟩:=hr w9 { s3 with heap:=s3.heap.push { cls := .type "slice",data := .fields #[vl,vu, .none] } } σ H3 x v vl vu l u s3.heap.objs.size Q I4 r1 (Heap.IsSliceOf.new ..) pl pu q3;show wpAny (model X.prog X.w) X.A (subscriptTail e (.Slice lo hi none p2) v (.ref s3.heap.objs.size)) (EP X w9 σ Q) X.xe { s3 with heap:=s3.heap.push { cls := .type "slice",data := .fields #[vl,vu, .none] } };exact tail_any (ops:=[.ref s3.heap.objs.size,v]) ht hT hg (by with_unfolding_all rfl)
def cutV (xs:List V)(lo hi:Option Int):List V:=(xs.drop (HT.sIx xs.length 0 lo)).take (HT.sIx xs.length xs.length hi - HT.sIx xs.length 0 lo)
def jP (xs:List V)(lo hi:Option Int):(cutV xs lo hi).length<=xs.length:=by
 unfold cutV;rw[l21,l9];omega
end
def ixN (n:Nat)(i:Int):Option Nat:=if 0<=i then (if i < n then some i.toNat else none) else if -(n:Int)<=i then some (i+n).toNat else none
def atI {α:Type}(xs:List α)(i:Int):Option α:=(ixN xs.length i).bind λj=>xs[j]?
def rE {n:Nat}{i:Int}{j:Nat}(h:ixN n i=some j):seqIndex? i n=some j/\j < n /\ -(n:Int)<=i/\i < n:=by
 unfold ixN at h;by_cases h0:0<=i
 ·rw[if_pos h0] at h;by_cases h1:i < n
  ·rw[if_pos h1] at h;have e:i.toNat=j:=Option.some.inj h;exact⟨by rw[seqIndex_of h0 h1,e],by omega,by omega,h1⟩
  ·rw[if_neg h1] at h;cases h
 ·rw[if_neg h0] at h;by_cases h1 : -(n:Int)<=i
  ·rw[if_pos h1] at h;have e:(i+n).toNat=j:=Option.some.inj h;exact⟨by rw[seqIndex_neg nofun h1,e],by omega,h1,by omega⟩
  ·rw[if_neg h1] at h;cases h
def jQ {α:Type}{xs:List α}{i:Int}{v:α}(h:atI xs i=some v):∃j,seqIndex? i xs.length=some j/\xs[j]? = some v/\j < xs.length /\ -(xs.length:Int)<=i/\i < xs.length:=by
 unfold atI at h;cases e:ixN xs.length i with
 |none=>rw[e] at h;cases h
 |some j=>
  rw[e] at h;obtain⟨h1,h2,h3,h4⟩:=rE e;exact⟨j,h1,h,h2,h3,h4⟩
def ag {α:Type}{xs:List α}{j:Nat}{v:α}(h:xs[j]? = some v):atI xs (j:Int)=some v:=by
 have hj:j < xs.length:=(List.getElem?_eq_some_iff.mp h).1;have e:ixN xs.length (j:Int)=some j:=by
  unfold ixN;rw[if_pos nofun,if_pos nofun];simp
 unfold atI;rw[e];exact h
def oY {α:Type}(xs:List α)(v:α):atI (xs++[v]) (-1)=some v:=by
 have hl:(xs++[v]).length=xs.length+1:=by simp
 have e:ixN (xs++[v]).length (-1)=some xs.length:=by
  unfold ixN;rw[hl,if_neg ∅,if_pos nofun];congr 1;omega
 unfold atI;rw[e];show (xs++[v])[xs.length]? = some v;simp
def mF (b:Expr):Prop:=∀o i,subscripted b false o i=operate [o,i] (getItem o i)
def IxR (X:Cx)(r:R2):Prop:=
 ∀(value slice:Expr) (w9:List (Addr×Obj)) (s:Shared) (σ:St) (H:Hp) (x y:V) (v u:Value) (Q:VK),Inv X w9 σ H s->RelV x v->RelV y u->r x y H Q →
  subscripted slice false v u=operate [v,u] (getItem v u)->wpAny (model X.prog X.w) X.A (subscriptTail value slice v u) (EP X w9 σ Q) X.xe s
def MtR (X:Cx)(id:String)(r:V->List V->Hp->VK->Prop):Prop:=
 ∀(w9:List (Addr×Obj)) (s:Shared) (σ:St) (H:Hp) (x:V) (xs:List V) (v:Value) (us:List Value) (Q:VK),Inv X w9 σ H s->RelV x v->Vals xs us->r x xs H Q →
  wpAny (model X.prog X.w) X.A (call (.builtin id) (v::us)) (EP X w9 σ Q) X.xe s
section
variable {X:Cx}{a b:Expr}{ta tb:TE}{pos:Pos}
def u5 {r:R2}(hr:IxR X r)(ha:PE X a ta)(hb:PE X b tb)(hs:mF b):PE X (.Subscript a b pos) (tOp r ta tb):=by
 intro w9 s σ H Q I h;exact Subscript_ (binT ha hb I h λv u s2 x y H2 I2 rx ry q=>hr a b w9 s2 σ H2 x y v u Q I2 rx ry q (hs _ _))
inductive rIxL (K:Frag)(x y:V)(H:Hp)(Q:VK):Prop
 |mk (p xs i v)(_:x = .ref p)(_:y = .int i)(_:SqL K H p xs)(_:atI xs i=some v)(_:Q v H)
inductive rIxT (K:Frag)(x y:V)(H:Hp)(Q:VK):Prop
 |mk (p xs i v)(_:x = .ref p)(_:y = .int i)(_:SqT K H p xs)(_:atI xs i=some v)(_:Q v H)
inductive rIxS (x y:V)(H:Hp)(Q:VK):Prop
 |mk (z i c)(_:x = .str z)(_:y = .int i)(_:z.length<=sizeLine)(_:atI z.cps.toList i=some c)(_:Q (.str ⟨#[c]⟩) H)
def aT:IxR X (rIxL X.K):=by
 intro value slice w9 s σ H x y v u Q I rx ry h hs;obtain⟨p,xs,i,z,rfl,rfl,hq,he,q⟩:=h;cases rx;obtain⟨t,rfl⟩:=ry;obtain⟨its,r,pl,hz⟩:=I.list hq;obtain⟨j,h1,h2,h3,h4,h5⟩:=jQ he;obtain⟨w,ew,rw'⟩:=r.get h2;have hl:=r.length;have hn:=gy;have fin:EP X w9 σ Q w s:=⟨z,H,I,rw',q⟩;by_cases h0:0<=i
 ·have hj:i.toNat=j:=by
   rw[seqIndex_of h0 h5] at h1;exact Option.some.inj h1
  exact item_listR pl.isList h0 nofun (by rw[hj];simpa using ew) fin hs
 ·have hj:(i+(its.toArray.size:Int)).toNat=j:=by
   rw[seqIndex_neg nofun h4] at h1;rw[l24,<- hl];exact Option.some.inj h1
  exact subscriptTail_builtinR (x:=w) pl.isList.typeIs slot_list_getitem.lookup
   (wpAny_getItem_list_neg (Q:=λr s'=>r=w/\EP X w9 σ Q r s') pl.isList nofun (by rw[l24] <;> omega) nofun (by rw[hj];simpa using ew) ⟨rfl,fin⟩) hs
def aw:IxR X (rIxT X.K):=by
 intro value slice w9 s σ H x y v u Q I rx ry h hs;obtain⟨p,xs,i,z,rfl,rfl,hq,he,q⟩:=h;cases rx;obtain⟨t,rfl⟩:=ry;obtain⟨its,r,pl,hz⟩:=I.tuple hq;obtain⟨j,h1,h2,h3,h4,h5⟩:=jQ he;obtain⟨w,ew,rw'⟩:=r.get h2;have hl:=r.length;have hn:=gy;have fin:EP X w9 σ Q w s:=⟨z,H,I,rw',q⟩;exact subscriptTail_builtinR (x:=w) pl.typeIs slot_tuple_getitem.lookup
  (getItem_tuple (j:=j) (Q:=λr s'=>r=w/\EP X w9 σ Q r s') pl nofun nofun (by rw[l24,<- hl];exact h1) (by simpa using ew) ⟨rfl,fin⟩) hs
def de:IxR X rIxS:=by
 intro value slice w9 s σ H x y v u Q I rx ry h hs;obtain⟨z,i,c,rfl,rfl,hz,he,q⟩:=h;obtain⟨t,rfl⟩:=rx;obtain⟨t',rfl⟩:=ry;obtain⟨j,h1,h2,h3,h4,h5⟩:=jQ he;have hl:z.cps.toList.length=z.length:=by simp[Str.length]
 rw[hl] at h1 h4 h5;have hn:=gy;exact tail_any (typeIs_str s z t) slot_str_getitem.lookup (getItem_str (c := c) (by
  have e1:decide (i < -(2 ^ 63:Int))=false:=decide_eq_false nofun;have e2:decide (i ≥ 2 ^ 63)=false:=decide_eq_false nofun;rw[e1,e2,Bool.or_false]) (by rw[h1];simpa using h2) ⟨.str ⟨#[c]⟩,H,I.tok _,⟨_,rfl⟩,q⟩) hs
def iW (lo hi:Option Int)(n:Nat):(sliceBounds lo hi none n).1=((HT.sIx n 0 lo:Nat):Int)/\(sliceBounds lo hi none n).2.1=((HT.sIx n n hi:Nat):Int)/\(sliceBounds lo hi none n).2.2=1:=by
 refine⟨?_,?_,rfl⟩
 ·cases lo with
  |none=>simp[sliceBounds,HT.sIx]
  |some i=>
   simp only[sliceBounds,HT.sIx,Option.getD_none,show (1:Int) > 0 by decide,if_true];by_cases h:i < 0
   ·simp only[h,if_true] <;> omega
   ·simp only[h,if_false] <;> omega
 ·cases hi with
  |none=>simp[sliceBounds,HT.sIx]
  |some i=>
   simp only[sliceBounds,HT.sIx,Option.getD_none,show (1:Int) > 0 by decide,if_true];by_cases h:i < 0
   ·simp only[h,if_true] <;> omega
   ·simp only[h,if_false] <;> omega
def gT (its:List Value)(lo hi:Option Int):slicePick its.toArray lo hi none=((its.drop (HT.sIx its.length 0 lo)).take (HT.sIx its.length its.length hi - HT.sIx its.length 0 lo)).toArray:=by
 obtain⟨h1,h2,h3⟩:=iW lo hi its.toArray.size;unfold slicePick;rw[h1,h2,h3];simp only[sliceRange_one,pick_run,l24] <;> rfl
inductive rSlL (K:Frag)(x:V)(lo hi:Option Int)(H:Hp)(Q:VK):Prop
 |mk (a xs)(_:x = .ref a)(_:SqL K H a xs)(_:∀p,H p=none->Q (.ref p) (upd H p (.lst (cutV xs lo hi))))
def bW:SlR X (rSlL X.K):=by
 intro w9 s σ H x v vl vu lo hi sl Q I rx hs pl pu h;obtain⟨a,xs,rfl,hx,q⟩:=h;cases rx;obtain⟨its,r,ht,hz⟩:=I.list hx;have w6:=r.length;refine⟨"list",_,slot_list_getitem.lookup,ht.isList.typeIs,?_⟩;refine wpAny_getItem_list_slice ht.isList hs pl pu .none (by simp) ?_ (by rw[l24] <;> omega)
 rw[gT,<- w6];refine⟨.ref s.heap.objs.size,_,I.laid (t':=s.toks) (o := .lst (cutV xs lo hi)) (λb ob q=>Heap.get?_push_of_some _ q) (l5 _) ?_,rfl,q _ (I.hok.fresh (l5 _))⟩;exact⟨l11 (jP xs lo hi) hz,_,0,(r.drop (HT.sIx xs.length 0 lo)).take (HT.sIx xs.length xs.length hi - HT.sIx xs.length 0 lo),Heap.get?_push_size _ rfl⟩
inductive R_call_len_seq (K:Frag)(xs:List V)(H:Hp)(Q:VK):Prop
 |mk (p ys)(_:xs=[.ref p])(_:SqL K H p ys ∨ SqT K H p ys)(_:Q (.int ys.length) H)
def aj:cV X (.builtin "len") (R_call_len_seq X.K):=by
 intro w9 s σ H xs us Q I r h;obtain⟨p,ys,rfl,hq,q⟩:=h;obtain⟨u,rfl,rx⟩:=lD r;cases rx;have hn:=gy;rcases hq with hq |hq
 ·obtain⟨its,r',pl,hz⟩:=I.list hq;have w6:=r'.length;exact Calls.call_len_list pl.isList (by simp only[l24] <;> omega) ⟨.int ys.length,H,I.tok _,⟨s.toks+1,by rw[l24,w6]⟩,q⟩
 ·obtain⟨its,r',pl,hz⟩:=I.tuple hq;have w6:=r'.length;exact len_tuple pl (by simp only[l24] <;> omega) ⟨.int ys.length,H,I.tok _,⟨s.toks+1,by rw[l24,w6]⟩,q⟩
inductive R_call_len_str (xs:List V)(H:Hp)(Q:VK):Prop
 |mk (z)(_:xs=[.str z])(_:z.length<=sizeLine)(_:Q (.int z.length) H)
def ap:cV X (.builtin "len") R_call_len_str:=by
 intro w9 s σ H xs us Q I r h;obtain⟨z,rfl,hz,q⟩:=h;obtain⟨u,rfl,t,rfl⟩:=lD r;have hn:=gy;exact len_str nofun ⟨.int z.length,H,I.tok _,⟨_,rfl⟩,q⟩
inductive R_call_list_of (K:Frag)(xs:List V)(H:Hp)(Q:VK):Prop
 |mk (p ys)(_:xs=[.ref p])(_:SqL K H p ys ∨ SqT K H p ys)(_:∀l,H l=none->Q (.ref l) (upd H l (.lst ys)))
def aq:cV X (.type "list") (R_call_list_of X.K):=by
 intro w9 s σ H xs us Q I r h;obtain⟨p,ys,rfl,hq,q⟩:=h;obtain⟨u,rfl,rx⟩:=lD r;cases rx;have fin:∀(its:List Value),Vals ys its->ys.length<=sizeLine->∀(h':Heap) (c':Nat),(∀b o',s.heap.get? b=some o'->h'.get? b=some o') →
   h'.get? s.heap.objs.size=some { cls := .type "list",dict:=none,data := .seq its.toArray c',slots := #[] }->EP X w9 σ Q (.ref s.heap.objs.size) { s with heap:=h' }:=λits r' hz h' c' kp e=>
  ⟨.ref s.heap.objs.size,_,I.laid (t':=s.toks) kp (l5 _) (show ObjOk X.prog X.w _ h' _ (.lst ys) from ⟨hz,its,c',r',e⟩),rfl,q _ (I.hok.fresh (l5 _))⟩
 rcases hq with hq |hq
 ·obtain⟨its,r',pl,hz⟩:=I.list hq;have w6:=r'.length;obtain⟨o,ho,hc,n,hd⟩:=pl.isList;exact call_list_seq p (.inl rfl) ho hc hd (λh' c' kp e=>fin its r' hz h' c' kp e) (by simp only[l24] <;> omega)
 ·obtain⟨its,r',pl,hz⟩:=I.tuple hq;have w6:=r'.length;obtain⟨o,ho,hc,n,hd⟩:=pl;exact call_list_seq p (.inr rfl) ho hc hd (λh' c' kp e=>fin its r' hz h' c' kp e) (by simp only[l24] <;> omega)
def tyV (K:Frag)(T:String)(x:V)(H:Hp):Prop:=match x with
 | .str _=>T="str"
 | .int _=>T="int"
 | .ref p=>(T="list"/\∃xs,SqL K H p xs) ∨ (T="tuple"/\∃o,K.lookup p=some o/\o.cls = .type "tuple"/\o.dict=none) ∨
   (T="dict"/\((∃kvs,H p=some (.dK kvs)) ∨ ∃kvs,H p=some (.dT kvs))) ∨ (T="set"/\∃S n,H p=some (.set S n))
 |_=>False
def qx {w9:List (Addr×Obj)}{σ:St}{H:Hp}{s:Shared}{T:String}{x:V}{v:Value}(I:Inv X w9 σ H s)(r:RelV x v)(ty:tyV X.K T x H):
  s.TypeIs v T/\∀a,v = .ref a->∃ob,s.heap.get? a=some ob/\ob.dict=none:=by
 cases x with
 |str z=>
  obtain⟨t,rfl⟩:=r;cases (show T="str" from ty);exact⟨typeIs_str s z t,λ_ e=>nomatch e⟩
 |int i=>
  obtain⟨t,rfl⟩:=r;cases (show T="int" from ty);exact⟨typeIs_int s i t,λ_ e=>nomatch e⟩
 |ref p=>
  cases r;rcases ty with ⟨rfl,xs,hq⟩ |⟨rfl,o,hk,hc,hd⟩ |⟨rfl,hk⟩ |⟨rfl,S,n,hk⟩
  ·obtain⟨its,_,pl,_⟩:=I.list hq;refine⟨pl.isList.typeIs,λa e=>?_⟩;cases e;obtain⟨o,n,e,c,hd,_⟩:=pl;exact⟨o,e,hd⟩
  ·refine⟨⟨o,I.kIn p o hk,hc⟩,λa e=>?_⟩;cases e;exact⟨o,I.kIn _ o hk,hd⟩
  ·have z:∃o,s.heap.get? p=some o/\o.ExactDict:=by
    rcases hk with ⟨kvs,hk⟩ |⟨kvs,hk⟩
    ·obtain⟨_,_,_,_,o,_,_,e,ex,_⟩:=I.hok p _ hk;exact⟨o,e,ex⟩
    ·obtain⟨_,_,_,_,o,_,_,e,ex,_⟩:=I.hok p _ hk;exact⟨o,e,ex⟩
   obtain⟨o,e,ex⟩:=z;refine⟨⟨o,e,ex.1⟩,λa e2=>?_⟩;cases e2;exact⟨o,e,ex.2.1⟩
  ·obtain⟨o,_,_,_,e,ex,_⟩:=I.hok p _ hk;refine⟨⟨o,e,ex.1⟩,λa e2=>?_⟩;cases e2;exact⟨o,e,ex.2.1⟩
 |_=>exact False.elim ty
inductive tBM0.I (K:Frag)(T:String)(r:V->List V->Hp->VK->Prop)(Q:VK)(x:V)(H1:Hp):Prop
 |mk (_:tyV K T x H1)(_:r x [] H1 Q)
def tBM0 (K:Frag)(T:String)(r:V->List V->Hp->VK->Prop)(to:TE):TE:=λσ H Q=>to σ H (tBM0.I K T r Q)
inductive tBM.I (K:Frag)(T:String)(r:V->List V->Hp->VK->Prop)(t:TA)(σ:St)(Q:VK)(x:V)(H1:Hp):Prop
 |mk (_:tyV K T x H1)(_:t σ H1 λxs H2=>r x xs H2 Q)
def tBM (K:Frag)(T:String)(r:V->List V->Hp->VK->Prop)(to:TE)(t:TA):TE:=λσ H Q=>to σ H (tBM.I K T r t σ Q)
variable {o e:Expr}{es:List Expr}{to:TE}{t:TA}{name:Str}{w4 y9:Pos}{T id:String}{r:V->List V->Hp->VK->Prop}
def ul (pa:PlainAttrs T)(slot:Slot T name id)(hty:typeOf (.builtin id)=pure (.type "method_descriptor"))(hm:MtR X id r)(ho:PE X o to)
  (j6:attributeBase o name X.env (eval o X.env)=eval o X.env:=by rfl) (v8:(w4.endLine==y9.line)=true:=by rfl):PE X (.Call (.Attribute o name w4) [] [] y9) (tBM0 X.K T r to):=by
 intro w9 s σ H Q I h;refine wpAny_Call_method0_late j6 v8 (thn (ho w9 s σ H _ I h) λv s1 ⟨x,H1,I1,r1,ty,q1⟩=>?_);obtain⟨h1,h2⟩:=qx I1 r1 ty;exact⟨T,id,pa,slot,hty,h1,h2,Calls.callWith_builtin rfl (PySem.evalArgs_none (hm w9 s1 σ H1 x [] v [] Q I1 r1 .nil q1))⟩
def u6 (pa:PlainAttrs T)(slot:Slot T name id)(hty:typeOf (.builtin id)=pure (.type "method_descriptor"))(hm:MtR X id r)(ho:PE X o to)(ha:PA X (e::es) t)
  (j6:attributeBase o name X.env (eval o X.env)=eval o X.env:=by rfl)
  (hfew : ((backTo y9 (starEach (e::es) X.env)).all (λx => !x.1)&&(backToKw y9 (keywordEach [] X.env)).all (λx=>x.1.isSome)
   && decide ((e::es).length+([]:List Keyword).length+(if ([]:List Keyword).isEmpty then 0 else 1) < 30))=true:=by rfl)
  (v8:(w4.endLine==y9.line)=true:=by rfl) (hs:starEach (e::es) X.env=(false,eval e X.env)::starEach es X.env:=by rfl) (hplain:(backTo y9 (starEach es X.env)).any (·.1)=false:=by rfl):
  PE X (.Call (.Attribute o name w4) (e::es) [] y9) (tBM X.K T r to t):=by
 intro w9 s σ H Q I h;refine wpAny_Call_method_late j6 hfew v8 rfl (thn (ho w9 s σ H _ I h) λv s1 ⟨x,H1,I1,r1,ty,q1⟩=>?_);obtain⟨h1,h2⟩:=qx I1 r1 ty;refine⟨T,id,pa,slot,hty,h1,h2,?_⟩;have hA:=ha y9 w9 s1 σ H1 _ I1 q1;rw[hs] at hA ⊢;refine Calls.callWith_builtin (by show (false||(backTo y9 (starEach es X.env)).any (·.1))=false;rw[hplain] <;> rfl) (Calls.evalArgs_plain ?_)
 exact thn hA λus s2 ⟨vs,H2,I2,r2,q2⟩=>hm w9 s2 σ H2 x vs v us Q I2 r1 r2 q2
end
def MtM (X:Cx)(id:String)(r:V->List V->Hp->VK->Prop):Prop:=
 ∀(w9:List (Addr×Obj)) (s:Shared) (σ:St) (H:Hp) (x:V) (xs:List V) (v:Value) (us:List Value) (Q:VK),Inv X w9 σ H s->RelV x v->Vals xs us->r x xs H Q →
  wpAny (model X.prog X.w) X.A (call (.builtin id) (v::us)) (EP X w9 σ Q) X.xe s
def Vals.one {x:V}{us:List Value}:Vals [x] us->∃u,us=[u]/\RelV x u:=lD
def Vals.two {x y:V}{us:List Value}(h:Vals [x,y] us):∃u v,us=[u,v]/\RelV x u/\RelV y v:=by
 cases h with
 |cons r t=>
  cases t with
  |cons q z=>
   cases z;exact⟨_,_,rfl,r,q⟩
theorem Vals.zero:∀{us:List Value},Vals [] us->us=[]
 |_, .nil=>rfl
def Vals.reverse {xs:List V}{us:List Value}(h:Vals xs us):Vals xs.reverse us.reverse:=by
 induction h with
 |nil=>exact .nil
 |cons r t ih=>rw[List.reverse_cons,List.reverse_cons];exact Vals.append ih (.cons r .nil)
theorem Vals.rep {xs:List V}{us:List Value}(h:Vals xs us):∀k:Nat,Vals (List.replicate k xs).flatten (List.replicate k us).flatten
 |0 => .nil
 |k+1=>by
  rw[l55,l55,l56,l56];exact Vals.append h (Vals.rep h k)
def iX (its:List Value):∀(k:Nat) (acc:List Value),
  List.foldl (λx1 x2=>x1++x2) acc.toArray (List.replicate k its.toArray)=(acc++(List.replicate k its).flatten).toArray
 |0,acc=>by simp
 |k+1,acc=>by
  have e:acc.toArray++its.toArray=(acc++its).toArray:=by simp
  have e2:(acc++its)++(List.replicate k its).flatten=acc++(List.replicate (k+1) its).flatten:=by
   rw[l55,l56,l23]
  rw[<- e2,<- iX its k (acc++its),<- e,l55,List.foldl_cons]
section
variable {X:Cx}{w9:List (Addr×Obj)}{σ:St}{H:Hp}{s:Shared}{l b:Addr}{xs ys zs:List V}
def Inv.lset {its its':List Value}{n:Nat}{f:Array Value->Array Value}{t':Nat}(I:Inv X w9 σ H s)(hH:H l=some (.lst xs))
  (e:s.heap.get? l=some { cls := .type "list",data := .seq its.toArray n }) (hf:f its.toArray=its'.toArray) (hv:Vals ys its') (hz:ys.length<=sizeLine) (ht:0 < t':=by first |assumption |exact l33 _ |(apply Inv.tk;assumption)):
  Inv X w9 σ (upd H l (.lst ys)) { s with heap:=s.heap.update l (Obj.mapSeq f),toks:=t' }:=by
 have q:=PySem.IsL.update e f;rw[hf] at q;refine I.write (x:=l) (e:=l) (by rw[hH];exact trivial) (.inl rfl) (λb' u hb hu=>(Heap.get?_update_other s.heap (Obj.mapSeq f) (Ne.symm hb)).trans hu) ⟨_,q⟩ ?_;exact⟨hz,its',_,hv,q⟩
def Inv.lnew {its:List Value}{t':Nat}(I:Inv X w9 σ H s)(hv:Vals ys its)(hz:ys.length<=sizeLine)(ht:0 < t':=by first |assumption |exact l33 _ |(apply Inv.tk;assumption)):
  Inv X w9 σ (upd H s.heap.objs.size (.lst ys)) { s with heap:=s.heap.push { cls := .type "list",data := .seq its.toArray },toks:=t' }:=
 I.laid (λ_ _ q=>Heap.get?_push_of_some _ q) (l5 _) ⟨hz,its,0,hv,Heap.get?_push_size _ rfl⟩
def Inv.fresh (I:Inv X w9 σ H s):H s.heap.objs.size=none:=I.hok.fresh (l5 _)
def Inv.lstM (I:Inv X w9 σ H s)(hH:H l=some (.lst xs)):xs.length<=sizeLine/\∃(its:List Value) (n:Nat),Vals xs its/\xs.length=its.length/\s.heap.get? l=some { cls := .type "list",data := .seq its.toArray n }:=by
 obtain⟨z,its,n,r,e⟩:=I.hok l _ hH;exact⟨z,its,n,r,r.length,e⟩
def kL {n:Nat}(h:n<=sizeLine):Builtin.List.listTooLong n=false:=by
 unfold Builtin.List.listTooLong;exact decide_eq_false nofun
end
section
variable {X:Cx}
inductive rAppend (x:V)(vs:List V)(H:Hp)(Q:VK):Prop
 |mk (l xs y)(_:x = .ref l)(_:vs=[y])(_:H l=some (.lst xs))(_:xs.length < sizeLine)(_:Q .non (upd H l (.lst (xs++[y]))))
def iY:MtM X "list.append" rAppend:=by
 intro w9 s σ H x vs v us Q I rx rv h;obtain⟨l,xs,y,rfl,rfl,hH,hz,q⟩:=h;cases rx;obtain⟨u,rfl,ru⟩:=rv.one;obtain⟨z,its,n,r,hl,e⟩:=I.lstM hH;refine call_meets F.slot_list_append ⟨_,e,rfl⟩ F.entry_list_append (F.args_list_append_2 _ _) (PySem.list_append l its.toArray n u (by rw[l24];omega)) ⟨e,?_⟩;refine⟨.non,_,I.lset (its':=its++[u]) hH e (by simp) (r.append (.cons ru .nil)) ?_,rfl,q⟩;rw[l8,List.length_singleton];omega
inductive rExtend (x:V)(vs:List V)(H:Hp)(Q:VK):Prop
 |mk (l b xs zs)(_:x = .ref l)(_:vs=[.ref b])(_:H l=some (.lst xs))(_:H b=some (.lst zs))(_:xs.length+zs.length<=sizeLine)(_:Q .non (upd H l (.lst (xs++zs))))
def mG:MtM X "list.extend" rExtend:=by
 intro w9 s σ H x vs v us Q I rx rv h;obtain⟨l,b,xs,zs,rfl,rfl,hH,hB,hz,q⟩:=h;cases rx;obtain⟨u,rfl,ru⟩:=rv.one;cases ru;obtain⟨z,its,n,r,hl,e⟩:=I.lstM hH;obtain⟨z2,v5,n2,r2,hl2,e2⟩:=I.lstM hB;have hsz:its.toArray.size+v5.toArray.size<=sizeLine:=by rw[l24,l24];omega
 have hlong:¬ (!its.toArray.isEmpty&&Builtin.List.listTooLong (its.toArray.size+v5.toArray.size))=true:=by
  rw[kL hsz,Bool.and_false];exact Bool.false_ne_true
 refine call_meets F.slot_list_extend ⟨_,e,rfl⟩ F.entry_list_extend (F.args_list_extend_2 _ _)
  (AutoSeq1.list_extend_list_list_0 l its.toArray n b v5.toArray n2 hlong (by rw[l24];omega) nofun) ⟨e,e2,?_⟩
 refine⟨.non,_,I.lset (its':=its++v5) hH e (by simp) (r.append r2) ?_,rfl,q⟩;rw[l8];omega
inductive rCat (x y:V)(H:Hp)(Q:VK):Prop
 |mk (l b xs zs)(_:x = .ref l)(_:y = .ref b)(_:H l=some (.lst xs))(_:H b=some (.lst zs))(_:xs.length+zs.length<=sizeLine)(_:∀p,H p=none->Q (.ref p) (upd H p (.lst (xs++zs))))
def bN:OpR X (binaryOp .Add) rCat:=by
 intro w9 s σ H x y v u Q I rx ry h;obtain⟨l,b,xs,zs,rfl,rfl,hH,hB,hz,q⟩:=h;cases rx;cases ry;obtain⟨z,its,n,r,hl,e⟩:=I.lstM hH;obtain⟨z2,v5,n2,r2,hl2,e2⟩:=I.lstM hB;refine PySem.P.add_list e e2 ?_ (by rw[l24,l24];omega);have ea:its.toArray++v5.toArray=(its++v5).toArray:=by simp
 rw[ea];exact⟨.ref _,_,I.lnew (t':=s.toks) (r.append r2) (by rw[l8];omega),rfl,q _ I.fresh⟩
inductive rRep (x y:V)(H:Hp)(Q:VK):Prop
 |mk (l k xs)(_:x = .ref l)(_:y = .int k)(_:H l=some (.lst xs))(_:-(2 ^ 63)<=k)(_:k < 2 ^ 63)(_:xs.length * k.toNat<=sizeLine)(_:∀p,H p=none->Q (.ref p) (upd H p (.lst (List.replicate k.toNat xs).flatten)))
def rF {α:Type}(xs:List α)(k:Nat):(List.replicate k xs).flatten.length=k * xs.length:=by
 induction k with
 |zero=>simp
 |succ k ih=>rw[l55,l56,l8,ih,Nat.succ_mul,Nat.add_comm]
def kM:OpR X (binaryOp .Mult) rRep:=by
 intro w9 s σ H x y v u Q I rx ry h;obtain⟨l,k,xs,rfl,rfl,hH,h1,h2,hz,q⟩:=h;cases rx;obtain⟨t,rfl⟩:=ry;obtain⟨z,its,n,r,hl,e⟩:=I.lstM hH;have w6:its.toArray.size * k.toNat<=sizeLine:=by rw[l24,<- hl];exact hz
 have hcap:¬ its.toArray.size * k.toNat > (2 ^ 63 - 1) / 8:=by
  have:(sizeLine:Nat)<=(2 ^ 63 - 1) / 8:=by decide
  omega
 have hfit:¬ (!Builtin.List.listFitsIndex k)=true:=by
  rw[fitsIndex_both h1 h2];exact Bool.false_ne_true
 have hlong:¬ Builtin.List.listTooLong (its.toArray.size * k.toNat)=true:=by
  rw[kL w6];exact Bool.false_ne_true
 have v6:List.foldl (λx1 x2=>x1++x2) #[] (List.replicate (if its.toArray.isEmpty=true then 0 else k.toNat) its.toArray)=(List.replicate k.toNat its).flatten.toArray:=by
  have f0:∀m:Nat,List.foldl (λx1 x2=>x1++x2) #[] (List.replicate m its.toArray)=(List.replicate m its).flatten.toArray:=λm=>by
   have:=iX its m [];rw[l68] at this;exact this
  rw[f0];cases its with
  |nil=>simp
  |cons a r'=>rw[if_neg (by simp)]
 refine wpAny_binaryOp_repeat_ref (T:="list") (U:="int") ∅ ⟨_,e,rfl⟩ (λs'=>typeIs_int s' k t) noFill_list_mul F.fills_int_mul F.slot_int_rmul repeat_list F.slot_int_index.lookup
  (call_meets F.slot_int_rmul (typeIs_int s k t) F.entry_int_rmul (F.args_int_rmul_2 _ _) (int___rmul___int_list k t l its.toArray n)
   ⟨e,rfl,⟨_,e,rfl⟩,call_meets F.slot_list_mul ⟨_,e,rfl⟩ F.entry_list_mul (F.args_list_mul_2 _ _) (AutoListH.list___mul___list_int_3 l its.toArray n k t hfit hcap hlong) ⟨e,?_⟩⟩)
 rw[v6];exact⟨.ref _,_,I.lnew (t':=s.toks) (r.rep k.toNat) (by rw[rF,Nat.mul_comm];exact hz),rfl,q _ I.fresh⟩
end
section
variable {prog:Program}{w:World}{A:Around}{E:Value->Shared->Prop}{s:Shared}
set_option maxRecDepth 100000 in
end
end L2
namespace Att
open PySem PySem.W PySem.Calls PyProof.Rows
end Att
namespace L2
open PySem PySem.Spec PyProof.Rows
theorem iZ:∀{vs:List Value} {ns:List Int},IntsAre vs ns->Vals (ns.map V.int) vs
 |_,_, .nil => .nil
 |_,_, .cons n t h => .cons ⟨t,rfl⟩ (iZ h)
def Only (H:Hp):Prop:=∀b,H b=none ∨ ∃o xs,H b=some (.frz o (.lst xs))
def law_call {P:Program}{w:World}{K:Frag}{mg mb:Str->Option Value}{CX:CXT}{k:Nat}{fa a:Addr}{fd:FuncData}{x:Str}{sp:Sp}{s₁:Shared}{vs:List Value}{ns:List Int}
  (KX:K.In s₁.heap)(hns:s₁.heap.Ns mainGlobals mg)(hb:s₁.heap.Ns builtinsNs mb)(hbb:∀x:Str,x≠"__name__"->mb x=bootBuiltins x)(hlim:s₁.heap.NoLimit)(hg:s₁.gens = #[])(htk:0 < s₁.toks)
  (ha:s₁.heap.get? a=some { cls := .type "list",data := .seq vs.toArray }) (hi:IntsAre vs ns) (hl:ns.length<=sizeLine) (hr:Room k callerA)
  (F:∀base:Heap,K.In base->base.Ns mainGlobals mg->FnOk P w K mg base CX k fa fd [x] sp) (hbind:∀(s:Shared) (u:Value),BindsTo s fd ⟨[u],[]⟩ [(x,u)])
  (hsp:∀H:Hp,Only H->SqL K H a (ns.map V.int)->sp [.ref a] H (λv _=>v = .bl true) λ_ _ _=>False)
  (hCX:∀H e s',CX [] H s₁ (λ_ _ _=>False) e s'->False):
  codeAny (model P w) callerA (.call (.ref fa) ⟨[.ref a],[]⟩) (λr s'=>r = .ok (.ret (.bool true))/\OldK s₁.heap s'.heap/\s'.os=s₁.os/\AllBare s'.gens) s₁:=by
 have rv:=iZ hi;have lenV:=hi.length;have core:∀H:Hp,Only H->SqL K H a (ns.map V.int)->HOk P w H s₁.heap->(∀b,H b≠none->b=a)->(H a≠none->K.lookup a=none) →
   codeAny (model P w) callerA (.call (.ref fa) ⟨[.ref a],[]⟩) (λr s'=>r = .ok (.ret (.bool true))/\OldK s₁.heap s'.heap/\s'.os=s₁.os/\AllBare s'.gens) s₁:=by
  intro H hO hS hok hA hK;have base_of:∀{b:Addr} {o:Obj},s₁.heap.get? b=some o->H b=none->(hidT s₁.heap H).get? b=some o:=λe n=>oJ e n;have noA:∀{b:Addr} {o:Obj} {es:Array DictEntry} {ep:Nat},s₁.heap.get? b=some o->o.data = .dict es ep->H b=none:=λ{b o es ep} e d=>by
   cases q:H b with
   |none=>rfl
   |some u=>
    have e':b=a:=hA b (by rw[q];simp);subst e';rw[ha] at e;cases e;have d':Data.seq vs.toArray _=Data.dict es ep:=d;cases d'
  have nsK:∀{b:Addr} {m:Str->Option Value},s₁.heap.Ns b m->(hidT s₁.heap H).Ns b m:=λ{b m} ⟨o,es,ep,e,d,r⟩=>⟨o,es,ep,base_of e (noA e d),d,r⟩;have hKb : K.In (hidT s₁.heap H) := fun b o e => base_of (KX b o e) (by
   cases q:H b with
   |none=>rfl
   |some u=>
    have e':b=a:=hA b (by rw[q];simp);subst e';rw[hK (by rw[q];simp)] at e;cases e)
  have hM:Mod K mg (hidT s₁.heap H):=⟨hKb,nsK hns,⟨mb,nsK hb,hbb⟩,let ⟨mc,h1,h2⟩:=hlim;⟨mc,nsK h1,h2⟩⟩;have e0:Env0 P w K mg (hidT s₁.heap H) callerA [] s₁ H:=⟨rfl,hM,λb o e=>qZ e,Nat.le_of_eq (mm _ _),trivial,λb hb=>absurd (show b∈([]:List Addr) from hb) (by simp),hok, .of_eq hg,htk⟩;refine codeAny_mono ((F _ hKb (nsK hns)).run callerA [] s₁ H ⟨[.ref a],[]⟩ [.ref a] [.ref a] _ _ hr e0 (hbind s₁ (.ref a)) (.cons rfl .nil) (hsp H hO hS)) λr s' h=>?_;cases r with
  |error e=>exact(hCX H e s' h).elim
  |ok fl=>
   cases fl with
   |next=>exact False.elim h
   |brk=>exact False.elim h
   |cont=>exact False.elim h
   |ret u=>
    obtain⟨v,H',os,bare,un,hok',_,r',q⟩:=h;have q':v = .bl true:=q;subst q';obtain rfl:u=Value.bool true:=r';refine⟨rfl,OldK.of_keep λb o e=>?_,os,bare⟩;cases q:H b with
    |none=>exact un.keep b o e q (by intro z;exact absurd (show b∈([]:List Addr) from z) (by simp)) (by simp)
    |some u=>
     rcases hO b with z |⟨ob,xs,z⟩
     ·rw[q] at z;cases z
     ·have z2:=un.frzs b ob _ z;obtain⟨e1,_⟩:=hok b _ z;obtain⟨e2,_⟩:=hok' b _ z2;rw[e] at e1;cases e1;exact e2
 cases hk:K.lookup a with
 |some o=>
  have e:=KX a o hk;rw[ha] at e;cases e;refine core (λ_=>none) (λ_ => .inl rfl) (.inr ⟨_,vs.toArray,_,hk,rfl,rfl,rfl,by rw[l24,lenV];exact hl,by simpa using rv⟩) (λb u z=>by have z':(none:Option HO)=some u:=z;cases z') (λb z=>absurd rfl z) λz=>absurd rfl z
 |none=>
  refine core (λb=>if b=a then some (.frz { cls := .type "list",data := .seq vs.toArray } (.lst (ns.map V.int))) else none) (λb=>?_) (.inl (.inr ⟨{ cls := .type "list",data := .seq vs.toArray },if_pos rfl⟩)) (λb u z=>?_) (λb z=>?_) λ_=>hk
  ·by_cases hb:b=a
   ·exact .inr ⟨_,_,if_pos hb⟩
   ·exact .inl (if_neg hb)
  ·by_cases hb:b=a
   ·have z':=(if_pos hb).symm.trans z;cases z';subst hb;exact⟨ha,by rw[l0];exact hl,vs,_,rv,ha⟩
   ·have z':=(if_neg hb).symm.trans z;cases z'
  ·by_cases hb:b=a
   ·exact hb
   ·exact absurd (if_neg hb) z
abbrev KOf {K:Frag}{h:Heap}(_:K.In h):Frag:=K
def bv (s:Stmt):Arguments:=match s with
 | .FunctionDef _ a _ _ _ _ _ _ _ _=>a
 |_=>{ posonlyargs:=[],args:=[],vararg:=none,kwonlyargs:=[],kw_defaults:=[],kwarg:=none,defaults:=[] }
def bf (s:Stmt):List Stmt:=match s with
 | .FunctionDef _ _ b _ _ _ _ _ _ _=>b
 |_=>[]
def ad (s:Stmt):Scope:=match s with
 | .FunctionDef _ _ _ _ _ _ sc _ _ _=>sc
 |_=>{ kind := .function,names:=[],isGenerator:=false,isCoroutine:=false }
abbrev CX0:CXT:=λ_ _ _ _ _ _=>False
abbrev E0:XK:=λ_ _ _=>False
def rG {X:Cx}:iR CX0 X E0:=λ_ _ _ _ _ _ _ h=>h.elim
structure Fun (K:Frag)(x qual:Str)(st:Stmt)(f:Addr)(fd:FuncData):Prop where
 ex:∃(oc:Value) (od:Option Addr) (kV doc pm:Value) (an:Option Addr) (cdv ct:Value) (osl:Array (Option Value)),
  fd=fnOf x qual (bv st) (bf st) (ad st) .none kV doc pm an cdv ct/\K.lookup f=some ⟨oc,od, .func fd,osl⟩/\codeIn K cdv qual=true
 kp:keepIn K (.ref f)=true
section
variable {P:Program}{w:World}{K:Frag}{mg:Str->Option Value}{base:Heap}
def Fun.ok {x qual:Str}{st:Stmt}{f:Addr}{fd:FuncData}{N ps:List Str}{k:Nat}{sp:Sp}(F:Fun K x qual st f fd)(S:FnScope N ps (ad st))(len:∀vs H Q E,sp vs H Q E->vs.length=ps.length)
  (v7:∀(cdv:Value)(A:Around)(outer:List Env)(s:Shared)(H:Hp)(vs:List V)(Q:VK)(E:XK),Room k (A.deeper (envOfC qual (ad st) s.heap.objs.size f cdv))->sp vs H Q E →
   ∃t,PSs (cxOf CX0 P w K mg base N qual (ad st) f cdv A outer s H E).nox (bf st) t/\t { nx:=λ_ H'=>Q .non H',rt:=Q } (start N vs) H):FnOk P w K mg base CX0 (k+1) f fd ps sp:=by
 obtain⟨oc,od,kV,doc,pm,an,cdv,ct,osl,rfl,lk,hcd⟩:=F.ex;refine u4 lk hcd S len λA outer s H vs Q E hr hsp=>?_;obtain⟨t,h,q⟩:=v7 cdv A outer s H vs Q E hr hsp;exact⟨t,h.nox,q⟩
def Fun.oks {x qual:Str}{st:Stmt}{f:Addr}{fd:FuncData}{N ps:List Str}{k:Nat}{sp:Sp}(F:Fun K x qual st f fd)(S:FnScope N ps (ad st))
  (v7:∀{cdv:Value}{A:Around}{outer:List Env}{s:Shared}{vs:List V}{E:XK}(H:Hp)(Q:VK),Room k (A.deeper (envOfC qual (ad st) s.heap.objs.size f cdv))->sp vs H Q E →
   ∃t,PSs (cxOf CX0 P w K mg base N qual (ad st) f cdv A outer s H E).nox (bf st) t/\t { nx:=λ_ H'=>Q .non H',rt:=Q } (start N vs) H) (len:∀vs H Q E,sp vs H Q E->vs.length=ps.length:=by intro vs H Q E h;first |(cases h;subst_vars;rfl) |(rcases h with ⟨_,⟨_,rfl,_⟩,_⟩;rfl) |(rcases h with ⟨_,_,⟨_,rfl,_⟩,_⟩;rfl) |(rcases h with ⟨_,_,_,⟨_,rfl,_⟩,_⟩;rfl) |(rcases h with ⟨_,_,_,_,⟨_,rfl,_⟩,_⟩;rfl) |(rcases h with ⟨_,_,_,_,_,⟨_,rfl,_⟩,_⟩;rfl) |(rcases h with ⟨_,_,_,_,_,_,⟨_,rfl,_⟩,_⟩;rfl) |(rcases h with ⟨_,_,_,_,_,_,_,⟨_,rfl,_⟩,_⟩;rfl)):FnOk P w K mg base CX0 (k+1) f fd ps sp:=F.ok S len λ_ _ _ _ H _ Q _=>v7 H Q
def Fun.binds {x qual:Str}{st:Stmt}{f:Addr}{fd:FuncData}{ps:List Str}(F:Fun K x qual st f fd)
  (h:∀(kV doc pm:Value)(an:Option Addr)(cdv ct:Value)(us:List Value),us.length=ps.length->bindArgs (fnOf x qual (bv st) (bf st) (ad st) .none kV doc pm an cdv ct) ⟨us,[]⟩=pure (ps.zip us)):Binds K fd ps []:=by
 obtain⟨oc,od,kV,doc,pm,an,cdv,ct,osl,rfl,lk,hcd⟩:=F.ex;exact .all (h kV doc pm an cdv ct)
def kN {x qual:Str}{st:Stmt}{f:Addr}{oc:Value}{od an:Option Addr}{osl:Array (Option Value)}{kV doc pm cdv ct:Value}(l:K.lookup f=some ⟨oc,od, .func (fnOf x qual (bv st) (bf st) (ad st) .none kV doc pm an cdv ct),osl⟩)
  (c:codeIn K cdv qual=true)(k:keepIn K (.ref f)=true):Fun K x qual st f (fnOf x qual (bv st) (bf st) (ad st) .none kV doc pm an cdv ct):=⟨⟨oc,od,kV,doc,pm,an,cdv,ct,osl,rfl,l,c⟩,k⟩
end
section
variable {X:Cx}
def pv (i:Nat){x:Str}{pos:Pos}(hN:X.N[i]? = some x:=by rfl) (hv:Vis X.env.scope x:=by first |exact Or.inl rfl |exact Or.inr (Or.inl rfl) |exact Or.inr (Or.inr rfl)) (hd:(x==("__debug__":Str))=false:=by decide)
  (hcd:(x==("__classdict__":Str))=false:=by decide):PE X (.Name x pos) (tVar i):=tD hN hv hd hcd
end
def iteF {A B:Prop}(h:B):if false=true then A else B:=by
 rw[if_neg Bool.false_ne_true];exact h
def iteT {A B:Prop}(h:A):if true=true then A else B:=by
 rw[if_pos rfl];exact h
def ite2 {c A B:Prop} [Decidable c](h1:c->A)(h2:¬ c->B):if c then A else B:=by
 by_cases h:c
 ·rw[if_pos h];exact h1 h
 ·rw[if_neg h];exact h2 h
def Same (H H':Hp):Prop:=∀b o,H b=some o->H' b=some o
def Same.refl (H:Hp):Same H H:=λ_ _ h=>h
def Same.trans {H H1 H2:Hp}(a:Same H H1)(b:Same H1 H2):Same H H2:=λc o h=>b c o (a c o h)
def Same.free {H H':Hp}(e:Same H H'){l:Addr}(h:H' l=Option.none):H l=Option.none:=by
 cases q:H l with
 |none=>rfl
 |some o=>
  rw[e l o q] at h;cases h
def Same.seq {K:Frag}{H H':Hp}{a:Addr}{xs:List V}(e:Same H H')(h:SqL K H a xs):SqL K H' a xs:=by
 rcases h with (h |⟨o,h⟩) |h
 ·exact .inl (.inl (e _ _ h))
 ·exact .inl (.inr ⟨o,e _ _ h⟩)
 ·exact .inr h
def CellsIn (env:Env):List (Str×Addr)->Prop
 | []=>True
 |p::r=>env.cells.lookup p.1=some p.2/\CellsIn env r
theorem CellsIn.look {env:Env}:∀{cl:List (Str×Addr)},CellsIn env cl->∀x c,cl.lookup x=some c->env.cells.lookup x=some c
 | [],_,x,c,e=>by simp at e
 |p::r,h,x,c,e=>by
  obtain⟨n,a⟩:=p;rw[List.lookup_cons] at e;cases q:x==n with
  |true=>
   rw[q] at e;have q':x=n:=eq_of_beq q;subst q';cases e;exact h.1
  |false=>
   rw[q] at e;exact h.2.look x c e
abbrev aL (X:Cx)(scope:Scope)(cl:List (Str×Addr))(C:Addr)(N':List Str)(fp:List Addr)(s:Shared)(H:Hp):Cx:=
 { X with N:=N',s₀:=s,H₀:=H,env:=compEnvC scope cl C X.env,outer:=X.stack,ex:=fp,fn:=λ_=>false,pn:=[],xe:=λ_ _=>False }
def nfS (k:Nat)(fr:List Nat)(σ:St):St:=List.replicate k none++fr.map λj=>(σ[j]?).join
structure CompN (X:Cx)(scope:Scope)(cl:List (Str×Addr))(own:List Str)(fr:List Nat)(N':List Str):Prop where
 kind:scope.kind = .function
 cells:CellsIn X.env cl
 has:∀x,((relabel scope X.env).names.lookup x=some .cell ∨ (relabel scope X.env).names.lookup x=some .free)->∃c,cl.lookup x=some c
 nd:N'.Nodup
 len:N'.length=own.length+fr.length
 free:∀(i:Nat) (j:Nat),fr[i]? = some j->∃x,X.N[j]? = some x/\N'[own.length+i]? = some x/\(X.env.kindOf x=some .cell ∨ X.env.kindOf x=some .free) ∧
  ((relabel scope X.env).names.lookup x=some .cell ∨ (relabel scope X.env).names.lookup x=some .free)
section
variable {X:Cx}{w9:List (Addr×Obj)}{σ:St}{H:Hp}{s s4:Shared}{scope:Scope}{cl:List (Str×Addr)}{own:List Str}{fr:List Nat}{N':List Str}{fp:List Addr}{C:Addr}{H4:Hp}
def mH (I:Inv X w9 σ H s)(Z:CompN X scope cl own fr N')(hC:s.heap.objs.size<=C)(hf:∀b∈fp,FpOk X w9 H b)(ho:∀b∈fp,∃o,s.heap.get? b=some o/\∀v,o.data ≠ .cell v):(aL X scope cl C N' fp s H).Ok where
 mod:=I.ok.mod
 kind:=Z.kind
 glob:=I.ok.glob
 blt:=I.ok.blt
 above:=hC
 inj:=λx y c h1 h2=>I.ok.inj x y c (Z.cells.look x c h1) (Z.cells.look y c h2)
 has:=λx h=>Z.has x h
 cab:=λx c h _=>Bool.noConfusion h
 hd:=I.ok.hd
 frames:=I.ok.frames
 stk := .inl rfl
 exf:=λb hb=>by
  obtain⟨o,e,_⟩:=ho b hb;refine⟨l30 (l28 (Heap.lt_size e) hC),λx c h=>?_⟩;exact(hf b hb).2.2.2.2.1 x c (Z.cells.look x c h)
 bs:=I.bs
 bsz:=l11 I.ok.bsz I.sz
 noex:=λb o e hb=>by
  rcases (hf b hb).2.2.2.1 with z |z
  ·exact I.ok.noex b o e z
  ·exact absurd (l28 (Heap.lt_size e) (l11 I.ok.bsz z)) (l37 _)
 exfs:=λb hb z=>by
  rcases l6.mp (I.stkSub b z) with e |e
  ·exact(hf b hb).2.1 e
  ·exact(hf b hb).2.2.1 e
 funs:=I.stack
 frf:=I.stkFree
def oZ (I:Inv X w9 σ H s)(Z:CompN X scope cl own fr N')(hC:s.heap.objs.size<=C)(hf:∀b∈fp,FpOk X w9 H b)(ho:∀b∈fp,∃o,s.heap.get? b=some o/\∀v,o.data ≠ .cell v)
  (os:s4.os=s.os)(bare:AllBare s4.gens)(un:Un (frs X.stack) fp H H4 s.heap s4.heap)(ns:∃m,s4.heap.Ns C m)(kc:∀x c v,X.env.cells.lookup x=some c->s.heap.IsCell c v->s4.heap.IsCell c v)
  (fr4:H4 C=none)(hok:HOk X.prog X.w H4 s4.heap)(tk:0 < s4.toks):Inv (aL X scope cl C N' fp s H) [] (nfS own.length fr σ) H4 s4 where
 ok:=mH I Z hC hf ho
 os:=os
 bare:=bare
 base:=un
 loc:=by
  obtain⟨m,hm⟩:=ns;refine⟨m,hm,λi x v h1 h2 h3=>?_⟩;unfold nfS at h2;by_cases hi:i < own.length
  ·rw[List.getElem?_append_left (by simpa using hi),List.getElem?_replicate,if_pos hi] at h2;cases h2
  ·rw[List.getElem?_append_right (by simpa using hi),l36,List.getElem?_map] at h2;cases q:fr[i - own.length]? with
   |none=>rw[q] at h2;cases h2
   |some j=>
    rw[q] at h2;have h2':(σ[j]?).join=some v:=Option.some.inj h2;obtain⟨y,e1,e2,e3,e4⟩:=Z.free _ j q;have ei:own.length+(i - own.length)=i:=by omega
    rw[ei] at e2;have h1':N'[i]? = some x:=h1;rw[e2] at h1';cases h1';have hs:σ[j]? = some (some v):=by
     cases r:σ[j]? with
     |none=>rw[r] at h2';cases h2'
     |some w=>rw[r] at h2';cases w with
      |none=>cases h2'
      |some w=>cases h2';rfl
    obtain⟨m0,_,hl⟩:=I.loc;have vis:Vis X.env.scope x:=e3.elim (λz => .inr (.inl z)) λz => .inr (.inr z);obtain⟨u,ru,lk⟩:=hl j x v e1 hs vis;refine⟨u,ru,?_⟩;rcases lk with ⟨k,_⟩ |⟨_,c,ec,hc⟩
    ·rcases e3 with z |z <;> (rw[k] at z;cases z)
    ·obtain⟨c',ec'⟩:=Z.has x e4;have:=Z.cells.look x c' ec';rw[ec] at this;cases this;exact .inr ⟨e4,c,ec',kc x c _ ec hc⟩
 cell:=λx c e=>by
  have e':=Z.cells.look x c e;obtain⟨v,hv⟩:=I.cell x c e';exact⟨v,kc x c v e' hv⟩
 free:=fr4
 freeC:=λx c e=>by
  have e':=Z.cells.look x c e;obtain⟨v,o,hv,_⟩:=I.cell x c e';refine un.free c o hv (I.freeC x c e') λhb=>?_;exact(hf c hb).2.2.2.2.1 x c e' rfl
 pin:=λp hp=>absurd (show p∈([]:List (Addr×Obj)) from hp) (by simp)
 hok:=hok
 len:=by
  show (nfS own.length fr σ).length=N'.length;unfold nfS;rw[l8,l36,l0,Z.len]
 tk:=tk
def o0 {σ':St}(I:Inv X w9 σ H s)(hf:∀b∈fp,FpOk X w9 H b){pins':List (Addr×Obj)}(J:Inv (aL X scope cl C N' fp s H) pins' σ' H4 s4):Inv X w9 σ H4 s4:=
 I.call' J.os J.base J.hok J.bare (λb hb=>⟨(hf b hb).2.2.2.1,(hf b hb).2.1,(hf b hb).2.2.2.2.1,(hf b hb).2.2.2.2.2⟩) J.tk
def i4 {C:Addr}{h':Heap}(I0:Inv X w9 σ H s)(hC:s.heap.objs.size<=C){σ':St}(I:Inv X w9 σ' H4 s4)(fr4:H4 C=none)(hs:Heap.SameBut C s4.heap h'):Inv X w9 σ' H4 { s4 with heap:=h' }:=by
 refine I.turned (t':=s4.toks) (it:=C) (λb o hb e=>(hs.2 b hb).trans e) fr4 ?_ (.inr (l11 I0.sz hC)) ?_ ?_
 ·exact l66 (l28 I0.lt hC)
 ·intro x c e z;obtain⟨v,q⟩:=I0.cell x c e;exact absurd (l28 q.lt (by rw[z];exact hC)) (l37 _)
 ·intro p hp z;exact absurd (l28 (Heap.lt_size (I0.pin p hp).1) (by rw[z];exact hC)) (l37 _)
end
def PTs (X:Cx)(ifs:List Expr)(t:TT):Prop:=
 ∀(w9:List (Addr×Obj)) (s:Shared) (σ:St) (H:Hp) (Q:Bool->Hp->Prop),Inv X w9 σ H s->t σ H Q →
  wpAny (model X.prog X.w) X.A (forIn ifs true λc r=>if r=true then do let ok ← isTrue c X.env (eval c X.env);pure (ForInStep.yield ok) else pure (ForInStep.yield r)) (TP X w9 σ Q) X.xe s
def tYes:TT:=λ_ H Q=>Q true H
def rH {X:Cx}:PTs X [] tYes:=λ_ _ _ H _ I h=>wpAny_tests_nil ⟨H,I,h⟩
def rJ {X:Cx}{c:Expr}{t:TT}(h:PT X c t):PTs X [c] t:=λw9 s σ H Q I q=>wpAny_tests_one (h w9 s σ H Q I q)
section
variable {prog:Program}{w:World}{A:Around}{R:Result->Shared->Prop}{s:Shared}
theorem i5 {elt target iter:Expr}{ifs:List Expr}{scope:Scope}{pos:Pos}{it acc:Value}{env:Env}(I:Nat->Shared->Prop)
  (turn : ∀ n s, I n s -> wpAny (model prog w) A (pyNext it) (λr s₁=>match r with
   |none=>R (.ok .next) s₁
   | some v => wpAny (model prog w) A (letOwnedTupleGo target it v) (fun _ s₂ => wpAny (model prog w) A (assign target env v) (λ_ s₂=>
     wpAny (model prog w) A (forIn ifs true fun c r => if r = true then do let ok ← isTrue c env (eval c env); pure (ForInStep.yield ok) else pure (ForInStep.yield r)) (λok s₃=>
      if ok = true then wpAny (model prog w) A (eval elt env) (λx s₄=>
       wpAny (model prog w) A (call (.builtin "list.append") [acc,x]) (λ_ s₅=>∃m,m < n/\I m s₅) (λ_ _=>False) s₄) (λ_ _=>False) s₃
      else ∃m,m < n/\I m s₃) (λ_ _=>False) s₂) (λ_ _=>False) s₂) (λ_ _=>False) s₁) (λ_ _=>False) s)
  (n:Nat)(h:I n s):
  codeAny (model prog w) A (.compLoop (.ListComp elt [⟨target,iter,ifs,0⟩] scope pos) 0 it acc env) R s:=by
 have no:∀{E:Value->Shared->Prop} (e:Value) (s':Shared),(λ_ _=>False:Value->Shared->Prop) e s'->E e s':=λ_ _ z=>False.elim z;refine codeAny_loop rfl I (λn s hI=>?_) n h;show wpAny _ A ((compTurn (.ListComp elt [⟨target,iter,ifs,0⟩] scope pos) 0 it acc env).onRaise (λx=>do noteFrame x env;theTreesLotGoes x)) _ _ s;refine wpAny_noted ?_;rw[compTurn_list];refine wpAny_bind (wpAny_standAt (wpAny_bind (wpAny_mono (turn n s hI) (λr s₁ h₁=>?_) no)));cases r with
 |none=>exact wpAny_pure h₁
 |some v=>
  refine wpAny_bind (wpAny_mono h₁ (λ_ s₂ h₂=>?_) no);refine wpAny_bind (wpAny_mono h₂ (λ_ s₂ h₂=>wpAny_bind (wpAny_mono h₂ (λok s₃ h₃=>?_) no)) no);cases ok with
  |false=>exact wpAny_pure ⟨rfl,h₃⟩
  |true=>
   exact wpAny_bind (wpAny_bind (wpAny_mono h₃ (λx s₄ h₄=>wpAny_bind (wpAny_mono h₄ (λ_ s₅ h₅=>wpAny_pure (wpAny_pure ⟨rfl,h₅⟩)) no)) no))
end
def nfLe (k:Nat)(fr:List Nat)(σ σ2:St):Prop:=σ2.length=(nfS k fr σ).length/\∀(i:Nat) (v:V),(nfS k fr σ)[i]? = some (some v)->σ2[i]? = some (some v)
def nfLe.refl (k:Nat)(fr:List Nat)(σ:St):nfLe k fr σ (nfS k fr σ):=⟨rfl,λ_ _ h=>h⟩
def nfLe.set {k:Nat}{fr:List Nat}{σ σ2:St}{i:Nat}(h:nfLe k fr σ σ2)(hi:i < k)(x:Option V):nfLe k fr σ (σ2.set i x):=by
 refine⟨by rw[List.length_set];exact h.1,λj v e=>?_⟩;by_cases hj:i=j
 ·subst hj;unfold nfS at e;rw[List.getElem?_append_left (by simpa using hi),List.getElem?_replicate,if_pos hi] at e;cases e
 ·rw[List.getElem?_set_ne hj];exact h.2 j v e
def rLC (k:Nat)(fr:List Nat)(g:TG)(tt:TT)(te:TE)(σ:St)(J:It)(H1:Hp)(Q:Addr->Hp->Prop):Prop:=
 ∀D,H1 D=none->∃W:Nat->Nat->List V->Hp->Prop,(∃m,W 0 m [] (upd H1 D (.lst [])))/\∀i m acc H,W i m acc H->H D=some (.lst acc) ∧
  ((J.stop i H /\ Q D H) ∨ (J.go i H/\∀x H',J.yld i H x H'->g x (nfS k fr σ) H' λσ2 H2=>nfLe k fr σ σ2/\tt σ2 H2 λb H3=>
   if b=true then te σ2 H3 λy H4=>H4 D=some (.lst acc)/\acc.length < sizeLine/\∃m',m' < m/\W (i+1) m' (acc++[y]) (upd H4 D (.lst (acc++[y])))
   else ∃m',m' < m/\W (i+1) m' acc H3))
def tLC (wi:TI)(k:Nat)(fr:List Nat)(g:TG)(tt:TT)(te:TE):TE:=λσ H Q=>wi σ H λJ H1=>rLC k fr g tt te σ J H1 λD H'=>Q (.ref D) H'
section
variable {X:Cx}{scope:Scope}{cl:List (Str×Addr)}{own:List Str}{fr:List Nat}{N':List Str}{tg iter elt:Expr}{ifs:List Expr}{wi:TI}{g:TG}{tt:TT}{te:TE}{pos:Pos}
structure TurnP (Cm:Cx->Prop)(P:Program)(w:World)(K:Frag)(tg:Expr)(J:It)(fp:List Addr)(it:Addr)(tn:Nat->Heap->Prop):Prop where
 obj:∀i h,tn i h->∀b∈fp,∃o,h.get? b=some o/\∀v,o.data ≠ .cell v
 keep:∀i h h',tn i h->(∀b∈fp,∀o,h.get? b=some o->h'.get? b=some o)->tn i h'
 item:∀(X:Cx),X.prog=P->X.w=w->X.K=K->Cm X->∀(i:Nat) (w9:List (Addr×Obj)) (s:Shared) (σ:St) (H:Hp) (E:Value->Shared->Prop),Inv X w9 σ H s->(∀b∈fp,FpOk X w9 H b)->tn i s.heap->J.go i H →
  wpAny (model P w) X.A (pyNext (.ref it)) (λr s1=>∃u,r=some u ∧
   wpAny (model P w) X.A (letOwnedTupleGo tg (.ref it) u) (λ_ s2=>∃x H',Inv X w9 σ H' s2/\RelV x u/\J.yld i H x H'/\tn (i+1) s2.heap/\∀b∈fp,H' b=none) E s1) E s
 done:∀(X:Cx),X.prog=P->X.w=w->X.K=K->Cm X->∀(i:Nat) (w9:List (Addr×Obj)) (s:Shared) (σ:St) (H:Hp) (E:Value->Shared->Prop),Inv X w9 σ H s->(∀b∈fp,FpOk X w9 H b)->tn i s.heap->J.stop i H →
  wpAny (model P w) X.A (pyNext (.ref it)) (λr s1=>r=none/\Inv X w9 σ H s1) E s
 self:∀(A:Around) (i:Nat) (s:Shared) (Q:Value->Shared->Prop) (E:Value->Shared->Prop),tn i s.heap->Q (.ref it) s->wpAny (model P w) A (pyIter (.ref it)) Q E s
def Turn.toP {P:Program}{w:World}{K:Frag}{tg:Expr}{J:It}{fp:List Addr}{it:Addr}{tn:Nat->Heap->Prop}(T:Turn P w K tg J fp it tn):TurnP (λX=>X.calm=true) P w K tg J fp it tn:=⟨T.obj,T.keep,T.item,T.done,T.self⟩
def gA {w9:List (Addr×Obj)}{σ:St}{H:Hp}{s:Shared}{it:Addr}{fp:List Addr}{tn:Nat->Heap->Prop}{J:It}{Q:Addr->Hp->Prop}{RR:Value->Addr->Result->Shared->Prop}{E:Value->Shared->Prop}
  {Cm:Cx->Prop}(hc:∀C,Cm (aL X scope cl C N' fp s H))(Z:CompN X scope cl own fr N')(w5:∀y∈scope.names,y.2 ≠ .cell)
  (hg:∀C,PG (aL X scope cl C N' fp s H) tg g)(ht:∀C,PTs (aL X scope cl C N' fp s H) ifs tt)(he:∀C,PE (aL X scope cl C N' fp s H) elt te)
  (I:Inv X w9 σ H s)(T:TurnP Cm X.prog X.w X.K tg J fp it tn)(st:tn 0 s.heap)(hf:∀b∈fp,FpOk X w9 H b)(q:rLC own.length fr g tt te σ J H Q)
  (hRR:∀D C s' H' ,s.heap.objs.size<=C->(∃m,s'.heap.Ns C m)->H' C=none->Inv X w9 σ H' s'->Q D H'->RR (.ref D) C (.ok .next) s'):
  wpAny (model X.prog X.w) X.A (newList []) (fun acc s₃ => wpAny (model X.prog X.w) X.A (newFunctionEnv scope X.env.globals cl [] X.env.qual none .none (some X.env)) (λcenv s₄=>
   codeAny (model X.prog X.w) X.A (.compStart (.ListComp elt [⟨tg,iter,ifs,0⟩] scope pos) 0 (.ref it) acc { cenv with scope:=relabel scope X.env }) (RR acc cenv.locals) s₄) E s₃) E s:=by
 refine wpAny_newObj_type (wpAny_newFunctionEnv w5 (by intro y hy;simp at hy) (λh₁ hns₁ hsb₁=>?_) Z.kind);dsimp only at hns₁ hsb₁ ⊢;generalize hH2:s.heap.push { cls := .type "list",dict:=none,data := .seq ([]:List Value).toArray }=H2 at hns₁ hsb₁ ⊢;have hC:H2.objs.size=s.heap.objs.size+1:=by rw[<- hH2,Heap.size_push]
 have hCle:s.heap.objs.size<=H2.objs.size:=by rw[hC];exact Nat.le_succ _
 have hDC:s.heap.objs.size≠H2.objs.size:=by rw[hC];exact l30 (l67 _)
 have old:∀b o,s.heap.get? b=some o->h₁.get? b=some o:=λb o e=>
  hsb₁.extBut b o (l30 (l28 (Heap.lt_size e) hCle)) (Heap.get?_push_of_some _ (hH2▸Heap.get?_push_of_some _ e))
 have hD:h₁.get? s.heap.objs.size=some { cls := .type "list",dict:=none,data := .seq ([]:List Value).toArray }:=
  hsb₁.extBut _ _ hDC (Heap.get?_push_of_some _ (hH2▸Heap.get?_push_size _ rfl))
 have ho:=T.obj _ _ st;have frD:H s.heap.objs.size=none:=I.hok.fresh (l5 _);have frC:H H2.objs.size=none:=I.hok.fresh hCle;obtain⟨W,⟨m0,w0⟩,turn⟩:=q s.heap.objs.size frD;have hok1:HOk X.prog X.w (upd H s.heap.objs.size (.lst [])) h₁:=I.hok.laid old (l5 _) ⟨l12 _,[],0, .nil,hD⟩;have un1:Un (frs X.stack) fp H (upd H s.heap.objs.size (.lst [])) s.heap h₁:=Un.laid old (l5 _) frD;have C1:upd H s.heap.objs.size (.lst []) H2.objs.size=none:=by rw[af (Ne.symm hDC)];exact frC
 have fpD:∀b∈fp,b≠s.heap.objs.size:=λb hb z=>by
  obtain⟨o,e,_⟩:=ho b hb;exact absurd (Heap.lt_size e) (by rw[z];exact l37 _)
 have J0:∀t,0 < t->Inv (aL X scope cl H2.objs.size N' fp s H) [] (nfS own.length fr σ) (upd H s.heap.objs.size (.lst [])) { s with heap:=h₁,toks:=t }:=λt ht=>
  oZ I Z hCle hf ho rfl I.bare un1 ⟨_,hns₁⟩ (λx c v e ⟨o,e1,e2⟩=>⟨o,old c o e1,e2⟩) C1 hok1 ht
 have st1:tn 0 h₁:=T.keep _ _ _ st λb _ o e=>old b o e;have loop:∀s₃:Shared,s₃={ s with heap:=h₁,toks:=s.toks+([]:List (Str×Value)).length } →
   codeAny (model X.prog X.w) X.A (.compLoop (.ListComp elt [⟨tg,iter,ifs,0⟩] scope pos) 0 (.ref it) (.ref s.heap.objs.size) (compEnvC scope cl H2.objs.size X.env)) (RR (.ref s.heap.objs.size) H2.objs.size) s₃:=by
  rintro s₃ rfl;generalize hX:aL X scope cl H2.objs.size N' fp s H=X' at J0;have hg':PG X' tg g:=by rw[<- hX];exact hg _
  have ht':PTs X' ifs tt:=by rw[<- hX];exact ht _
  have he':PE X' elt te:=by rw[<- hX];exact he _
  have eP:X'.prog=X.prog:=by rw[<- hX]
  have eW:X'.w=X.w:=by rw[<- hX]
  have eK:X'.K=X.K:=by rw[<- hX]
  have eA:X'.A=X.A:=by rw[<- hX]
  have eE:X'.env=compEnvC scope cl H2.objs.size X.env:=by rw[<- hX]
  have eX:X'.xe=λ_ _=>False:=by rw[<- hX]
  have eC:Cm X':=by rw[<- hX];exact hc _
  have fpX:∀{H':Hp},(∀b∈fp,H' b=none)->∀b∈fp,FpOk X' [] H' b:=λhn b hb=>by
   rw[<- hX];have ok:=mH I Z hCle hf ho;refine⟨hn b hb,(ok.exf b hb).1,ok.exfs b hb, .inl hb,(ok.exf b hb).2,λp hp=>absurd (show p∈([]:List (Addr×Obj)) from hp) (by simp)⟩
  refine i5 (λn s'=>∃i acc H',Inv X' [] (nfS own.length fr σ) H' s'/\tn i s'.heap/\(∀b∈fp,H' b=none)/\W i n acc H') ?_ m0 ⟨0,[],_,J0 _ (by have:=I.tk;omega),st1,λb hb=>by rw[af (fpD b hb)];exact(hf b hb).1,w0⟩;rintro n s3 ⟨i,acc,H3,I3,st3,fr3,w3⟩;obtain⟨hDa,turn3⟩:=turn i n acc H3 w3;rcases turn3 with ⟨stop,qn⟩ |⟨go,step⟩
  ·have:=T.done X' eP eW eK eC i [] s3 _ H3 (λ_ _=>False) I3 (fpX fr3) st3 stop;rw[eA] at this;refine thn this λr s4 ⟨hr,I4⟩=>?_;subst hr;show RR _ _ _ _;have I4':Inv (aL X scope cl H2.objs.size N' fp s H) [] (nfS own.length fr σ) H3 s4:=by rw[hX];exact I4
   obtain⟨m,hm,_⟩:=I4'.loc;exact hRR _ _ s4 H3 hCle ⟨m,hm⟩ I4'.free (o0 I hf I4') qn
  ·have:=T.item X' eP eW eK eC i [] s3 _ H3 (λ_ _=>False) I3 (fpX fr3) st3 go;rw[eA] at this;refine thn this λr s4 ⟨u,hr,h4⟩=>?_;subst hr;show wpAny _ _ (letOwnedTupleGo tg (.ref it) u) _ _ s4;refine thn h4 λ_ s5 ⟨x,H5,I5,r5,y5,st5,fr5⟩=>?_;have I5':=I5.pinned (fpX fr5) (T.obj _ _ st5);have back:∀{σ7:St} {H7:Hp} {s7:Shared},Inv X' ([]++gv fp s5.heap) σ7 H7 s7->tn (i+1) s7.heap/\∀b∈fp,H7 b=none:=λ{σ7 H7 s7} I7=>by
    refine⟨T.keep _ _ _ st5 λb hb o e=>(I7.pin (b,o) (l31 _ (l31 _ (cA hb e)))).1,λb hb=>?_⟩;obtain⟨o,e,d⟩:=T.obj _ _ st5 b hb;exact(I7.pin (b,o) (l31 _ (l31 _ (cA hb e)))).2.1
   have g5:=hg' _ s5 _ H5 x u _ I5' r5 (step x H5 y5);rw[eP,eW,eA,eE,eX] at g5;refine thn g5 λ_ s6 ⟨σ6,H6,I6,nf6,q6⟩=>?_;have t6:=ht' _ s6 σ6 H6 _ I6 q6;rw[eP,eW,eA,eE,eX] at t6;refine thn t6 λok s7 ⟨H7,I7,q7⟩=>?_;have again:∀{H8:Hp} {s8:Shared} {acc8:List V},Inv X' ([]++gv fp s5.heap) σ6 H8 s8->(∃m',m' < n/\W (i+1) m' acc8 H8) →
     ∃m,m < n/\∃i acc H',Inv X' [] (nfS own.length fr σ) H' s8/\tn i s8.heap/\(∀b∈fp,H' b=none)/\W i m acc H':=λ{H8 s8 acc8} I8 ⟨m',hm,w8⟩=>
    ⟨m',hm,i+1,acc8,H8,I8.unpinned.weak nf6.1.symm nf6.2,(back I8).1,(back I8).2,w8⟩
   cases ok with
   |false=>
    have q7':∃m',m' < n/\W (i+1) m' acc H7:=by rw[if_neg Bool.false_ne_true] at q7;exact q7
    show if false=true then _ else _
    rw[if_neg Bool.false_ne_true];exact again I7 q7'
   |true=>
    rw[if_pos rfl] at q7;show if true=true then _ else _
    rw[if_pos rfl];have e7:=he' _ s7 σ6 H7 _ I7 q7;rw[eP,eW,eA,eE,eX] at e7;refine thn e7 λyv s8 ⟨y,H8,I8,r8,hD8,hz8,m',hm,w8⟩=>?_;have a8:=iY _ s8 σ6 H8 (.ref s.heap.objs.size) [y] (.ref s.heap.objs.size) [yv] (λ_ H9=>H9=upd H8 s.heap.objs.size (.lst (acc++[y]))) I8 rfl (.cons r8 .nil) ⟨_,acc,y,rfl,rfl,hD8,hz8,rfl⟩;rw[eP,eW,eA,eX] at a8;refine thn a8 λ_ s9 ⟨_,H9,I9,_,e9⟩=>?_;subst e9;exact again I9 ⟨m',hm,w8⟩
 exact codeAny_compStart_list (loop _ rfl) (T.self _ 0 _ _ _ st1 (loop _ rfl))
def u7 (hc:X.calm=true)(Z:CompN X scope cl own fr N')(w5:∀y∈scope.names,y.2 ≠ .cell)(v9:∀x∈scope.names,x.2 = .local->scope.names.lookup x.1=some .local)(j9:closureFor scope X.env=pure cl)
  (hi:PI X tg iter wi)(hg:∀C fp s H,PG (aL X scope cl C N' fp s H) tg g)(ht:∀C fp s H,PTs (aL X scope cl C N' fp s H) ifs tt)(he:∀C fp s H,PE (aL X scope cl C N' fp s H) elt te)
  (hs:∀x,foldedSetIterable iter X.env x=pure x:=by intro _;rfl):PE X (.ListComp elt [⟨tg,iter,ifs,0⟩] scope pos) (tLC wi own.length fr g tt te):=by
 intro w9 s σ H Q I h;rw[eval_ListComp];refine wpAny_comprehension_free (use:=none) rfl hs j9 Z.kind v9 (thn (hi w9 s σ H _ I h) λv s1 h1=>thn h1 λitv s2 h2=>?_);obtain⟨it,fp,tn,J,H2,e,I2,T,st2,f2,q2⟩:=h2;subst e;refine gA (Cm:=λX=>X.calm=true) (λ_=>hc) Z w5 (λC=>hg C _ _ _) (λC=>ht C _ _ _) (λC=>he C _ _ _) I2 T.toP st2 f2 q2 (RR:=λacc C=>compPost (model X.prog X.w) X.A X.xe none (EP X w9 σ Q) acc C) λD C s' H' hC ⟨m,hm⟩ fC I' q'=>?_;exact⟨m,hm,λh' hs'=>⟨.ref D,H',i4 I2 hC I' fC hs',rfl,q'⟩⟩
def mI (i:Nat)(wi:TI)(k:Nat)(fr:List Nat)(g:TG)(tt:TT)(te:TE):TS:=λD σ H=>wi σ H λJ H1=>rLC k fr g tt te σ J H1 λa H'=>D.nx (σ.set i (some (.ref a))) H'
def o2 {i:Nat}{x:Str}{pos' spos:Pos}(hN:X.N.Nodup)(hix:X.N[i]? = some x)(hx:X.env.scope.names.lookup x=some .local)(hc:X.calm=true)(Z:CompN X scope cl own fr N')(w5:∀y∈scope.names,y.2 ≠ .cell)
  (v9:∀x∈scope.names,x.2 = .local->scope.names.lookup x.1=some .local)(j9:closureFor scope X.env=pure cl)
  (hi:PI X tg iter wi)(hg:∀C fp s H,PG (aL X scope cl C N' fp s H) tg g)(ht:∀C fp s H,PTs (aL X scope cl C N' fp s H) ifs tt)(he:∀C fp s H,PE (aL X scope cl C N' fp s H) elt te)
  (hs:∀x,foldedSetIterable iter X.env x=pure x:=by intro _;rfl) (hsw:swapsWith (.ListComp elt [⟨tg,iter,ifs,0⟩] scope pos) (some (.Name x pos')) spos.line X.env=pure true:=by rfl):
  PS X (.Assign [.Name x pos'] (.ListComp elt [⟨tg,iter,ifs,0⟩] scope pos) spos) (mI i wi own.length fr g tt te):=by
 intro w9 s σ H D I h;rw[exec_Assign_Name_used _ _ _ _ hsw];refine wpAny_bind (wpAny_standAt (wpAny_bind ?_));show wpAny _ X.A (do let _ ← comprehension (.ListComp elt [⟨tg,iter,ifs,0⟩] scope pos) scope X.env _ (newList []) false (eval iter X.env) (some (assign (.Name x pos') X.env))) _ _ s;refine wpAny_bind (wpAny_mono (wpAny_comprehension_free (use:=some (assign (.Name x pos') X.env)) (Q:=λ_ s'=>SP X w9 D .next s') rfl hs j9 Z.kind v9
  (thn (hi w9 s σ H _ I h) λv s1 h1=>thn h1 λitv s2 h2=>?_)) (λ_ s' hq=>wpAny_pure (wpAny_pure hq)) λ_ _ e=>e)
 obtain⟨it,fp,tn,J,H2,e,I2,T,st2,f2,q2⟩:=h2;subst e;refine gA (Cm:=λX=>X.calm=true) (λ_=>hc) Z w5 (λC=>hg C _ _ _) (λC=>ht C _ _ _) (λC=>he C _ _ _) I2 T.toP st2 f2 q2 (RR:=λacc C=>compPost (model X.prog X.w) X.A X.xe (some (assign (.Name x pos') X.env)) (λ_ s'=>SP X w9 D .next s') acc C) λa C s' H' hC ⟨m,hm⟩ fC I' q'=>?_;show wpAny _ _ (assign (.Name x pos') X.env (.ref a)) _ _ s';have neC:∀b,b=X.env.locals ∨ X.env.cells.lookup x=some b->C≠b:=λb hb z=>by
  subst z;rcases hb with e |e
  ·exact l66 (l28 I2.lt hC) e
  ·obtain⟨v,q⟩:=I2.cell x C e;exact absurd (l28 q.lt hC) (l37 _)
 refine wpAny_assign_Name (iO I' hN hix (.inl hx) (v := .ref a) rfl (λs'' I'' ⟨b,sb,eb⟩=>?_) (.inr hx));refine⟨m,hm.sameBut sb (neC b eb),λh' hs'=>⟨_,H',i4 I2 hC I'' fC hs',q'⟩⟩
end
open PySem PySem.Spec PyProof.Rows
open Builtin Builtin.Str
section
variable {X:Cx}
theorem kO:∀{ys:List Str} {us:List Value},Vals (ys.map V.str) us->∃l:List (Str×Tok),us=strValues l/\l.map (·.1)=ys
 | [],us,r=>by
  rw[List.map_nil] at r;cases r;exact⟨[],rfl,rfl⟩
 |y::ys,us,r=>by
  rw[l13] at r;cases r with
  |cons r1 r2=>
   obtain⟨t,e⟩:=r1;obtain⟨l,e1,e2⟩:=kO r2;subst e;subst e1;exact⟨(y,t)::l,rfl,by rw[l13,e2]⟩
theorem kP:∀(l:List (Str×Tok)),Vals ((l.map (·.1)).map V.str) (strValues l)
 | [] => .nil
 |(y,t)::l => .cons ⟨t,rfl⟩ (kP l)
inductive rSplit (x:V)(vs:List V)(H:Hp)(Q:VK):Prop
 |mk (z y)(_:x = .str z)(_:vs=[.str y])(_:(y.length==0)=false)(_:z.length<=1000000)(_:∀p,H p=none->Q (.ref p) (upd H p (.lst ((Txt.split z y).map V.str))))
def mJ (z y:Str)(hz:z.length<=1000000):(partsBetween z (occurrences z y 0 z.length (z.length+1)) y.length).length<=sizeLine:=by
 have h1:=StrLaws.occ_length_le z y 0 z.length (z.length+1);have h2:sizeLine=16777216:=sizeLine_eq;unfold partsBetween;simp only[l0,List.length_zip,l4,l8,l27];omega
def kR:MtR X "str.split" rSplit:=by
 intro w9 s σ H x vs v us Q I rx rv h;obtain⟨z,y,rfl,rfl,hy,hz,q⟩:=h;obtain⟨t,rfl⟩:=rx;obtain⟨u,rfl,t2,rfl⟩:=rv.one;have hl:=mJ z y hz;have hs:=sizeLine_eq;have fin:∀(l:List (Str×Tok)) (k:Nat),0 < k->l.map (·.1)=Txt.split z y->l.length<=sizeLine->EP X w9 σ Q (.ref s.heap.objs.size) { s with heap:=s.heap.push { cls := .type "list",data := .seq (strValues l).toArray },toks:=k }:=λl k hk e hn=>by
  have r:=kP l;rw[e] at r;have w6:((Txt.split z y).map V.str).length<=sizeLine:=by rw[l0,<- e,l0];exact hn
  exact⟨.ref _,_,I.lnew (t':=k) r w6 hk,rfl,q _ I.fresh⟩
 cases h1:(decide (z.length < y.length)||decide (strKind z < strKind y))
 ·cases hf:(occurrences z y 0 z.length (z.length+1)).isEmpty
  ·refine call_meets F.slot_str_split (typeIs_str _ _ _) F.entry_str_split (F.args_str_split_2 _ _) (meets_str_split_sep z y t t2 h1 hy hf nofun hl) ?_;show wants (EP X w9 σ Q) X.xe _ { s with toks:=_,heap:=s.heap.push { cls := .type "list",data := .seq (strsFrom s.toks (partsBetween z (occurrences z y 0 z.length (z.length+1)) y.length)).toArray } };rw[strsFrom_eq];refine fin (numbered s.toks _) _ (by have:=I.tk;omega) ((numbered_texts _ _).trans ((if_neg (ne_true_of_eq_false h1)).trans (if_neg (ne_true_of_eq_false hf))).symm) ?_;have e:=congrArg List.length (numbered_texts s.toks (partsBetween z (occurrences z y 0 z.length (z.length+1)) y.length));rw[l0] at e;rw[e];exact hl
  ·exact call_meets F.slot_str_split (typeIs_str _ _ _) F.entry_str_split (F.args_str_split_2 _ _) (meets_str_split_not_found z y t t2 h1 hy hf)
    (fin [(z,t)] s.toks I.tk ((if_neg (ne_true_of_eq_false h1)).trans (if_pos hf)).symm (by show 1<=sizeLine;decide))
 ·exact call_meets F.slot_str_split (typeIs_str _ _ _) F.entry_str_split (F.args_str_split_2 _ _) (meets_str_split_cannot_occur z y t t2 h1)
   (fin [(z,t)] s.toks I.tk (if_pos h1).symm (by show 1<=sizeLine;decide))
inductive rJoin (K:Frag)(x:V)(vs:List V)(H:Hp)(Q:VK):Prop
 |mk (z a ys)(_:x = .str z)(_:vs=[.ref a])(_:SqL K H a (ys.map V.str))(_:(ys.map (·.length)).sum+ys.length * z.length<=sizeLine)(_:Q (.str (Txt.join z ys)) H)
theorem i6 (z:Str):∀(ys:List Str) (n:Nat),ys.foldl (λ(n:Nat) (s:Str)=>n+s.length+z.length) n=n+((ys.map (·.length)).sum+ys.length * z.length)
 | [],n=>by simp
 |y::ys,n=>by
  rw[List.foldl_cons,i6 z ys,l13,l19,l4,Nat.succ_mul];omega
def b8:MtR X "str.join" (rJoin X.K):=by
 intro w9 s σ H x vs v us Q I rx rv h;obtain⟨z,a,ys,rfl,rfl,hq,hz,q⟩:=h;obtain⟨t,rfl⟩:=rx;obtain⟨u,rfl,ru⟩:=rv.one;cases ru;obtain⟨its,r,pl,hn⟩:=I.list hq;obtain⟨l,rfl,e⟩:=kO r;refine wpAny_with_toks (n:=1) I.tk (SC.join (texts:=ys) pl.isList e ?_ λt' k htk=>⟨.str (Txt.join z ys),H,I.tok _ htk,⟨_,rfl⟩,q⟩);unfold JoinOk tooLong;rw[<- Array.foldl_toList,List.toList_toArray,i6,l69];simpa using hz
inductive rS2 (f:Str->Str->V)(x:V)(vs:List V)(H:Hp)(Q:VK):Prop
 |mk (z y)(_:x = .str z)(_:vs=[.str y])(_:z.length<=sizeLine)(_:Q (f z y) H)
def i7:MtR X "str.rstrip" (rS2 λz y => .str (Txt.rstripChars z y)):=by
 intro w9 s σ H x vs v us Q I rx rv h;obtain⟨z,y,rfl,rfl,hz,q⟩:=h;obtain⟨t,rfl⟩:=rx;obtain⟨u,rfl,t2,rfl⟩:=rv.one;exact wpAny_with_toks (n:=1) I.tk (SC.rstripChars (λt' k htk=>⟨.str _,H,I.tok _ htk,⟨_,rfl⟩,q⟩) hz)
def i8:MtR X "str.lstrip" (rS2 λz y => .str (Txt.lstripChars z y)):=by
 intro w9 s σ H x vs v us Q I rx rv h;obtain⟨z,y,rfl,rfl,hz,q⟩:=h;obtain⟨t,rfl⟩:=rx;obtain⟨u,rfl,t2,rfl⟩:=rv.one;exact wpAny_with_toks (n:=1) I.tk (SC.lstripChars (λt' k htk=>⟨.str _,H,I.tok _ htk,⟨_,rfl⟩,q⟩) hz)
def o3:MtR X "str.strip" (rS2 λz y => .str (Txt.stripChars z y)):=by
 intro w9 s σ H x vs v us Q I rx rv h;obtain⟨z,y,rfl,rfl,hz,q⟩:=h;obtain⟨t,rfl⟩:=rx;obtain⟨u,rfl,t2,rfl⟩:=rv.one;exact wpAny_with_toks (n:=1) I.tk (SC.stripChars (λt' k htk=>⟨.str _,H,I.tok _ htk,⟨_,rfl⟩,q⟩) hz)
def aP:MtR X "str.startswith" (rS2 λz y => .bl (Txt.startswith z y)):=by
 intro w9 s σ H x vs v us Q I rx rv h;obtain⟨z,y,rfl,rfl,hz,q⟩:=h;obtain⟨t,rfl⟩:=rx;obtain⟨u,rfl,t2,rfl⟩:=rv.one;exact SC.startswith ⟨.bl _,H,I,rfl,q⟩
def fz:MtR X "str.endswith" (rS2 λz y => .bl (Txt.endswith z y)):=by
 intro w9 s σ H x vs v us Q I rx rv h;obtain⟨z,y,rfl,rfl,hz,q⟩:=h;obtain⟨t,rfl⟩:=rx;obtain⟨u,rfl,t2,rfl⟩:=rv.one;exact SC.endswith ⟨.bl _,H,I,rfl,q⟩
def rK:MtR X "str.find" (rS2 λz y => .int (Txt.find z y)):=by
 intro w9 s σ H x vs v us Q I rx rv h;obtain⟨z,y,rfl,rfl,hz,q⟩:=h;obtain⟨t,rfl⟩:=rx;obtain⟨u,rfl,t2,rfl⟩:=rv.one;exact SC.find ⟨.int _,H,I.tok _,⟨_,rfl⟩,q⟩
inductive R_mt_lower (x:V)(vs:List V)(H:Hp)(Q:VK):Prop
 |mk (z)(_:x = .str z)(_:vs=[])(_:z.length<=1000000)(_:Q (.str (Txt.lower z)) H)
def o5:MtR X "str.lower" R_mt_lower:=by
 intro w9 s σ H x vs v us Q I rx rv h;obtain⟨z,rfl,rfl,hz,q⟩:=h;obtain⟨t,rfl⟩:=rx;cases rv.zero;exact SCL.lower nofun λ_=>⟨.str _,H,I.tok _,⟨_,rfl⟩,q⟩
def lJ {o:Expr}{to:TE}{y z:Str}{jy jz:Nat}{py pz w4 y9:Pos}(ho:PE X o to)(hyz:(y==z)=false)(hzl:z.length<=14)
  (j6:attributeBase o "replace" X.env (eval o X.env)=eval o X.env:=by rfl) (v8:(w4.endLine==y9.line)=true:=by rfl):
  PE X (.Call (.Attribute o "replace" w4) [.Constant (.str y) jy py, .Constant (.str z) jz pz] [] y9) (λσ H Q=>to σ H λx H1=>∃w,x = .str w/\w.length<=1000000/\Q (.str (Txt.replace w y z)) H1):=by
 intro w9 s σ H Q I h;refine wpAny_Call_method_late j6 (by rfl) v8 rfl (thn (ho w9 s σ H _ I h) λv s1 ⟨x,H1,I1,r1,q1⟩=>?_);obtain⟨w,rfl,hw,q⟩:=q1;obtain⟨t,rfl⟩:=r1;refine⟨"str","str.replace",plainAttrs_str,F.slot_str_replace,F.type_str_replace,typeIs_str _ _ _,(λ_ e=>nomatch e),?_⟩;refine Calls.callWith_builtin (by rfl) (Calls.evalArgs_plain ?_);refine Calls.spliced_cons (Calls.Constant_str (k:=jy) (pos:=py) ?_);refine Calls.spliced_cons (Calls.Constant_str (k:=jz) (pos:=pz) ?_);refine Calls.spliced_nil ?_;have h0:=I1.tk;refine wpAny_with_toks (n:=1) (by show 1<=s1.toks+1+1;omega) (SC.replaceW (Nat.pos_iff_ne_zero.mp h0) (Nat.succ_ne_zero _) (l30 (l67 _)) hyz nofun hzl λt' k htk=>?_);exact⟨.str (Txt.replace w y z),H1,(I1.tok _ htk),⟨_,rfl⟩,q⟩
inductive rSlS (x:V)(lo hi:Option Int)(H:Hp)(Q:VK):Prop
 |mk (z)(_:x = .str z)(_:z.length<=sizeLine)(_:Q (.str (Txt.slice z lo hi)) H)
def bh:SlR X rSlS:=by
 intro w9 s σ H x v vl vu lo hi sl Q I rx hs pl pu h;obtain⟨z,rfl,hz,q⟩:=h;obtain⟨t,rfl⟩:=rx;refine⟨"str",_,F.slot_str_getitem.lookup,typeIs_str _ _ _,?_⟩;have fin:∀(l u:Option (Int×Tok)),l.map (·.1)=lo->u.map (·.1)=hi->(sliceMade z t l u none).post (EP X w9 σ Q) s:=by
  intro l u el eu;subst el eu;unfold sliceMade;unfold Txt.slice at q;have e:slicePicked z l u none=strSliceIndices (l.map (·.1)) (u.map (·.1)) 1 z.length:=rfl;rw[e];show (if ((1:Int)==1&&(strSliceIndices (l.map (·.1)) (u.map (·.1)) 1 z.length).length==z.length)=true then Made.val (.str z t) else Made.str ⟨((strSliceIndices (l.map (·.1)) (u.map (·.1)) 1 z.length).filterMap (z.cps[·]?)).toArray⟩).post (EP X w9 σ Q) s;by_cases c:(((1:Int)==1&&(strSliceIndices (l.map (·.1)) (u.map (·.1)) 1 z.length).length==z.length))=true
  ·rw[if_pos c];rw[if_pos c] at q;exact⟨.str z,H,I,⟨_,rfl⟩,q⟩
  ·rw[if_neg c];rw[if_neg c] at q;have hl:=Txt.slice_le z (l.map (·.1)) (u.map (·.1));unfold Txt.slice at hl;rw[if_neg c] at hl;exact⟨l11 hl hz, .str _,H,I.tok _,⟨_,rfl⟩,q⟩
 have go:∀(l u:Option (Int×Tok)),vl=partValue l->vu=partValue u->l.map (·.1)=lo->u.map (·.1)=hi->wpAny (model X.prog X.w) X.A (getItem (.str z t) (.ref sl)) (EP X w9 σ Q) X.xe s:=by
  intro l u e1 e2 e3 e4;subst e1 e2;exact wpAny_getItem_str_slice (l:=l) (u:=u) (st:=none) hs rfl (fin l u e3 e4)
 cases pl with
 |none=>cases pu with
  |none=>exact go none none rfl rfl rfl rfl
  |int j tj=>exact go none (some (j,tj)) rfl rfl rfl rfl
 |int i ti=>cases pu with
  |none=>exact go (some (i,ti)) none rfl rfl rfl rfl
  |int j tj=>exact go (some (i,ti)) (some (j,tj)) rfl rfl rfl rfl
def Its (z:Str):It:=⟨λi _=>i < z.length,λi H x H'=>H'=H/\∃c,z.cps[i]? = some c/\x = .str ⟨#[c]⟩,λi _=>z.length<=i⟩
inductive iStr.I (R:(It->Hp->Prop))(x:V)(H1:Hp):Prop
 |mk (z)(_:x = .str z)(_:R (Its z) H1)
def iStr (tl:TE):TI:=λσ H R=>tl σ H (iStr.I R)
def o6 {P:Program}{w:World}{K:Frag}{x:Str}{px:Pos}(z:Str)(it:Addr)(ty:String)(t:Tok)(hty:ty="str_ascii_iterator" ∨ ty="str_iterator"):
  Turn P w K (.Name x px) (Its z) [it] it (λi h=>h.IsStrIter it ty z t i) where
 mem:=by simp
 obj:=λi h st b hb=>by
  have e:b=it:=by simpa using hb
  subst e;obtain⟨o,ho,_,hd⟩:=st;exact⟨o,ho,λv z=>by rw[hd] at z;cases z⟩
 keep:=λi h h' st k=>by
  obtain⟨o,ho,r⟩:=st;exact⟨o,k it (by simp) o ho,r⟩
 item:=by
  intro X hP hw hK hc i w9 s σ H E I hf st hg;subst hP hw hK;obtain⟨f0,f1,f2,f3,f4,f5⟩:=hf it (by simp);have hi:i < z.cps.size:=hg;have hx:z.cps[i]? = some z.cps[i]:=by simp[hi]
  have fin:∀h',h'.IsStrIter it ty z t (i+1)->Heap.SameBut it s.heap h'->∃u,(some (Value.str ⟨#[z.cps[i]]⟩ s.toks):Option Value)=some u ∧
    wpAny (model X.prog X.w) X.A (letOwnedTupleGo (.Name x px) (.ref it) u) (λ_ s2=>∃x H',Inv X w9 σ H' s2/\RelV x u/\(Its z).yld i H x H'/\s2.heap.IsStrIter it ty z t (i+1)/\∀b∈[it],H' b=none) E { s with heap:=h',toks:=s.toks+1 }:=
   λh' st' sb=>⟨_,rfl,wpAny_pure ⟨.str ⟨#[z.cps[i]]⟩,H,I.turned (λb o hb e=>(sb.2 b hb).trans e) f0 f1 f3 f4 f5,⟨_,rfl⟩,⟨rfl,_,hx,rfl⟩,st',λb hb=>(hf b hb).1⟩⟩
  rcases hty with rfl |rfl
  ·exact wpAny_pyNext_ascii_item st hx fin
  ·exact wpAny_pyNext_wide_item st hx fin
 done:=by
  intro X hP hw hK hc i w9 s σ H E I hf st hg;subst hP hw hK;obtain⟨f0,f1,f2,f3,f4,f5⟩:=hf it (by simp);have hx:z.cps[i]? = none:=by
   have:z.cps.size<=i:=hg;simp[this]
  rcases hty with rfl |rfl
  ·exact wpAny_pyNext_ascii_end (I.ok.hd hc) st hx λh' eb=>⟨rfl,I.turned (t':=s.toks) (λb o hb e=>eb b o hb e) f0 f1 f3 f4 f5⟩
  ·exact wpAny_pyNext_wide_end (I.ok.hd hc) st hx λh' eb=>⟨rfl,I.turned (t':=s.toks) (λb o hb e=>eb b o hb e) f0 f1 f3 f4 f5⟩
 self:=by
  intro A i s Q E st h;rcases hty with rfl |rfl
  ·exact wpAny_pyIter_striter_ascii st h
  ·exact wpAny_pyIter_striter_wide st h
def um {l:Expr}{tl:TE}{x:Str}{px:Pos}(hl:PE X l tl):PI X (.Name x px) l (iStr tl):=by
 intro w9 s σ H R I h;refine thn (hl w9 s σ H _ I h) λv s1 ⟨y,H1,I1,r1,q1⟩=>?_;obtain⟨z,rfl,q⟩:=q1;obtain⟨t,rfl⟩:=r1;have fin:∀ty,(ty="str_ascii_iterator" ∨ ty="str_iterator")->PIE X w9 σ (.Name x px) R (.ref s1.heap.objs.size) { s1 with heap:=s1.heap.push { cls := .type ty,data := .fields #[.str z t, .int 0 0] } }:=λty hty=>by
  refine⟨s1.heap.objs.size,[s1.heap.objs.size],_,_,H1,rfl,I1.kept (t':=s1.toks) λb o e=>Heap.get?_push_of_some _ e,o6 z _ ty t hty,⟨_,Heap.get?_push_size _ rfl,rfl,rfl⟩,λb hb=>?_,q⟩;have e:b=s1.heap.objs.size:=by simpa using hb
  subst e;exact I1.fpOk (l5 _) (I1.hok.fresh (l5 _))
 cases ha:z.cps.all (· < 128)
 ·exact wpAny_pyIter_wide ha (fin _ (.inr rfl))
 ·exact wpAny_pyIter_ascii ha (fin _ (.inl rfl))
theorem fA:∀{bs:List Bool} {us:List Value} {i:Nat} {v:Value},Vals (bs.map V.bl) us->us[i]? = some v->∃b,bs[i]? = some b/\v = .bool b
 | [],_,_,_,r,e=>by
  rw[List.map_nil] at r;cases r;simp at e
 |b::bs,us,i,v,r,e=>by
  rw[l13] at r;cases r with
  |cons r1 r2=>
   cases i with
   |zero=>
    simp at e;subst e;exact⟨b,rfl,r1⟩
   |succ i=>
    obtain⟨c,h1,h2⟩:=fA (i:=i) r2 (by simpa using e);exact⟨c,by simpa using h1,h2⟩
def mK (bs:List Bool):((List.range bs.length).all λi=>bs.getD i true)=bs.all id:=by
 rw[Bool.eq_iff_iff,l40,l40];constructor
 ·intro h b hb;obtain⟨i,hi,rfl⟩:=List.getElem_of_mem hb;have:=h i (l38.mpr hi);rw[l22,List.getElem?_eq_getElem hi] at this;exact this
 ·intro h i hi;have hi':=l38.mp hi;rw[l22,List.getElem?_eq_getElem hi'];exact h _ (l34 hi')
inductive R_call_all (K:Frag)(xs:List V)(H:Hp)(Q:VK):Prop
 |mk (a:Addr)(bs:List Bool)(_:xs=[.ref a])(_:SqL K H a (bs.map V.bl))(_:Q (.bl (bs.all id)) H)
def kS (hc:X.calm=true):cV X (.builtin "all") (R_call_all X.K):=by
 intro w9 s σ H xs us Q I r h;obtain⟨a,bs,rfl,hq,q⟩:=h;obtain⟨u,rfl,rx⟩:=lD r;cases rx;obtain⟨its,r',pl,hz⟩:=I.list hq;have w6:its.toArray.size=bs.length:=by
  have:=r'.length;rw[l0] at this;rw[l24,this]
 have lt:a < s.heap.objs.size:=by
  obtain⟨o,n,e,_⟩:=pl;exact Heap.lt_size e
 refine wpAny_with_toks (n:=1) I.tk (call_all_walk ?_);refine wpAny_pyIter_list pl.isList ?_;refine⟨s.heap.objs.size,_,_,_,_,_,λi=>bs.getD i true,rfl,Walks.list (A:=X.A.in1) (I.ok.hd hc) s.heap.objs.size a (l30 lt) its.toArray,⟨⟨_,Heap.get?_push_size _ rfl,rfl,rfl⟩,?_⟩,?_,λh' tk kp htk=>?_⟩
 ·obtain⟨o,n,e,c,_,d⟩:=pl;exact⟨o,Heap.get?_push_of_some _ e,c,n,d⟩
 ·intro i v s' Q' E' hP hQ;have hP':its[i]? = some v:=by simpa using hP
  obtain⟨b,hb,rfl⟩:=fA r' hP';have hQ':Q' (bs.getD i true) s':=hQ;rw[l22,hb] at hQ';exact wpAny_truthy_bool hQ'
 ·rw[w6,mK];refine⟨.bl _,H,I.kept (λb o e=>kp b o ?_ (Heap.get?_push_of_some _ e)) htk,rfl,q⟩;simp only[l14];exact l30 (Heap.lt_size e)
end
mutual
inductive Den (K:Frag) (H:Hp):V->PyData->Prop where
 |non:Den K H .non .none
 |bl (b:Bool):Den K H (.bl b) (.bool b)
 |int (i:Int):Den K H (.int i) (.int i)
 |str (x:Str) (h:PyData.strOk x=true):Den K H (.str x) (.str x)
 |lst {a:Addr} {xs:List V} {ds:List PyData}:SqL K H a xs->DenAll K H xs ds->Den K H (.ref a) (.list ds)
 |tup {a:Addr} {xs:List V} {ds:List PyData}:SqT K H a xs->DenAll K H xs ds->Den K H (.ref a) (.tuple ds)
inductive DenAll (K:Frag) (H:Hp):List V->List PyData->Prop where
 |nil:DenAll K H [] []
 |cons {x:V} {xs:List V} {d:PyData} {ds:List PyData}:Den K H x d->DenAll K H xs ds->DenAll K H (x::xs) (d::ds)
end
section
variable {X:Cx}{w9:List (Addr×Obj)}{σ:St}{H:Hp}{s:Shared}
mutual
theorem Den.reads (I:Inv X w9 σ H s):∀{x:V} {d:PyData} {u:Value},Den X.K H x d->RelV x u->∃as,Reads s.heap u d as
 |_,_,_, .non,r=>by cases r;exact⟨_, .none⟩
 |_,_,_, .bl b,r=>by cases r;exact⟨_, .bool b⟩
 |_,_,_, .int i,r=>by obtain⟨t,rfl⟩:=r;exact⟨_, .int i t⟩
 |_,_,_, .str x _,r=>by obtain⟨t,rfl⟩:=r;exact⟨_, .str x t⟩
 |_,_,_, .lst hq hd,r=>by
  cases r;obtain⟨its,rv,⟨o,n,e,c,_,d⟩,_⟩:=I.list hq;obtain⟨as,ra⟩:=DenAll.reads I hd rv;exact⟨_, .list e c d (by simpa using ra)⟩
 |_,_,_, .tup hq hd,r=>by
  cases r;obtain⟨its,rv,⟨o,e,c,n,d⟩,_⟩:=I.tuple hq;obtain⟨as,ra⟩:=DenAll.reads I hd rv;exact⟨_, .tuple e c d (by simpa using ra)⟩
theorem DenAll.reads (I:Inv X w9 σ H s):∀{xs:List V} {ds:List PyData} {us:List Value},DenAll X.K H xs ds->Vals xs us->∃as,ReadsAll s.heap us ds as
 |_,_,_, .nil,r=>by cases r;exact⟨_, .nil⟩
 |_,_,_, .cons h hs,r=>by
  cases r with
  |cons r1 r2=>
   obtain⟨as,a⟩:=Den.reads I h r1;obtain⟨bs,b⟩:=DenAll.reads I hs r2;exact⟨_, .cons a b⟩
end
end
mutual
theorem gU:∀d:PyData,d.canLay0=true->PyData.eqv d d=true
 | .none,_=>rfl
 | .bool b,_=>by simp[PyData.eqv]
 | .int i,_=>by simp[PyData.eqv]
 | .str x,_=>by simp[PyData.eqv]
 | .list xs,h=>by simp only[PyData.eqv];exact cW xs (by simpa[PyData.canLay0] using h)
 | .tuple xs,h=>by simp only[PyData.eqv];exact cW xs (by simpa[PyData.canLay0] using h)
 | .dict _,h=>by simp[PyData.canLay0] at h
theorem cW:∀ds:List PyData,PyData.canLayAll0 ds=true->PyData.eqvAll ds ds=true
 | [],_=>rfl
 |d::ds,h=>by
  simp only[PyData.canLayAll0,Bool.and_eq_true] at h;simp only[PyData.eqvAll,Bool.and_eq_true];exact⟨gU d h.1,cW ds h.2⟩
end
mutual
theorem Den.lay {K:Frag}{H:Hp}:∀{x:V} {d:PyData},Den K H x d->d.canLay0=true
 |_,_, .non=>rfl
 |_,_, .bl _=>rfl
 |_,_, .int _=>rfl
 |_,_, .str _ h=>h
 |_,_, .lst _ h=>by simp only[PyData.canLay0];exact h.lay
 |_,_, .tup _ h=>by simp only[PyData.canLay0];exact h.lay
theorem DenAll.lay {K:Frag}{H:Hp}:∀{xs:List V} {ds:List PyData},DenAll K H xs ds->PyData.canLayAll0 ds=true
 |_,_, .nil=>rfl
 |_,_, .cons h hs=>by simp only[PyData.canLayAll0,Bool.and_eq_true];exact⟨h.lay,hs.lay⟩
end
def ac {H:Hp}{p:Addr}(h:H p=none)(o:HO):Same H (upd H p o):=λb u q=>by rw[af (aN q h)];exact q
def ak {H H':Hp}{D:Addr}{o:HO}(hD:H D=none)(e:Same H H'):Same H (upd H' D o):=λb u q=>by
 rw[af (aN q hD)];exact e b u q
def mL {J:It}{xs:List V}{k:Nat}{fr:List Nat}{g:TG}{tt:TT}{te:TE}{σ:St}{H0:Hp}{Q:Addr->Hp->Prop}(p:V->Bool)(f:V->V)(hl:xs.length<=sizeLine)
  (hgo:∀i H,Same H0 H->i < xs.length->J.go i H)(hyl:∀i H x H',i < xs.length->Same H0 H->J.yld i H x H'->H'=H/\xs[i]? = some x)(hst:∀i H,Same H0 H->xs.length<=i->J.stop i H)
  (ht:∀x∈xs,∀H',Same H0 H'->∀(C:V->Hp->Prop)(N:Hp->Prop),(∀H4,Same H' H4->p x=true->C (f x) H4)->(∀H3,Same H' H3->p x=false->N H3) →
   g x (nfS k fr σ) H' λσ2 H2=>nfLe k fr σ σ2/\tt σ2 H2 λb H3=>if b=true then te σ2 H3 C else N H3)
  (hq:∀D H',H0 D=none->Same H0 H'->H' D=some (.lst ((xs.filter p).map f))->Q D H'):rLC k fr g tt te σ J H0 Q:=by
 intro D hD;refine⟨λi m acc H=>m=xs.length - i/\i<=xs.length/\acc=((xs.take i).filter p).map f/\H D=some (.lst acc)/\Same H0 H,⟨xs.length,by simp,l12 _,by simp,aa,ac hD _⟩,?_⟩;rintro i m acc H ⟨rfl,hi,rfl,hDa,sm⟩;refine⟨hDa,?_⟩;by_cases hlt:i < xs.length
 ·refine .inr ⟨hgo i H sm hlt,λx H' y=>?_⟩;obtain⟨e,hxi⟩:=hyl i H x H' hlt sm y;subst e;have hmem:x∈xs:=l15 hxi;have htk:=take_succ_filter p xs i x hxi;refine ht x hmem H' sm _ _ (λH4 s4 hp=>?_) (λH3 s3 hp=>?_)
  ·refine⟨s4 _ _ hDa,?_,xs.length - (i+1),by omega,rfl,hlt,?_,aa,?_⟩
   ·rw[l0];have:=List.length_filter_le p (xs.take i);rw[l21] at this;omega
   ·rw[htk,hp];simp
   ·exact ak hD (sm.trans s4)
  ·refine⟨xs.length - (i+1),by omega,rfl,hlt,?_,s3 _ _ hDa,sm.trans s3⟩;rw[htk,hp];simp
 ·have e:i=xs.length:=by omega
  subst e;rw[List.take_length] at hDa ⊢;exact .inl ⟨hst _ H sm (l5 _),hq D H hD sm hDa⟩
def mM {K:Frag}{a:Addr}{xs:List V}{k:Nat}{fr:List Nat}{g:TG}{tt:TT}{te:TE}{σ:St}{H0:Hp}{Q:Addr->Hp->Prop}(p:V->Bool)(f:V->V)(hx:SqL K H0 a xs)(hl:xs.length<=sizeLine)
  (ht:∀x∈xs,∀H',Same H0 H'->∀(C:V->Hp->Prop)(N:Hp->Prop),(∀H4,Same H' H4->p x=true->C (f x) H4)->(∀H3,Same H' H3->p x=false->N H3) →
   g x (nfS k fr σ) H' λσ2 H2=>nfLe k fr σ σ2/\tt σ2 H2 λb H3=>if b=true then te σ2 H3 C else N H3)
  (hq:∀D H',H0 D=none->Same H0 H'->H' D=some (.lst ((xs.filter p).map f))->Q D H'):rLC k fr g tt te σ (Itl K a) H0 Q:=
 mL p f hl (λi H sm hi=>⟨xs,xs[i],sm.seq hx,by simp[hi]⟩) (λi H x H' _ sm y=>⟨y.1,by obtain⟨e,y⟩:=y;exact y xs (sm.seq hx)⟩) (λi H sm hi=>⟨xs,sm.seq hx,hi⟩) ht hq
def qy {z:Str}{k:Nat}{fr:List Nat}{g:TG}{tt:TT}{te:TE}{σ:St}{H0:Hp}{Q:Addr->Hp->Prop}(p:V->Bool)(f:V->V)(hl:z.length<=sizeLine)
  (ht:∀c∈z.cps.toList,∀H',Same H0 H'->∀(C:V->Hp->Prop)(N:Hp->Prop),(∀H4,Same H' H4->p (.str ⟨#[c]⟩)=true->C (f (.str ⟨#[c]⟩)) H4)->(∀H3,Same H' H3->p (.str ⟨#[c]⟩)=false->N H3) →
   g (.str ⟨#[c]⟩) (nfS k fr σ) H' λσ2 H2=>nfLe k fr σ σ2/\tt σ2 H2 λb H3=>if b=true then te σ2 H3 C else N H3)
  (hq:∀D H',H0 D=none->Same H0 H'->H' D=some (.lst (((z.cps.toList.map λc=>V.str ⟨#[c]⟩).filter p).map f))->Q D H'):rLC k fr g tt te σ (Its z) H0 Q:=by
 have hz:(z.cps.toList.map λc=>V.str ⟨#[c]⟩).length=z.length:=by rw[l0];simp[Str.length]
 refine mL p f (by rw[hz];exact hl) (λi H sm hi=>by rw[hz] at hi;exact hi) (λi H x H' hi sm y=>?_) (λi H sm hi=>by rw[hz] at hi;exact hi) (λx hx=>?_) hq
 ·obtain⟨e,c,h1,h2⟩:=y;refine⟨e,?_⟩;rw[List.getElem?_map,h2];have:z.cps.toList[i]? = some c:=by simpa using h1
  rw[this];rfl
 ·obtain⟨c,hc,rfl⟩:=l16.mp hx;exact ht c hc
def o7 {n:Nat}{k:Nat}{fr:List Nat}{g:TG}{tt:TT}{te:TE}{σ:St}{H0:Hp}{Q:Addr->Hp->Prop}(lo:Int)(p:V->Bool)(f:V->V)(hl:n<=sizeLine)
  (ht:∀i,i < n->∀H',Same H0 H'->∀(C:V->Hp->Prop)(N:Hp->Prop),(∀H4,Same H' H4->p (.int (lo+(i:Nat)))=true->C (f (.int (lo+(i:Nat)))) H4)->(∀H3,Same H' H3->p (.int (lo+(i:Nat)))=false->N H3) →
   g (.int (lo+(i:Nat))) (nfS k fr σ) H' λσ2 H2=>nfLe k fr σ σ2/\tt σ2 H2 λb H3=>if b=true then te σ2 H3 C else N H3)
  (hq:∀D H',H0 D=none->Same H0 H'->H' D=some (.lst ((((List.range n).map λ(i:Nat)=>V.int (lo+i)).filter p).map f))->Q D H'):rLC k fr g tt te σ (Itr lo n) H0 Q:=by
 have hz:((List.range n).map λ(i:Nat)=>V.int (lo+i)).length=n:=by rw[l0,l41]
 refine mL p f (by rw[hz];exact hl) (λi H sm hi=>by rw[hz] at hi;exact hi) (λi H x H' hi sm y=>?_) (λi H sm hi=>by rw[hz] at hi;exact hi) (λx hx=>?_) hq
 ·obtain⟨e,h2⟩:=y;rw[hz] at hi;refine⟨e,?_⟩;rw[List.getElem?_map,List.getElem?_range hi,h2];rfl
 ·obtain⟨i,hi,rfl⟩:=l16.mp hx;exact ht i (l38.mp hi)
def FreeOk (X:Cx)(scope:Scope)(N':List Str):Nat->List Nat->List Str->Prop
 |_,[],[]=>True
 |k,j::fr,x::xs=>X.N[j]? = some x/\N'[k]? = some x/\(X.env.kindOf x=some .cell ∨ X.env.kindOf x=some .free) ∧
   ((relabel scope X.env).names.lookup x=some .cell ∨ (relabel scope X.env).names.lookup x=some .free)/\FreeOk X scope N' (k+1) fr xs
 |_,_,_=>False
def FreeOk.get {X:Cx}{scope:Scope}{N':List Str}:∀{k:Nat} {fr:List Nat} {xs:List Str},FreeOk X scope N' k fr xs->∀(i j:Nat),fr[i]? = some j->∃x,X.N[j]? = some x/\N'[k+i]? = some x ∧
  (X.env.kindOf x=some .cell ∨ X.env.kindOf x=some .free)/\((relabel scope X.env).names.lookup x=some .cell ∨ (relabel scope X.env).names.lookup x=some .free)
 |_,[],[],_,i,j,e=>by simp at e
 |_,[],_::_,h,_,_,_=>h.elim
 |_,_::_,[],h,_,_,_=>h.elim
 |k,j0::fr,x::xs,h,i,j,e=>by
  obtain⟨h1,h2,h3,h4,h5⟩:=h;cases i with
  |zero=>
   simp at e;subst e;exact⟨x,h1,h2,h3,h4⟩
  |succ i=>
   have:=h5.get i j (by simpa using e);have e2:k+1+i=k+(i+1):=by omega
   rw[e2] at this;exact this
def lK {X:Cx}{scope:Scope}{cl:List (Str×Addr)}{own:List Str}{fr:List Nat}{xs N':List Str}(cells:CellsIn X.env cl)(free:FreeOk X scope N' own.length fr xs)
  (nd:N'.Nodup)(all:((relabel scope X.env).names.all λy=>y.2 == .local||y.2 == .globalImplicit||(cl.lookup y.1).isSome)=true:=by rfl)
  (kind:scope.kind = .function:=by rfl) (len:N'.length=own.length+fr.length:=by rfl):CompN X scope cl own fr N':=by
 refine⟨kind,cells,λx hx=>?_,nd,len,λi j e=>free.get i j e⟩;have key:∀k,(relabel scope X.env).names.lookup x=some k->(k = .cell ∨ k = .free)->∃c,cl.lookup x=some c:=λk e hk=>by
  have hm:=PySem.mem_of_lookup e;have:=l40.mp all _ hm;rcases hk with rfl |rfl
  ·simp only[Bool.or_eq_true] at this;rcases this with (z |z) |z
   ·exact absurd z ∅
   ·exact absurd z ∅
   ·exact l76.mp z
  ·simp only[Bool.or_eq_true] at this;rcases this with (z |z) |z
   ·exact absurd z ∅
   ·exact absurd z ∅
   ·exact l76.mp z
 rcases hx with e |e
 ·exact key _ e (.inl rfl)
 ·exact key _ e (.inr rfl)
structure Def (P:Program)(w:World)(K:Frag)(mg:Str->Option Value)(base:Heap)(k:Nat)(x:Str)(ps:List Str)(sp:Sp):Prop where
 ex:∃f fd,FnOk P w K mg base CX0 k f fd ps sp/\mg x=some (.ref f)/\keepIn K (.ref f)=true/\Binds K fd ps []
section
variable {X:Cx}{k:Nat}{x:Str}{ps:List Str}{sp:Sp}{e:Expr}{es:List Expr}{te:TE}{t:TA}{p pos:Pos}
def o8 (D:Def X.prog X.w X.K X.mg X.base k x ps sp)(hr:Room k X.A)(ha:PA X (e::es) t)(hg:Gl X x:=by exact rfl) (hdb:(x==("__debug__":Str))=false:=by decide)
  (he:starEach (e::es) X.env=(false,eval e X.env)::starEach es X.env:=by rfl) (hpl:(backTo pos (starEach es X.env)).any (·.1)=false:=by rfl):
  PE X (.Call (.Name x p) (e::es) [] pos) (tCall sp [] E0 t):=by
 obtain⟨f,fd,G,hm,hk,hb⟩:=D.ex;exact rz G hr hg hm hk hb .nil rG ha hdb he hpl
def cw:Expr->Bool
 | .Starred .. => true
 |_=>false
def bb {e:Expr}{es:List Expr}{env:Env}(h:cw e=false):starEach (e::es) env=(false,eval e env)::starEach es env:=by
 cases e <;> first |rfl |cases h
def aA:List Expr->Bool
 | []=>true
 |e::es => !cw e&&aA es
theorem b6 {pos:Pos}{env:Env}:∀{es:List Expr},aA es=true->(backTo pos (starEach es env)).any (·.1)=false
 | [],_=>rfl
 |e::es,h=>by
  unfold aA at h;rw[Bool.and_eq_true,Bool.not_eq_true'] at h;rw[bb h.1];exact(show (false||(backTo pos (starEach es env)).any (·.1))=false by rw[b6 h.2];rfl)
theorem i9 {pos:Pos}{env:Env}:∀{es:List Expr},aA es=true->(backTo pos (starEach es env)).all (λx => !x.1)=true
 | [],_=>rfl
 |e::es,h=>by
  unfold aA at h;rw[Bool.and_eq_true,Bool.not_eq_true'] at h;rw[bb h.1];exact(show (true&&(backTo pos (starEach es env)).all (λx => !x.1))=true by rw[i9 h.2];rfl)
def pa (ha:PE X e te)(hr:PA X es t)(h:cw e=false:=by rfl):PA X (e::es) (tCons te t):=rq ha hr (bb h)
def few {y9:Pos}{env:Env}{es:List Expr}(h:aA es=true)(hl:decide (es.length+([]:List Keyword).length+(if ([]:List Keyword).isEmpty then 0 else 1) < 30)=true):
  ((backTo y9 (starEach es env)).all (λx => !x.1)&&(backToKw y9 (keywordEach [] env)).all (λx=>x.1.isSome)
   && decide (es.length+([]:List Keyword).length+(if ([]:List Keyword).isEmpty then 0 else 1) < 30))=true:=by
 rw[i9 h,hl];rfl
def pm {o e:Expr}{es:List Expr}{to:TE}{t:TA}{name:Str}{w4 y9:Pos}{T id:String}{r:V->List V->Hp->VK->Prop}(pa:PlainAttrs T)(slot:Slot T name id)(hty:typeOf (.builtin id)=pure (.type "method_descriptor"))(hm:MtR X id r)(ho:PE X o to)(ha:PA X (e::es) t)
  (j6:attributeBase o name X.env (eval o X.env)=eval o X.env)(hst:aA (e::es)=true:=by rfl) (hl:decide ((e::es).length+([]:List Keyword).length+(if ([]:List Keyword).isEmpty then 0 else 1) < 30)=true:=by rfl)
  (v8:(w4.endLine==y9.line)=true:=by rfl):PE X (.Call (.Attribute o name w4) (e::es) [] y9) (tBM X.K T r to t):=by
 have h2:aA es=true:=by
  unfold aA at hst;rw[Bool.and_eq_true] at hst;exact hst.2
 have h1:cw e=false:=by
  unfold aA at hst;rw[Bool.and_eq_true,Bool.not_eq_true'] at hst;exact hst.1
 exact u6 pa slot hty hm ho ha j6 (few hst hl) v8 (bb h1) (b6 h2)
def bC:Expr->Bool
 | .Call (.Name x _) [] [] _=>x != Str.ofString "super"
 |_=>true
def base_of {o:Expr}{name:Str}{env:Env}{w:Sem Value}(h:bC o=true):attributeBase o name env w=w:=by
 unfold attributeBase;split
 ·rename_i id _ _;have h:(id != Str.ofString "super")=true:=h;rw[h];rfl
 ·rfl
def cD {k:Nat}{x:Str}{ps:List Str}{sp:Sp}(D:Def X.prog X.w X.K X.mg X.base k x ps sp)(hr:Room k X.A)(ha:PA X (e::es) t)(hg:Gl X x:=by exact rfl) (hdb:(x==("__debug__":Str))=false:=by decide)
  (hst:aA (e::es)=true:=by rfl):PE X (.Call (.Name x p) (e::es) [] pos) (tCall sp [] E0 t):=by
 have h2:aA es=true:=by
  unfold aA at hst;rw[Bool.and_eq_true] at hst;exact hst.2
 have h1:cw e=false:=by
  unfold aA at hst;rw[Bool.and_eq_true,Bool.not_eq_true'] at hst;exact hst.1
 exact o8 D hr ha hg hdb (bb h1) (b6 h2)
def cB {id:String}{r:List V->Hp->VK->Prop}(hc:cV X (.builtin id) r)(hg:Gl X x)(hm:X.mg x=none)(hv:bootBuiltins x=some (.builtin id))(ha:PA X (e::es) t)(hn:x≠"__name__":=by decide) (hdb:(x==("__debug__":Str))=false:=by decide)
  (hst:aA (e::es)=true:=by rfl):PE X (.Call (.Name x p) (e::es) [] pos) (tCB r t):=by
 have h2:aA es=true:=by
  unfold aA at hst;rw[Bool.and_eq_true] at hst;exact hst.2
 have h1:cw e=false:=by
  unfold aA at hst;rw[Bool.and_eq_true,Bool.not_eq_true'] at hst;exact hst.1
 exact oW hc hg hm hv ha hn hdb (bb h1) (b6 h2)
inductive rIsT (K:Frag)(xs:List V)(H:Hp)(Q:VK):Prop
 |mk (x t T b)(_:xs=[x, .ty T])(_:TyOf K H x t)(_:kitOne K t (.type T)=some b)(_:Q (.bl b) H)
def gV:cV X (.builtin "isinstance") (rIsT X.K):=by
 intro w9 s σ H xs us Q I r h;obtain⟨x,t,T,b,rfl,ty,e,q⟩:=h;obtain⟨u,v,rfl,rx,rv⟩:=r.two;cases rv;exact wpAny_with_toks (n:=1) I.tk (mC I rx ty e λtk htk=>⟨.bl b,H,I.tok _ htk,rfl,q⟩)
def gW (K:Frag)(t:Value):kitOne K t t=some true:=by
 unfold kitOne;rw[if_pos (beq_self_eq_true t)]
def o9 {x y:Str}{pos:Pos}(h:∃t,X.mg x=some (.str y t))(hg:Gl X x:=by exact rfl) (hd:(x==("__debug__":Str))=false:=by decide):PE X (.Name x pos) (tC (.str y)):=by
 obtain⟨t,e⟩:=h;exact mn hg e ⟨t,rfl⟩ hd
def pb {x:Str}{y:Int}{pos:Pos}(h:∃t,X.mg x=some (.int y t))(hg:Gl X x:=by exact rfl) (hd:(x==("__debug__":Str))=false:=by decide):PE X (.Name x pos) (tC (.int y)):=by
 obtain⟨t,e⟩:=h;exact mn hg e ⟨t,rfl⟩ hd
end
structure XE (X:Cx)(e:Expr)(t:TE):Prop where
 h:PE X e t
structure XT (X:Cx)(e:Expr)(t:TT):Prop where
 h:PT X e t
structure XW (X:Cx)(e:Expr)(t:TT):Prop where
 h:PW X e t
structure XA (X:Cx)(e:List Expr)(t:TA):Prop where
 h:PA X e t
structure XS (X:Cx)(st:Stmt)(t:TS):Prop where
 h:PS X st t
structure XB (X:Cx)(st:List Stmt)(t:TS):Prop where
 h:PSs X st t
structure XG (X:Cx)(e:Expr)(t:TG):Prop where
 h:PG X e t
structure XGs (X:Cx)(e:List Expr)(t:TGs):Prop where
 h:PGs X e t
structure XI (X:Cx)(tg it:Expr)(t:TI):Prop where
 h:PI X tg it t
structure XO (X:Cx)(e:Option Expr)(t:TO):Prop where
 h:PO X e t
structure XQ (X:Cx)(ifs:List Expr)(t:TT):Prop where
 h:PTs X ifs t
def am {X:Cx}{st:List Stmt}{t:TS}{D:Ends}{σ:St}{H:Hp}(h:XB X st t)(q:t D σ H):∃t,PSs X st t/\t D σ H:=⟨t,h.h,q⟩
section
variable {X:Cx}{a b c o e:Expr}{ta tb tc te to:TE}{tA tB':TT}{es:List Expr}{t:TA}{pos p p2 w4 y9:Pos}{x:Str}
def xb0:XB X [] gR:=⟨q9⟩
def xb1 {st:Stmt}{u:TS}(h:XS X st u):XB X [st] u:=⟨rc h.h⟩
def xbc {st:Stmt}{sts:List Stmt}{u v:TS}(h:XS X st u)(r:XB X sts v):XB X (st::sts) (tSeq u v):=⟨oM h.h r.h⟩
def xret (h:XE X e te):XS X (.Return (some e) pos) (tRet te):=⟨tP h.h⟩
def xif {f g:List Stmt}{tf tg:TS}(h:XT X c tA)(h1:XB X f tf)(h2:XB X g tg):XS X (.If c f g pos) (tIfS tA tf tg):=⟨uX h.h h1.h h2.h⟩
def mN {st:Stmt}:XS X st qr:=⟨oO⟩
def bw (h:XE X e te)(hs:swapsWith e none pos.line X.env=pure false:=by rfl):XS X (.Expr e pos) (tDrop te):=⟨re h.h hs⟩
def xset {i:Nat}{pos':Pos}(hN:X.N.Nodup)(hi:X.N[i]? = some x)(hx:Loc X.env.scope x)(he:XE X e te)(hs:swapsWith e (some (.Name x pos')) pos.line X.env=pure false:=by rfl) (hf:X.fn x=true ∨ X.env.scope.names.lookup x=some .local:=by first |exact .inl rfl |exact .inr rfl):
  XS X (.Assign [.Name x pos'] e pos) (tAsg te (al i)):=⟨tT hN hi hx he.h hs hf⟩
def xgn {i:Nat}(hN:X.N.Nodup)(hi:X.N[i]? = some x)(hx:Loc X.env.scope x)(hf:X.fn x=true ∨ X.env.scope.names.lookup x=some .local:=by first |exact .inl rfl |exact .inr rfl):XG X (.Name x pos) (al i):=⟨rg hN hi hx hf⟩
def xst {i:Nat}{pos':Pos}(hN:X.N.Nodup)(he:XE X e te)(hi:X.N[i]? = some x:=by rfl) (hx:Loc X.env.scope x:=by exact Or.inl rfl) (hs:swapsWith e (some (.Name x pos')) pos.line X.env=pure false:=by rfl) (hf:X.fn x=true ∨ X.env.scope.names.lookup x=some .local:=by first |exact .inl rfl |exact .inr rfl):XS X (.Assign [.Name x pos'] e pos) (tAsg te (al i)):=xset hN hi hx he hs hf
def xgm {i:Nat}(hN:X.N.Nodup)(hi:X.N[i]? = some x:=by rfl) (hx:Loc X.env.scope x:=by exact Or.inl rfl) (hf:X.fn x=true ∨ X.env.scope.names.lookup x=some .local:=by first |exact .inl rfl |exact .inr rfl):XG X (.Name x pos) (al i):=xgn hN hi hx hf
def xgs0:XGs X [] gNil:=⟨rh⟩
def xgsc {tg:TG}{tgs:TGs}(h1:XG X e tg)(h2:XGs X es tgs)(hs:(assignEach (e::es) X.env).map (·.2)=assign e X.env::(assignEach es X.env).map (·.2):=by rfl):XGs X (e::es) (gCons tg tgs):=⟨oP h1.h h2.h hs⟩
def xgt {k n:Nat}{tgs:TGs}(hc:X.calm=true)(h:XGs X es tgs)(hn:(assignEach es X.env).length=n:=by rfl) (hst:(assignEach es X.env).findIdx? (·.1)=none:=by rfl):XG X (.Tuple es k pos) (gTup X.K n tgs):=⟨tQ hc h.h hn hst⟩
def xasg {tg:Expr}{g:TG}(he:XE X e te)(hg:XG X tg g)(hs:swapsWithSole [tg] e pos.line X.env=pure false:=by rfl) (hw:swappedStores [tg] e X.env=pure none:=by rfl)
  (h1:(assignEach [tg] X.env).map (·.2)=[assign tg X.env]:=by rfl):XS X (.Assign [tg] e pos) (tAsg te g):=⟨tR he.h hg.h hs hw h1⟩
def xfor {tg it:Expr}{body:List Stmt}{wi:TI}{g:TG}{tb:TS}(hp:PassesOwn (model X.prog X.w) X.A X.env X.xe)(hc:X.calm=true)(hi:XI X tg it wi)(hg:XG X tg g)(hb:XB X body tb)
  (hs:∀x,foldedSetIterable it X.env x=pure x:=by intro _;rfl):XS X (.For tg it body [] pos) (tFor wi g tb):=⟨tW hp hc hi.h hg.h hb.h hs⟩
def cx {body:List Stmt}{tb:TS}(hp:PassesOwn (model X.prog X.w) X.A X.env X.xe)(hc:XT X c tA)(hb:XB X body tb):XS X (.While c body [] pos) (tWhile tA tb):=⟨oQ hp hc.h hb.h⟩
def xir1 {tg:Expr}(hg:Gl X "range")(hm:X.mg "range"=none)(ha:XA X [a] t)(h:cw a=false:=by rfl):XI X tg (.Call (.Name "range" p) [a] [] pos) (iRng1 t):=⟨mr hg hm ha.h (bb h)⟩
def xil {tg l:Expr}{tl:TE}(h:XE X l tl):XI X tg l (iList X.K tl):=⟨ri h.h⟩
def xis {l:Expr}{tl:TE}{px:Pos}(h:XE X l tl):XI X (.Name x px) l (iStr tl):=⟨um h.h⟩
def az {op:CmpOp}{r:R2}(ho:OpR X (compareOp op) r)(ha:XE X a ta)(hb:XE X b tb)(hm:behindInMarks op b=false):XT X (.Compare a [op] [b] pos) (tTest (tOp r ta tb)):=⟨rm ho ha.h hb.h hm⟩
def cQ (h:XT X a tA):XT X (.UnaryOp .Not a pos) (tNot tA):=⟨tK h.h⟩
def aZ (h:XE X e te)(he:∀whole,isTrue e X.env whole=(do let v ← whole;standAt e.pos;holding [v] (truthy v)):=by intro _;rfl):XT X e (tB te):=⟨tH h.h he⟩
def jR (h:XT X a tA):XW X (.BoolOp .And [a] pos) tA:=⟨q8 h.h⟩
def xor1 (h:XT X a tA):XW X (.BoolOp .Or [a] pos) tA:=⟨tI h.h⟩
def xand {rest:List Expr}(h:XT X a tA)(h2:XW X (.BoolOp .And (b::rest) pos) tB'):XW X (.BoolOp .And (a::b::rest) pos) (tAnd tA tB'):=⟨tJ h.h h2.h⟩
def xor {rest:List Expr}(h:XT X a tA)(h2:XW X (.BoolOp .Or (b::rest) pos) tB'):XW X (.BoolOp .Or (a::b::rest) pos) (tOr tA tB'):=⟨uV h.h h2.h⟩
def XW.xt (h:XW X e tA):XT X e tA:=⟨h.h.pt⟩
def xnon {j:Nat}:XE X (.Constant .none j pos) (tC .non):=⟨tF⟩
def xbl {k:Bool}{j:Nat}:XE X (.Constant (.bool k) j pos) (tC (.bl k)):=⟨uU⟩
def xint {i:Int}{j:Nat}:XE X (.Constant (.int i) j pos) (tC (.int i)):=⟨qo⟩
def xstr {y:Str}{j:Nat}:XE X (.Constant (.str y) j pos) (tC (.str y)):=⟨tG⟩
def xv (i:Nat)(hN:X.N[i]? = some x:=by rfl) (hv:Vis X.env.scope x:=by first |exact Or.inl rfl |exact Or.inr (Or.inl rfl) |exact Or.inr (Or.inr rfl)) (hd:(x==("__debug__":Str))=false:=by decide)
  (hcd:(x==("__classdict__":Str))=false:=by decide):XE X (.Name x pos) (tVar i):=⟨pv i hN hv hd hcd⟩
def xgS {y:Str}(h:∃t,X.mg x=some (.str y t))(hg:Gl X x:=by exact rfl) (hd:(x==("__debug__":Str))=false:=by decide):XE X (.Name x pos) (tC (.str y)):=⟨o9 h hg hd⟩
def xgI {y:Int}(h:∃t,X.mg x=some (.int y t))(hg:Gl X x:=by exact rfl) (hd:(x==("__debug__":Str))=false:=by decide):XE X (.Name x pos) (tC (.int y)):=⟨pb h hg hd⟩
def xty {T:String}(hm:X.mg x=none)(hv:bootBuiltins x=some (.type T))(hg:Gl X x:=by exact rfl) (hn:x≠"__name__":=by decide) (hd:(x==("__debug__":Str))=false:=by decide):XE X (.Name x pos) (tC (.ty T)):=⟨q0 hg hm hv rfl hn hd⟩
def xop {op:Operator}{r:R2}(ho:OpR X (binaryOp op) r)(ha:XE X a ta)(hb:XE X b tb):XE X (.BinOp a op b pos) (tOp r ta tb):=⟨uY ho ha.h hb.h⟩
def xun {op:UnaryOp}{r:V->Hp->VK->Prop}(ho:UnR X (unaryOp op) r)(ha:XE X a ta):XE X (.UnaryOp op a pos) (tUn r ta):=⟨tX ho ha.h⟩
def xcmp {op:CmpOp}{r:R2}(ho:OpR X (compareOp op) r)(ha:XE X a ta)(hb:XE X b tb)(hm:behindInMarks op b=false):XE X (.Compare a [op] [b] pos) (tOp r ta tb):=⟨rl ho ha.h hb.h hm⟩
def xone {op}(h:XE X a ta):XE X (.BoolOp op [a] pos) ta:=⟨tL h.h⟩
def pd {rest:List Expr}(h:XE X a ta)(h2:XE X (.BoolOp .And (b::rest) pos) tb):XE X (.BoolOp .And (a::b::rest) pos) (tAndV ta tb):=⟨tM h.h h2.h⟩
def xorV {rest:List Expr}(h:XE X a ta)(h2:XE X (.BoolOp .Or (b::rest) pos) tb):XE X (.BoolOp .Or (a::b::rest) pos) (tOrV ta tb):=⟨uW h.h h2.h⟩
def xifE (h:XT X c tA)(ha:XE X a ta)(hb:XE X b tb):XE X (.IfExp c a b pos) (tIf tA ta tb):=⟨oK h.h ha.h hb.h⟩
def xo0:XO X none jO:=⟨rC⟩
def xo1 (h:XE X e te):XO X (some e) (tPart te):=⟨rD h.h⟩
def xsl {r:V->Option Int->Option Int->Hp->VK->Prop}{lo hi:Option Expr}{tl th:TO}(hr:SlR X r)(he:XE X e te)(hl:XO X lo tl)(hu:XO X hi th):XE X (.Subscript e (.Slice lo hi none p2) pos) (tSl r te tl th):=⟨oX hr he.h hl.h hu.h⟩
def xix {r:R2}(hr:IxR X r)(ha:XE X a ta)(hb:XE X b tb)(hs:mF b):XE X (.Subscript a b pos) (tOp r ta tb):=⟨u5 hr ha.h hb.h hs⟩
def xa0:XA X [] tNil:=⟨ua⟩
def xac (ha:XE X e te)(hr:XA X es t)(h:cw e=false:=by rfl):XA X (e::es) (tCons te t):=⟨pa ha.h hr.h h⟩
def xlst (h:XA X es t):XE X (.List es pos) (tLst t):=⟨uc h.h⟩
def xtup {k}(h:XA X es t):XE X (.Tuple es k pos) (tTup t):=⟨ub h.h⟩
def xcD {k:Nat}{ps:List Str}{sp:Sp}(D:Def X.prog X.w X.K X.mg X.base k x ps sp)(hr:Room k X.A)(ha:XA X (e::es) t)(hg:Gl X x:=by exact rfl) (hdb:(x==("__debug__":Str))=false:=by decide) (hst:aA (e::es)=true:=by rfl):
  XE X (.Call (.Name x p) (e::es) [] pos) (tCall sp [] E0 t):=⟨cD D hr ha.h hg hdb hst⟩
def xcd {j k:Nat}{ps:List Str}{sp:Sp}(D:Def X.prog X.w X.K X.mg X.base k x ps sp)(hr:Room j X.A)(ha:XA X (e::es) t)(hg:Gl X x:=by exact rfl) (hdb:(x==("__debug__":Str))=false:=by decide) (hst:aA (e::es)=true:=by rfl) (hk:k<=j:=by omega):
  XE X (.Call (.Name x p) (e::es) [] pos) (tCall sp [] E0 t):=xcD D (hr.mono hk) ha hg hdb hst
def xcB {id:String}{r:List V->Hp->VK->Prop}(hc:cV X (.builtin id) r)(hm:X.mg x=none)(hv:bootBuiltins x=some (.builtin id))(ha:XA X (e::es) t)(hg:Gl X x:=by exact rfl) (hn:x≠"__name__":=by decide) (hdb:(x==("__debug__":Str))=false:=by decide)
  (hst:aA (e::es)=true:=by rfl):XE X (.Call (.Name x p) (e::es) [] pos) (tCB r t):=⟨cB hc hg hm hv ha.h hn hdb hst⟩
def xcTy {T:String}{r:List V->Hp->VK->Prop}(hc:cV X (.type T) r)(hm:X.mg x=none)(hv:bootBuiltins x=some (.type T))(ha:XA X (e::es) t)(hg:Gl X x:=by exact rfl) (hn:x≠"__name__":=by decide) (hdb:(x==("__debug__":Str))=false:=by decide)
  (hst:aA (e::es)=true:=by rfl):XE X (.Call (.Name x p) (e::es) [] pos) (tCB r t):=by
 have h1:cw e=false:=by
  have:=hst;unfold aA at this;rw[Bool.and_eq_true,Bool.not_eq_true'] at this;exact this.1
 have h2:aA es=true:=by
  have:=hst;unfold aA at this;rw[Bool.and_eq_true] at this;exact this.2
 exact⟨mE hc hg hm hv ha.h hn hdb (bb h1) (b6 h2)⟩
def xm {name:Str}{T id:String}{r:V->List V->Hp->VK->Prop}(pa:PlainAttrs T)(slot:Slot T name id)(hty:typeOf (.builtin id)=pure (.type "method_descriptor"))(hm:MtR X id r)(ho:XE X o to)(ha:XA X (e::es) t)
  (hb:bC o=true:=by rfl) (hst:aA (e::es)=true:=by rfl) (hl:decide ((e::es).length+([]:List Keyword).length+(if ([]:List Keyword).isEmpty then 0 else 1) < 30)=true:=by rfl)
  (v8:(w4.endLine==y9.line)=true:=by rfl):XE X (.Call (.Attribute o name w4) (e::es) [] y9) (tBM X.K T r to t):=⟨pm pa slot hty hm ho.h ha.h (base_of hb) hst hl v8⟩
def xmA (ho:XE X o to)(ha:XA X (e::es) t)(hb:bC o=true:=by rfl) (hst:aA (e::es)=true:=by rfl) (hl:decide ((e::es).length+([]:List Keyword).length+(if ([]:List Keyword).isEmpty then 0 else 1) < 30)=true:=by rfl) (v8:(w4.endLine==y9.line)=true:=by rfl):XE X (.Call (.Attribute o "append" w4) (e::es) [] y9) (tBM X.K "list" rAppend to t):=xm PySem.F.plainAttrs_list PySem.F.slot_list_append PySem.F.type_list_append iY ho ha hb hst hl v8
def xm0 {name:Str}{T id:String}{r:V->List V->Hp->VK->Prop}(pa:PlainAttrs T)(slot:Slot T name id)(hty:typeOf (.builtin id)=pure (.type "method_descriptor"))(hm:MtR X id r)(ho:XE X o to)
  (hb:bC o=true:=by rfl) (v8:(w4.endLine==y9.line)=true:=by rfl):XE X (.Call (.Attribute o name w4) [] [] y9) (tBM0 X.K T r to):=⟨ul pa slot hty hm ho.h (base_of hb) v8⟩
def u8 {y z:Str}{jy jz:Nat}{py pz:Pos}(ho:XE X o to)(hyz:(y==z)=false)(hzl:z.length<=14)(hb:bC o=true:=by rfl) (v8:(w4.endLine==y9.line)=true:=by rfl):
  XE X (.Call (.Attribute o "replace" w4) [.Constant (.str y) jy py, .Constant (.str z) jz pz] [] y9) (λσ H Q=>to σ H λx H1=>∃w,x = .str w/\w.length<=1000000/\Q (.str (Txt.replace w y z)) H1):=⟨lJ ho.h hyz hzl (base_of hb) v8⟩
def xq0:XQ X [] tYes:=⟨rH⟩
def xq1 (h:XT X c tA):XQ X [c] tA:=⟨rJ h.h⟩
section
variable {scope:Scope}{cl:List (Str×Addr)}{own:List Str}{fr:List Nat}{N':List Str}{tg iter elt:Expr}{ifs:List Expr}{wi:TI}{g:TG}{tt:TT}
def xlc (hc:X.calm=true)(Z:CompN X scope cl own fr N')(w5:∀y∈scope.names,y.2 ≠ .cell)(v9:∀x∈scope.names,x.2 = .local->scope.names.lookup x.1=some .local)(j9:closureFor scope X.env=pure cl)
  (hi:XI X tg iter wi)(hg:∀C fp s H,XG (aL X scope cl C N' fp s H) tg g)(ht:∀C fp s H,XQ (aL X scope cl C N' fp s H) ifs tt)(he:∀C fp s H,XE (aL X scope cl C N' fp s H) elt te)
  (hs:∀x,foldedSetIterable iter X.env x=pure x:=by intro _;rfl):XE X (.ListComp elt [⟨tg,iter,ifs,0⟩] scope pos) (tLC wi own.length fr g tt te):=
 ⟨u7 hc Z w5 v9 j9 hi.h (λC fp s H=>(hg C fp s H).h) (λC fp s H=>(ht C fp s H).h) (λC fp s H=>(he C fp s H).h) hs⟩
def xslc {i:Nat}{pos' spos:Pos}(hN:X.N.Nodup)(hix:X.N[i]? = some x)(hx:X.env.scope.names.lookup x=some .local)(hc:X.calm=true)(Z:CompN X scope cl own fr N')(w5:∀y∈scope.names,y.2 ≠ .cell)
  (v9:∀x∈scope.names,x.2 = .local->scope.names.lookup x.1=some .local)(j9:closureFor scope X.env=pure cl)
  (hi:XI X tg iter wi)(hg:∀C fp s H,XG (aL X scope cl C N' fp s H) tg g)(ht:∀C fp s H,XQ (aL X scope cl C N' fp s H) ifs tt)(he:∀C fp s H,XE (aL X scope cl C N' fp s H) elt te)
  (hs:∀x,foldedSetIterable iter X.env x=pure x:=by intro _;rfl) (hsw:swapsWith (.ListComp elt [⟨tg,iter,ifs,0⟩] scope pos) (some (.Name x pos')) spos.line X.env=pure true:=by rfl):
  XS X (.Assign [.Name x pos'] (.ListComp elt [⟨tg,iter,ifs,0⟩] scope pos) spos) (mI i wi own.length fr g tt te):=
 ⟨o2 hN hix hx hc Z w5 v9 j9 hi.h (λC fp s H=>(hg C fp s H).h) (λC fp s H=>(ht C fp s H).h) (λC fp s H=>(he C fp s H).h) hs hsw⟩
def xlc0 (hi:XI X tg iter wi)(hg:∀C fp s H,XG (aL X scope [] C own fp s H) tg g)(ht:∀C fp s H,XQ (aL X scope [] C own fp s H) ifs tt)(he:∀C fp s H,XE (aL X scope [] C own fp s H) elt te)(hs:∀x,foldedSetIterable iter X.env x=pure x:=by intro _;rfl) (hc:X.calm=true:=by rfl) (Z:CompN X scope [] own [] own:=by exact lK (xs:=[]) trivial trivial ∅) (w5:∀y∈scope.names,y.2 ≠ .cell:=by decide) (v9:∀x∈scope.names,x.2 = .local->scope.names.lookup x.1=some .local:=by decide) (j9:closureFor scope X.env=pure []:=by with_unfolding_all rfl):XE X (.ListComp elt [⟨tg,iter,ifs,0⟩] scope pos) (tLC wi own.length [] g tt te):=xlc hc Z w5 v9 j9 hi hg ht he hs
def pe {i:Nat}{pos' spos:Pos}(hN:X.N.Nodup)(hi:XI X tg iter wi)(hg:∀C fp s H,XG (aL X scope [] C own fp s H) tg g)(ht:∀C fp s H,XQ (aL X scope [] C own fp s H) ifs tt)(he:∀C fp s H,XE (aL X scope [] C own fp s H) elt te)(hs:∀x,foldedSetIterable iter X.env x=pure x:=by intro _;rfl) (hc:X.calm=true:=by rfl) (Z:CompN X scope [] own [] own:=by exact lK (xs:=[]) trivial trivial ∅) (w5:∀y∈scope.names,y.2 ≠ .cell:=by decide) (v9:∀x∈scope.names,x.2 = .local->scope.names.lookup x.1=some .local:=by decide) (j9:closureFor scope X.env=pure []:=by with_unfolding_all rfl) (hix:X.N[i]? = some x:=by rfl) (hx:X.env.scope.names.lookup x=some .local:=by rfl) (hsw:swapsWith (.ListComp elt [⟨tg,iter,ifs,0⟩] scope pos) (some (.Name x pos')) spos.line X.env=pure true:=by rfl):XS X (.Assign [.Name x pos'] (.ListComp elt [⟨tg,iter,ifs,0⟩] scope pos) spos) (mI i wi own.length [] g tt te):=xslc hN hix hx hc Z w5 v9 j9 hi hg ht he hs hsw
end
end
section
variable {X:Cx}{w9:List (Addr×Obj)}{σ:St}{H:Hp}{s:Shared}{h':Heap}
def Inv.turned2 {t':Nat}{e it T:Addr}{o:HO}(I:Inv X w9 σ H s)(k:∀b ob,b≠e->b≠it->s.heap.get? b=some ob->h'.get? b=some ob)(fe:FpOk X w9 H e)(fi:FpOk X w9 H it)(hT:s.heap.objs.size<=T)
  (new:ObjOk X.prog X.w (upd H T o) h' T o)(ht:0 < t'):Inv X w9 σ (upd H T o) { s with heap:=h',toks:=t' }:=by
 have hn:H T=none:=I.hok.fresh hT;have ne1:∀b u,H b=some u->b≠e:=λb u q z=>by rw[z,fe.1] at q;cases q
 have ne2:∀b u,H b=some u->b≠it:=λb u q z=>by rw[z,fi.1] at q;cases q
 have kk:∀b ob,b∉[e,it]->s.heap.get? b=some ob->h'.get? b=some ob:=λb ob hb q=>k b ob (λz=>hb (by simp[z])) (λz=>hb (by simp[z])) q;refine I.step (g':=s.gens) (d':=s.drawn) (ch:=[e,it]) (λb hb=>?_) (λb ob _ _ hc q _=>kk b ob hc q) (λb ob _ _ hc q _=>⟨ob.slots,kk b ob hc q⟩) (λb ob _ q n=>?_)
  (λb ob hc q=>⟨ob,kk b ob hc q⟩) (λb xs q=>?_) (λb ob u q=>?_) (λb ps q=>⟨#[],?_⟩) (λm hm=>?_) (λb u q=>?_) I.bare
 ·rcases l6.mp hb with rfl |hb
  ·exact⟨fe.2.2.2.1,fe.2.1,fe.2.2.2.2.1,fe.2.2.2.2.2⟩
  ·have z:b=it:=by simpa using hb
   subst z;exact⟨fi.2.2.2.1,fi.2.1,fi.2.2.2.2.1,fi.2.2.2.2.2⟩
 ·rw[af (l30 (l28 (Heap.lt_size q) hT))];exact n
 ·rw[af (aN q hn)];exact q
 ·rw[af (aN q hn)];exact q
 ·rw[af (aN q hn),q];simp
 ·obtain⟨ob,es,ep,ho,r⟩:=hm;exact⟨ob,es,ep,k _ ob (Ne.symm fe.2.1) (Ne.symm fi.2.1) ho,r⟩
 ·by_cases hb:b=T
  ·subst hb;rw[aa] at q;cases q;exact new
  ·rw[af hb] at q;refine(I.hok b u q).stay (λc v hc q2=>?_) (λc q2=>by rw[af (aN q2 hn)];exact q2) λc xs q2=>by rw[af (aN q2 hn)];exact q2
   rcases hc with z |z
   ·subst z;exact k _ v (ne1 _ u q) (ne2 _ u q) q2
   ·exact k c v (ne1 c _ z) (ne2 c _ z) q2
def Ite (K:Frag)(a:Addr):It:=
 ⟨λi H=>∃xs x,SqL K H a xs/\xs[i]? = some x,λi H x H'=>∃T y,(∀xs,SqL K H a xs->xs[i]? = some y)/\H T=none/\x = .ref T/\H'=upd H T (.tup [.int i,y]),λi H=>∃xs,SqL K H a xs/\xs.length<=i⟩
def mO {P:Program}{w:World}{K:Frag}{elts:List Expr}{k:Nat}{pos:Pos}(a e it:Addr)(hne:e≠it):
  Turn P w K (.Tuple elts k pos) (Ite K a) [e,it] e (λi h=>(∃old,IsEnum h e it i old)/\h.IsListIter it a i) where
 mem:=by simp
 obj:=λi h st b hb=>by
  obtain⟨⟨old,h1⟩,o,h2,h3,h4⟩:=st;rcases l6.mp hb with rfl |hb
  ·exact⟨_,h1,λv z=>by cases z⟩
  ·have z:b=it:=by simpa using hb
   subst z;exact⟨o,h2,λv z=>by rw[h4] at z;cases z⟩
 keep:=λi h h' st kk=>by
  obtain⟨⟨old,h1⟩,o,h2,h3⟩:=st;exact⟨⟨old,kk e (by simp) _ h1⟩,o,kk it (by simp) o h2,h3⟩
 item:=by
  intro X hP hw hK hc i w9 s σ H E I hf st hg;subst hP hw hK;obtain⟨xs,x,hq,hx⟩:=hg;obtain⟨its,rv,p,hz⟩:=I.list hq;obtain⟨u,hu,ru⟩:=rv.get hx;obtain⟨⟨old,h1⟩,h2⟩:=st;have fe:=hf e (by simp);have fi:=hf it (by simp);have hL:=p.isList;have hae:a≠e:=λz=>by
   obtain⟨o,q1,q2,_⟩:=hL;rw[z,h1] at q1;cases q1;exact absurd (Value.type.inj q2) ∅
  have hai:a≠it:=λz=>by
   obtain⟨o,q1,q2,_⟩:=hL;obtain⟨o',q3,q4,_⟩:=h2;rw[z,q3] at q1;cases q1;rw[q4] at q2;exact absurd (Value.type.inj q2) ∅
  refine wpAny_pyNext_enum_item h1 h2 hL (x:=u) (by simpa using hu) hne λh' g1 g2 g3 g4 g5=>⟨_,rfl,?_⟩;have hle:e < s.heap.objs.size:=Heap.lt_size h1;obtain⟨oi,hoi,_⟩:=id h2;have hli:it < s.heap.objs.size:=Heap.lt_size hoi;have hTe:s.heap.objs.size≠e:=l66 hle;have hTi:s.heap.objs.size≠it:=l66 hli;have hL':h'.IsList a its.toArray:=by
   obtain⟨o,q1,q2,q3⟩:=hL;exact⟨o,g5 a o hae hai q1,q2,q3⟩
  refine(WalksT.enumerate (I.ok.hd hc) e it a hne hae hai its.toArray).go elts k pos i s.heap.objs.size _ _ _ ⟨⟨_,g1⟩,g2,hL',hTe,hTi⟩ λh2 st2 kp=>?_;have hT:h2.get? s.heap.objs.size=some { cls := .type "tuple",data := .seq #[.int i s.toks,u] }:=kp _ _ (by simp[hTe,hTi]) g3;refine⟨.ref s.heap.objs.size,upd H s.heap.objs.size (.tup [.int i,x]),?_,rfl,⟨s.heap.objs.size,x,λys hy=>by rw[I.list_inj hy hq];exact hx,I.hok.fresh (l5 _),rfl,rfl⟩,⟨?_,?_⟩,?_⟩
  ·refine I.turned2 (t':=s.toks+1) (λb ob n1 n2 q=>kp b ob (by simp[n1,n2]) (g5 b ob n1 n2 q)) fe fi (l5 _) ?_ (l33 _);refine⟨by show 2<=sizeLine;rw[sizeLine_eq];decide,[.int i s.toks,u], .cons ⟨_,rfl⟩ (.cons ru .nil),?_⟩;exact⟨_,hT,rfl,0,rfl⟩
  ·obtain⟨old2,q⟩:=st2.1;exact⟨old2,by simpa using q⟩
  ·exact st2.2.1
  ·intro b hb;rcases l6.mp hb with rfl |hb
   ·rw[af (Ne.symm hTe)];exact fe.1
   ·have z:b=it:=by simpa using hb
    subst z;rw[af (Ne.symm hTi)];exact fi.1
 done:=by
  intro X hP hw hK hc i w9 s σ H E I hf st hg;subst hP hw hK;obtain⟨xs,hq,hx⟩:=hg;obtain⟨its,rv,p,hz⟩:=I.list hq;obtain⟨⟨old,h1⟩,h2⟩:=st;obtain⟨f0,f1,f2,f3,f4,f5⟩:=hf it (by simp);have hl:=rv.length;exact wpAny_pyNext_enum_end (I.ok.hd hc) h1 h2 p.isList (by simp;omega) λh' eb=>⟨rfl,I.turned (t':=s.toks) (λb o hb e=>eb b o hb e) f0 f1 f3 f4 f5⟩
 self:=λ_ _ _ _ _ st h=>by
  obtain⟨⟨old,h1⟩,_⟩:=st;exact wpAny_pyIter_enum h1 h
inductive iEnum.I (K:Frag)(R:(It->Hp->Prop))(vs:List V)(H1:Hp):Prop
 |mk (a xs)(_:vs=[.ref a])(_:H1 a=some (.lst xs))(_:R (Ite K a) H1)
def iEnum (K:Frag)(ta:TA):TI:=λσ H R=>ta σ H (iEnum.I K R)
def rL {l:Expr}{ta:TA}{p pos:Pos}{elts:List Expr}{k:Nat}{pos':Pos}(hg:Gl X "enumerate")(hm:X.mg "enumerate"=none)(ha:PA X [l] ta)(hs:starEach [l] X.env=[(false,eval l X.env)]:=by rfl):
  PI X (.Tuple elts k pos') (.Call (.Name "enumerate" p) [l] [] pos) (iEnum X.K ta):=by
 intro w9 s σ H R I h;refine Call_ (iP I hg hm boot_enumerate (callWith_type1 (thn (ha pos w9 s σ H _ I h) λus s1 ⟨vs,H1,I1,r1,q1⟩=>?_) hs rfl));obtain⟨a,xs,e,hq,q⟩:=q1;subst e;obtain⟨u,rfl,ru⟩:=r1.one;cases ru;obtain⟨z,its,n,r,hl,e⟩:=I1.lstM hq;refine call_enumerate_1 e λh' g1 g2 g3 g4=>?_;have hne:s1.heap.objs.size+1≠s1.heap.objs.size:=by omega
 refine wpAny_pyIter_enum g1 ?_;refine⟨s1.heap.objs.size+1,[s1.heap.objs.size+1,s1.heap.objs.size],_,_,H1,rfl,I1.kept (t':=s1.toks) g4,mO a _ _ hne,⟨⟨_,g1⟩,g2⟩,λb hb=>?_,q⟩;have hb':s1.heap.objs.size<=b:=by
  rcases l6.mp hb with rfl |hb
  ·omega
  ·have z:b=s1.heap.objs.size:=by simpa using hb
   exact Nat.le_of_eq z.symm
 exact I1.fpOk hb' (I1.hok.fresh hb')
end
section
variable {X:Cx}{e l:Expr}{te:TE}{t:TA}{pos p p1 p2 p3:Pos}
def xie {elts:List Expr}{k:Nat}{pos':Pos}(hm:X.mg "enumerate"=none)(ha:XA X [l] t)(hg:Gl X "enumerate":=by exact rfl) (h:cw l=false:=by rfl):XI X (.Tuple elts k pos') (.Call (.Name "enumerate" p) [l] [] pos) (iEnum X.K t):=⟨rL hg hm ha.h (bb h)⟩
section
variable {scope:Scope}{cl:List (Str×Addr)}{C:Addr}{N':List Str}{fp:List Addr}{s:Shared}{H:Hp}
def b9:IxR (aL X scope cl C N' fp s H) (rIxT X.K):=aw (X:=aL X scope cl C N' fp s H)
end
end
section
variable {X:Cx}{w9:List (Addr×Obj)}{σ:St}{H:Hp}{s:Shared}{h':Heap}
theorem eI:∀{ns:List Int} {us:List Value} {i:Nat} {v:Value},Vals (ns.map V.int) us->us[i]? = some v->∃t,v = .int (ns.getD i 0) t
 | [],_,i,v, .nil,e=>by simp at e
 |n::ns,_,0,v, .cons r t,e=>by
  obtain⟨tk,rfl⟩:=r;cases e;exact⟨tk,rfl⟩
 |n::ns,_,i+1,v, .cons r t,e=>eI (ns:=ns) (i:=i) t (by simpa using e)
def pf {ns:List Int}{i:Nat}(h:i < ns.length):ns.getD i 0∈ns:=by
 rw[l22,List.getElem?_eq_getElem h];exact l34 h
def ph {ns:List Int}{x:Int}(h:x∈ns):∃i,i < ns.length/\ns.getD i 0=x:=by
 obtain⟨i,hi,e⟩:=List.getElem_of_mem h;exact⟨i,hi,by rw[l22,List.getElem?_eq_getElem hi,e];rfl⟩
inductive R_call_maxL (K:Frag)(xs:List V)(H:Hp)(Q:VK):Prop
 |mk (a:Addr)(ns:List Int)(_:xs=[.ref a])(_:SqL K H a (ns.map V.int))(_:0 < ns.length)(_:∀m,m∈ns->(∀x∈ns,x<=m)->Q (.int m) H)
def mP (hc:X.calm=true):cV X (.builtin "max") (R_call_maxL X.K):=by
 intro w9 s σ H xs us Q I r h;obtain⟨a,ns,rfl,hq,hpos,q⟩:=h;obtain⟨u,rfl,rx⟩:=lD r;cases rx;obtain⟨its,r',pl,hz⟩:=I.list hq;have w6:its.toArray.size=ns.length:=by
  have:=r'.length;rw[l0] at this;rw[l24,this]
 have lt:a < s.heap.objs.size:=by
  obtain⟨o,n,e,_⟩:=pl;exact Heap.lt_size e
 refine wpAny_with_toks (n:=1) I.tk (call_max_walk ?_);refine wpAny_pyIter_list pl.isList ?_;have hP:∀(i:Nat) (v:Value),its.toArray[i]? = some v->∃t,v=Value.int (ns.getD i 0) t:=λi v hP=>eI r' (by simpa using hP);refine⟨s.heap.objs.size,_,_,_,_,_,_,rfl,Walks.list (A:=X.A.in1) (I.ok.hd hc) s.heap.objs.size a (l30 lt) its.toArray,⟨⟨_,Heap.get?_push_size _ rfl,rfl,rfl⟩,?_⟩,?_,by omega,CmpOf.ints_gt (λi=>ns.getD i 0) hP,λv h' tk hv kp htk=>?_⟩
 ·obtain⟨o,n,e,c,_,d⟩:=pl;exact⟨o,Heap.get?_push_of_some _ e,c,n,d⟩
 ·intro b hb;rw[show (s.heap.push { cls:=Value.type "list_iterator",data:=Data.fields #[Value.ref a,Value.int 0 0] }).objs.size=s.heap.objs.size+1 from by simp[Heap.push]];rcases l6.mp hb with rfl |hb
  ·exact l67 _
  ·have:b=a:=by simpa using hb
   subst this;exact Nat.lt_succ_of_lt lt
 ·obtain⟨t,rfl⟩:=hP _ _ hv;have hb:=argBest_gt (λi=>ns.getD i 0) (its.toArray.size - 1);rw[w6] at hb ⊢;refine⟨.int _,H,I.kept (λb o e=>kp b o ?_ (Heap.get?_push_of_some _ e)) htk,⟨_,rfl⟩,q _ (pf nofun) λx hx=>?_⟩
  ·simp only[l14];exact l30 (Heap.lt_size e)
  ·obtain⟨i,hi,rfl⟩:=ph hx;exact hb.2 i nofun
def eV {α:Type}(l:List α):∀(n a:Nat),a+n<=l.length->((List.range n).filterMap λk=>l[a+k]?)=(l.drop a).take n:=by
 intro n
 induction n with
 |zero=>intro a _;simp
 |succ n ih=>
  intro a h;rw[l77,List.filterMap_append,ih a nofun,List.take_add_one];have:a+n < l.length:=by omega
  simp[List.getElem?_drop,this]
theorem kT {α β:Type}{f g:α->Option β}:∀{l:List α},(∀x∈l,f x=g x)->l.filterMap f=l.filterMap g
 | [],_=>rfl
 |x::l,h=>by
  rw[l65,l65,h x (l10 ..),kT λy hy=>h y (l7 _ hy)]
def pi {α:Type}(xs:List α):(sliceRange (sliceBounds none none (some (-1)) xs.length).fst (sliceBounds none none (some (-1)) xs.length).snd.fst (sliceBounds none none (some (-1)) xs.length).snd.snd).filterMap (xs[·]?)=xs.reverse:=by
 have hb:sliceBounds none none (some (-1)) xs.length=((xs.length:Int) - 1,-1,-1):=by
  unfold sliceBounds;simp only[Option.getD_some];rw[if_neg ∅,if_neg ∅]
 rw[hb];show (sliceRange ((xs.length:Int) - 1) (-1) (-1)).filterMap (xs[·]?)=xs.reverse;have hs:sliceRange ((xs.length:Int) - 1) (-1) (-1)=(List.range xs.length).map λk=>xs.length - 1 - k:=by
  unfold sliceRange;simp only[];rw[if_neg ∅,show (- -1:Int)=1 from rfl,Int.ediv_one];have hc:(if ((xs.length:Int) - 1) > -1 then (xs.length:Int) - 1 - -1 - -1 - 1 else 0).toNat=xs.length:=by split <;> omega
  rw[hc];refine l42 λk hk=>?_;have:=l38.mp hk;omega
 rw[hs,List.filterMap_map];have h2:(List.range xs.length).filterMap ((xs[·]?) ∘ λk=>xs.length - 1 - k)=(List.range xs.length).filterMap λk=>xs.reverse[k]? := by
  refine kT λk hk=>?_;have hk:=l38.mp hk;show xs[xs.length - 1 - k]? = xs.reverse[k]?;rw[List.getElem?_reverse hk]
 rw[h2];have h3:∀(zs:List α),(List.range zs.length).filterMap (λk=>zs[k]?)=zs:=by
  intro zs;have:=eV zs zs.length 0 nofun;simpa using this
 have:=h3 xs.reverse;rwa [l57] at this
inductive tRevX.I (K:Frag)(Q:VK)(x:V)(H1:Hp):Prop
 |mk (a xs)(_:x = .ref a)(_:SqL K H1 a xs)(_:∀p,H1 p=none->Q (.ref p) (upd H1 p (.lst xs.reverse)))
def tRevX (K:Frag)(te:TE):TE:=λσ H Q=>te σ H (tRevX.I K Q)
def rM {e:Expr}{te:TE}{j:Nat}{p1 p2 p3 pos:Pos}(he:PE X e te):PE X (.Subscript e (.Slice none none (some (.UnaryOp .USub (.Constant (.int 1) j p1) p3)) p2) pos) (tRevX X.K te):=by
 intro w9 s σ H Q I h;refine Subscript_ (thn (he w9 s σ H _ I h) λv s1 ⟨x,H1,I1,r1,q1⟩=>?_);obtain⟨a,xs,rfl,hx,q⟩:=q1;cases r1;refine wpAny_Slice ?_;rw[evalPart_none];refine wpAny_pure (wpAny_pure ?_);rw[evalPart_some];refine thn ((tX gw qo (pos:=p3)) w9 s1 σ H1 (λy H'=>y = .int (-1)/\H'=H1) I1 ⟨1,rfl,rfl,rfl⟩) λst s2 ⟨y,H2,I2,r2,e1,e2⟩=>?_;subst e1 e2;obtain⟨t,rfl⟩:=r2;have I4:Inv X w9 σ H2 { s2 with heap:=s2.heap.push { cls := .type "slice",data := .fields #[.none, .none, .int (-1) t] } }:=I2.kept (t':=s2.toks) λb ob q=>Heap.get?_push_of_some _ q;obtain⟨its,r,ht,hz⟩:=I4.list hx;have w6:=r.length;show wpAny (model X.prog X.w) X.A (subscriptTail e (.Slice none none (some (.UnaryOp .USub (.Constant (.int 1) j p1) p3)) p2) (.ref a) (.ref s2.heap.objs.size)) (EP X w9 σ Q) X.xe { s2 with heap:=s2.heap.push { cls := .type "slice",data := .fields #[.none, .none, .int (-1) t] } };refine tail_any (ops:=[.ref a, .ref s2.heap.objs.size]) ht.isList.typeIs slot_list_getitem.lookup ?_ (by with_unfolding_all rfl);refine wpAny_getItem_list_slice ht.isList (Heap.IsSliceOf.new ..) .none .none (.int (-1) t) ∅ ?_ (by rw[l24] <;> omega)
 have hsz:its.toArray.size=xs.length:=by rw[l24];omega
 have e:slicePick its.toArray none none (some (-1))=its.reverse.toArray:=by
  unfold slicePick;rw[l24,<- pi its];simp
 rw[e];refine⟨.ref _,_,I4.laid (t':=s2.toks) (o := .lst xs.reverse) (λb ob q=>Heap.get?_push_of_some _ q) (l5 _) ?_,rfl,q _ (I4.hok.fresh (l5 _))⟩;exact⟨by rw[l57];exact hz,_,0,r.reverse,Heap.get?_push_size _ rfl⟩
def u9 {e:Expr}{te:TE}{pos p1 p2 p3:Pos}{j:Nat}(he:XE X e te):XE X (.Subscript e (.Slice none none (some (.UnaryOp .USub (.Constant (.int 1) j p1) p3)) p2) pos) (tRevX X.K te):=⟨rM he.h⟩
end
structure OwnX (K:Frag)(C:Addr):Prop where
 ex:∃(bmB:List Value) (newId initId B:String),excIn K C bmB newId=true/\ExcBaseFacts B newId initId bmB
open PySem PySem.Spec PySem.Calls PyProof.Rows PySem.W PySem.Builtin PySem.Builtin.Str PySem.Builtin.ObjectAttr PySem.Builtin.Getset_descriptor
section
variable {X:Cx}{x:Str}{pos p:Pos}
inductive R_op_mulS (x y:V)(H:Hp)(Q:VK):Prop
 |mk (z n)(_:x = .str z)(_:y = .int n)(_:z.length<=1000)(_:0<=n)(_:n<=1000)(_:Q (.str (Txt.mul z n)) H)
def rN:OpR X (binaryOp .Mult) R_op_mulS:=by
 intro w9 s σ H x y v u Q I rx ry h;obtain⟨z,n,rfl,rfl,hz,h0,h1,q⟩:=h;obtain⟨t,rfl⟩:=rx;obtain⟨t',rfl⟩:=ry;refine wpAny_with_toks (n:=1) I.tk (SB.mul ?_ λt' k htk=>⟨.str (Txt.mul z n),H,I.tok _ htk,⟨_,rfl⟩,q⟩);have hs:=sizeLine_eq;have hm:(z.length:Int) * n<=1000 * 1000:=Int.mul_le_mul nofun h1 h0 nofun;have hm2:z.length * n.toNat<=1000 * 1000:=Nat.mul_le_mul hz nofun;refine⟨?_,λ_ _=>?_,λ_ _=>?_⟩
 ·have e1:decide (n < -(2 ^ 63:Int))=false:=decide_eq_false nofun;have e2:decide (n ≥ 2 ^ 63)=false:=decide_eq_false nofun;rw[e1,e2];rfl
 ·intro q;rename_i a _;have hp:0 < n:=by omega
  have h9:(z.length:Int)<=(2 ^ 63 - 1:Int) / n:=(Int.le_ediv_iff_mul_le hp).mpr nofun;omega
 ·unfold tooLong;exact decide_eq_false nofun
end
open PySem PySem.Spec PyProof.Rows
section
variable {X:Cx}{scope:Scope}{cl:List (Str×Addr)}{C:Addr}{N':List Str}{fp:List Addr}{s:Shared}{H:Hp}{o e:Expr}{es:List Expr}{to:TE}{t:TA}{w4 y9:Pos}
def xmC {name:Str}{T id:String}{r:V->List V->Hp->VK->Prop}(pa:PlainAttrs T)(slot:Slot T name id)(hty:typeOf (.builtin id)=pure (.type "method_descriptor"))(hm:MtR (aL X scope cl C N' fp s H) id r)
  (ho:XE (aL X scope cl C N' fp s H) o to)(ha:XA (aL X scope cl C N' fp s H) (e::es) t)(hb:bC o=true:=by rfl) (hst:aA (e::es)=true:=by rfl)
  (hl:decide ((e::es).length+([]:List Keyword).length+(if ([]:List Keyword).isEmpty then 0 else 1) < 30)=true:=by rfl) (v8:(w4.endLine==y9.line)=true:=by rfl):
  XE (aL X scope cl C N' fp s H) (.Call (.Attribute o name w4) (e::es) [] y9) (tBM X.K T r to t):=xm (X:=aL X scope cl C N' fp s H) pa slot hty hm ho ha hb hst hl v8
end
end L2
namespace Lm
def aD (c:Nat):List Nat->List (List Nat)
 | []=>[[]]
 |x::r=>if x=c then []::aD c r else
  match aD c r with
  |h::t=>(x::h)::t
  | []=>[[x]]
theorem mQ (c:Nat):∀l:List Nat,aD c l≠[]
 | []=>by simp[aD]
 |x::r=>by
  unfold aD;split
  ·simp
  ·split <;> simp
def aQ (c x:Nat)(r:List Nat)(h:x≠c):∃p t,aD c r=p::t/\aD c (x::r)=(x::p)::t:=by
 have e:aD c (x::r)=match aD c r with
   |h::t=>(x::h)::t
   | []=>[[x]]:=by
  rw[aD,if_neg h]
 cases q:aD c r with
 |nil=>exact absurd q (mQ c r)
 |cons p t=>exact⟨p,t,rfl,by rw[e,q]⟩
def bo (c:Nat)(r:List Nat):aD c (c::r)=[]::aD c r:=by rw[aD,if_pos rfl]
theorem fD (c:Nat):∀l:List Nat,c∉l->aD c l=[l]
 | [],_=>rfl
 |x::r,h=>by
  have hx:x≠c:=λe=>h (by simp[e]);have ih:=fD c r λz=>h (l7 _ z);obtain⟨p,t,e1,e2⟩:=aQ c x r hx;rw[ih] at e1;cases e1;exact e2
theorem gB (c:Nat):∀(a r:List Nat),c∉a->aD c (a++c::r)=a::aD c r
 | [],r,_=>by rw[l68,bo]
 |x::a,r,h=>by
  have hx:x≠c:=λe=>h (by simp[e]);have ih:=gB c a r λz=>h (l7 _ z);obtain⟨p,t,e1,e2⟩:=aQ c x (a++c::r) hx;rw[ih] at e1;cases e1;exact e2
theorem gC (c:Nat):∀(l:List Nat),(aD c l).length<=l.length+1
 | []=>by simp[aD]
 |x::r=>by
  have ih:=gC c r;by_cases hx:x=c
  ·subst hx;rw[bo];simp only[l4];omega
  ·obtain⟨q,t,e1,e2⟩:=aQ c x r hx;rw[e2];rw[e1] at ih;simp only[l4] at ih ⊢;omega
def aF (g:List Nat):List (List Nat)->List Nat
 | []=>[]
 | [p]=>p
 |p::q::r=>p++g++aF g (q::r)
def cE (g p:List Nat)(r:List (List Nat))(h:r≠[]):aF g (p::r)=p++g++aF g r:=by
 cases r with
 |nil=>exact absurd rfl h
 |cons q r=>rfl
theorem dX (c:Nat):∀ps:List (List Nat),ps≠[]->(∀p∈ps,c∉p)->aD c (aF [c] ps)=ps
 | [],h,_=>absurd rfl h
 | [p],_,hp=>fD c p (hp p (by simp))
 |p::q::r,_,hp=>by
  show aD c (p++[c]++aF [c] (q::r))=_;rw[l23,l83,gB c p _ (hp p (by simp)),dX c (q::r) (by simp) λz hz=>hp z (l7 _ hz)]
def aR (l:List Nat):List (List Nat):=(aD 32 l).filter (λw=>w≠[])
def cy (l:List Nat):List Nat:=aF [32] (aR l)
open PySem PySem.Builtin PySem.Builtin.Str PySem.StrLaws
abbrev S (l:List Nat):Str:=⟨l.toArray⟩
def aH (l:List Nat):(S l).length=l.length:=by simp[Str.length]
def bD (l:List Nat):(S l).cps.toList=l:=by simp
def S_of (x:Str):S x.cps.toList=x:=by cases x;simp
def df {a b:List Nat}(h:S a=S b):a=b:=by
 have:=congrArg (λx:Str=>x.cps.toList) h;simpa using this
def uo (a b:List Nat):S a++S b=S (a++b):=by
 show Str.append (S a) (S b)=_;simp[Str.append]
theorem qz (g:List Nat):∀ps:List Str,(Str.join (S g) ps).cps.toList=aF g (ps.map λp=>p.cps.toList)
 | []=>rfl
 | [p]=>rfl
 |p::q::r=>by
  show ((p++S g++Str.join (S g) (q::r)):Str).cps.toList=_;rw[Str.cps_append,Str.cps_append,Array.toList_append,Array.toList_append,qz g (q::r)];rfl
def jS (c:Nat)(l:List Nat):Txt.split (S l) (S [c])=(aD c l).map S:=by
 have h1:=join_split (S l) (S [c]);have h2:=split_free (S l) c;have h3:∀ps:List Str,ps=(ps.map λp=>p.cps.toList).map S:=λps=>by
  rw[l26]
  conv=>lhs;rw[<- l58 ps]
  refine l42 λp _=>?_;exact(S_of p).symm
 have h4:aF [c] ((Txt.split (S l) (S [c])).map λp=>p.cps.toList)=l:=by
  have:=congrArg (λx:Str=>x.cps.toList) h1;simp only[bD] at this;rw[<- qz];exact this
 have ne:(Txt.split (S l) (S [c])).map (λp=>p.cps.toList)≠[]:=by
  unfold Txt.split;split
  ·simp
  ·split
   ·simp
   ·rw[partsBetween_eq];obtain⟨p,r,e⟩:=partsFrom_ne (S l) (S [c]).length 0 (occurrences (S l) (S [c]) 0 (S l).length ((S l).length+1));rw[e];simp
 have h5 := dX c _ ne (λp hp=>by
  obtain⟨q,hq,rfl⟩:=l16.mp hp;exact h2 q hq)
 rw[h4] at h5;rw[h5];exact h3 _
def mS (g:List Nat)(ps:List (List Nat)):glued (S g) (ps.map S)=S (aF g ps):=by
 have key:∀(ps:List (List Nat)) (acc:List Nat),(ps.map S).foldl (λacc p=>acc++(S g).cps++p.cps) acc.toArray=(acc++(ps.map λp=>g++p).flatten).toArray:=by
  intro ps
  induction ps with
  |nil=>intro acc;simp
  |cons p r ih=>
   intro acc;rw[l13,List.foldl_cons];have e:acc.toArray++(S g).cps++(S p).cps=(acc++g++p).toArray:=by simp
   rw[e,ih];simp
 have gl:∀(p:List Nat) (r:List (List Nat)),aF g (p::r)=p++(r.map λp=>g++p).flatten:=by
  intro p r
  induction r generalizing p with
  |nil=>simp[aF]
  |cons q r ih=>rw[cE g p (q::r) (by simp),ih q];simp
 unfold glued;cases ps with
 |nil=>rfl
 |cons p r=>
  rw[gl];show (⟨(List.drop 1 (S p::r.map S)).foldl _ (S p).cps⟩:Str)=_;rw[List.drop_one,List.tail_cons,key]
def ca (g:List Nat)(ps:List (List Nat)):Txt.join (S g) (ps.map S)=S (aF g ps):=mS g ps
def bX (p:Nat->Bool)(l:List Nat):List Nat:=(l.reverse.dropWhile p).reverse
def eJ (l:List Nat)(p:Nat->Bool):l.take (l.length - (l.reverse.takeWhile p).length)=bX p l:=by
 unfold bX;have h:l.reverse=l.reverse.takeWhile p++l.reverse.dropWhile p:=(l51).symm;have h2:l=(l.reverse.dropWhile p).reverse++(l.reverse.takeWhile p).reverse:=by
  have:=congrArg List.reverse h;rw[List.reverse_reverse,List.reverse_append] at this;exact this
 conv=>lhs;arg 2;rw[h2]
 have e:l.length - (l.reverse.takeWhile p).length=(l.reverse.dropWhile p).reverse.length:=by
  have:=congrArg List.length h;rw[l8,l57] at this;rw[l57];omega
 rw[e,l52]
def kU (l y:List Nat):Txt.rstripChars (S l) (S y)=S (bX y.contains l):=by
 have e:(S y).cps.contains=y.contains:=by funext c;simp
 unfold Txt.rstripChars Txt.stripBy;rw[e];have h0:stripLo y.contains false (S l)=0:=rfl;have h1:stripHi y.contains true (S l) 0=l.length - (l.reverse.takeWhile y.contains).length:=by
  simp[stripHi,Str.length]
 split
 ·rename_i h;rw[stripSame,h0,h1] at h;simp only[beq_self_eq_true,Bool.true_and,beq_iff_eq,aH] at h;rw[<- eJ,h,List.take_length]
 ·rw[stripped,h0,h1];unfold strSub;rw[<- eJ];simp
def gX (l y:List Nat):Txt.lstripChars (S l) (S y)=S (l.dropWhile y.contains):=by
 have e:(S y).cps.contains=y.contains:=by funext c;simp
 have hd:l.drop (l.takeWhile y.contains).length=l.dropWhile y.contains:=by
  conv=>lhs;arg 2;rw[<- l51 (p:=y.contains) (l:=l)]
  rw[l48]
 unfold Txt.lstripChars Txt.stripBy;rw[e];have h0:stripLo y.contains true (S l)=(l.takeWhile y.contains).length:=by simp[stripLo]
 have h1:∀k,stripHi y.contains false (S l) k=l.length:=λk=>by simp[stripHi,Str.length]
 split
 ·rename_i h;rw[stripSame,h0,h1] at h;simp only[Bool.and_eq_true,beq_iff_eq] at h;rw[<- hd,h.1,l43]
 ·rw[stripped,h0,h1];unfold strSub;rw[<- hd];simp only[List.extract_toArray,List.extract_eq_take_drop];rw[l35 (by rw[l9];exact l5 _)]
def fE (l y:List Nat)(i:Nat):subAt (S l) (S y) i=decide ((l.drop i).take y.length=y):=by
 unfold subAt;rw[Bool.eq_iff_iff];simp only[beq_iff_eq,decide_eq_true_eq];rw[<- Array.toList_inj];simp[aH]
def At_S (l y:List Nat)(i:Nat):At (S l) (S y) (S l).length i ↔ i+y.length<=l.length/\(l.drop i).take y.length=y:=by
 unfold At;rw[fE,aH,aH];simp
def ff (l y:List Nat):Txt.startswith (S l) (S y)=y.isPrefixOf l:=by
 unfold Txt.startswith;rw[fE,aH,aH,Bool.eq_iff_iff];simp only[l69,l43,Bool.and_eq_true,decide_eq_true_eq,l59];constructor
 ·rintro⟨_,h⟩;exact⟨l.drop y.length,by (conv=>lhs;arg 1;rw[<- h]);exact l53 _ _⟩
 ·rintro⟨t,rfl⟩;simp
def rO (l:List Nat)(h:∀c∈l,c < 128):Txt.lower (S l)=S (l.map lo1):=by
 rw[PyProof.Rows.lower_ascii (by simpa using h)];simp
def gi (y:List Nat):List Nat->Option Nat
 | []=>if y=[] then some 0 else none
 |x::r=>if y.isPrefixOf (x::r) then some 0 else (gi y r).map (· + 1)
def gY (l y:List Nat)(i:Nat):(i+y.length<=l.length/\(l.drop i).take y.length=y) ↔ i<=l.length/\y <+: l.drop i:=by
 constructor
 ·rintro⟨h1,h2⟩;exact⟨by omega,l78.mpr h2.symm⟩
 ·rintro⟨h1,h2⟩;have:=l78.mp h2;have hl:=h2.length_le;rw[l9] at hl;exact⟨by omega,this.symm⟩
theorem gD (y:List Nat):∀l:List Nat,gi y l=none ↔ ∀i,¬ (i<=l.length/\y <+: l.drop i)
 | []=>by
  unfold gi;split
  ·rename_i h;subst h;simp only[reduceCtorEq,false_iff];intro h;exact h 0 ⟨l5 _,by simp⟩
  ·rename_i h;simp only[true_iff];rintro i ⟨_,hp⟩;simp at hp;exact h hp
 |x::r=>by
  unfold gi;split
  ·rename_i h;simp only[reduceCtorEq,false_iff];intro q;exact q 0 ⟨l12 _,by simpa using l59.mp h⟩
  ·rename_i h;rw[Option.map_eq_none_iff,gD y r];constructor
   ·intro q i;cases i with
    |zero=>
     rintro⟨_,hp⟩;exact h (l59.mpr (by simpa using hp))
    |succ i=>
     rintro⟨h1,hp⟩;exact q i ⟨by simpa using h1,by simpa using hp⟩
   ·rintro q i ⟨h1,hp⟩;exact q (i+1) ⟨by simpa using h1,by simpa using hp⟩
theorem dY (y:List Nat):∀(l:List Nat) (i:Nat),gi y l=some i ↔ (i<=l.length/\y <+: l.drop i)/\∀k,k < i->¬ (k<=l.length/\y <+: l.drop k)
 | [],i=>by
  unfold gi;split
  ·rename_i h;subst h;simp only[Option.some.injEq,l27,Nat.le_zero_eq,List.nil_prefix,and_true];constructor
   ·rintro rfl;exact⟨rfl,λk hk=>by omega⟩
   ·rintro⟨h,_⟩;exact h.symm
  ·rename_i h;simp only[reduceCtorEq,false_iff];rintro⟨⟨_,hp⟩,_⟩;simp at hp;exact h hp
 |x::r,i=>by
  unfold gi;split
  ·rename_i h;have h0:=l59.mp h;simp only[Option.some.injEq];constructor
   ·rintro rfl;exact⟨⟨l12 _,by simpa using h0⟩,λk hk=>by omega⟩
   ·rintro⟨_,hn⟩;cases i with
    |zero=>rfl
    |succ i=>exact absurd ⟨l12 _,by simpa using h0⟩ (hn 0 nofun)
  ·rename_i h;have h0:¬ y <+: x::r:=λq=>h (l59.mpr q);rw[l44];constructor
   ·rintro⟨j,hj,rfl⟩;obtain⟨⟨h1,h2⟩,h3⟩:=(dY y r j).mp hj;refine⟨⟨by simpa using h1,by simpa using h2⟩,λk hk=>?_⟩;cases k with
    |zero=>rintro⟨_,hp⟩;exact h0 (by simpa using hp)
    |succ k=>rintro⟨q1,q2⟩;exact h3 k nofun ⟨by simpa using q1,by simpa using q2⟩
   ·rintro⟨⟨h1,h2⟩,h3⟩;cases i with
    |zero=>exact absurd (by simpa using h2) h0
    |succ i=>exact⟨i,(dY y r i).mpr ⟨⟨by simpa using h1,by simpa using h2⟩,λk hk q=>h3 (k+1) nofun ⟨by simpa using q.1,by simpa using q.2⟩⟩,rfl⟩
def uq (l y:List Nat):Txt.find (S l) (S y)=match gi y l with |some i=>(i:Int) |none => -1:=by
 rcases PyProof.Rows.find_whole (S l) (S y) with ⟨e,hn⟩ |⟨i,e,hi,hn⟩
 ·rw[e,(gD y l).mpr λi q=>hn i ((At_S l y i).mpr ((gY l y i).mpr q))]
 ·rw[e,(dY y l i).mpr ⟨(gY l y i).mp ((At_S l y i).mp hi),λk hk q=>hn k hk ((At_S l y k).mpr ((gY l y k).mpr q))⟩]
def dZ (l:List Nat)(c:Nat):(!(occurrences (S l) (S [c]) 0 (S l).length 1).isEmpty)=l.contains c:=by
 rw[found_one,Bool.eq_iff_iff];simp
def lL (x y z:Str):Txt.replace x y z=glued z (partsBetween x (occurrences x y 0 x.length (x.length+1)) y.length):=by
 unfold Txt.replace;split
 ·rename_i h;rcases Bool.or_eq_true_iff.mp h with h |h
  ·rw[List.isEmpty_iff.mp h];have e:partsBetween x [] y.length=[x]:=by
    rw[partsBetween_eq];show [strSub x 0 x.length]=[x];rw[sub_whole]
   rw[e];rfl
  ·simp only[Bool.and_eq_true,beq_iff_eq] at h;have e:z=y:=by
    obtain⟨a⟩:=y;obtain⟨b⟩:=z;simp only[Str.length,Array.size_eq_zero_iff] at h;rw[h.1,h.2]
   rw[e,glued_between_self]
 ·rfl
def unesc:List Nat->List Nat
 | []=>[]
 | [x]=>[x]
 |x::y::r=>if x=92/\y=124 then unesc (y::r) else x::unesc (y::r)
theorem fF:∀(p:List Nat) (r:List Nat),(∀k,¬ [92,124] <+: p.drop k)->(∀t,r≠124::t)->unesc (p++r)=p++unesc r
 | [],r,_,_=>rfl
 | [x],r,h,hr=>by
  cases r with
  |nil=>rfl
  |cons y t=>
   show unesc (x::y::t)=x::unesc (y::t);rw[unesc,if_neg];rintro⟨_,rfl⟩;exact hr t rfl
 |x::y::p,r,h,hr=>by
  have ih:=fF (y::p) r (λk=>by simpa using h (k+1)) hr;show unesc (x::y::(p++r))=_;rw[unesc,if_neg]
  ·show x::unesc ((y::p)++r)=_;rw[ih];rfl
  ·rintro⟨rfl,rfl⟩;exact h 0 ⟨p,rfl⟩
def ja (r:List Nat):unesc (124::r)=124::unesc r:=by
 cases r with
 |nil=>rfl
 |cons y t=>
  rw[unesc,if_neg];rintro⟨h,_⟩;cases h
theorem gE:∀ps:List (List Nat),(∀p∈ps,∀k,¬ [92,124] <+: p.drop k)->unesc (aF [92,124] ps)=aF [124] ps
 | [],_=>rfl
 | [p],h=>by
  have:=fF p [] (h p (by simp)) (by simp);simpa[aF,unesc] using this
 |p::q::r,h=>by
  have ih:=gE (q::r) λz hz=>h z (l7 _ hz);show unesc (p++[92,124]++aF [92,124] (q::r))=p++[124]++aF [124] (q::r);rw[l23,fF p _ (h p (by simp)) (by intro t e;cases e)];show p++unesc (92::124::aF [92,124] (q::r))=_;rw[unesc,if_pos ⟨rfl,rfl⟩,ja,ih];simp
def mU (x:Str):∀(cuts:List Nat) (a f:Nat),ChainG x (S [92,124]) x.length a cuts f->(∀k,f<=k->¬ At x (S [92,124]) x.length k)->a<=x.length →
  ∀p∈partsFrom x 2 a cuts,∀k,¬ [92,124] <+: p.cps.toList.drop k:=by
 have part:∀(a b:Nat),b<=x.length->(∀k,a<=k->k < b->¬ At x (S [92,124]) x.length k)->∀k,¬ [92,124] <+: (strSub x a b).cps.toList.drop k:=by
  intro a b hb hn k hp;rw[strSub_toList] at hp;have hl:=hp.length_le;rw[l9,l21,l9] at hl;have hx:x.cps.toList.length=x.length:=by simp[Str.length]
  have hl':[92,124].length=2:=rfl;rw[hl'] at hl;refine hn (a+k) nofun nofun ?_;have hx2:x=S x.cps.toList:=(S_of x).symm;rw[hx2,At_S,gY];refine⟨by omega,?_⟩;rw[List.drop_take] at hp;have:=hp.trans (List.take_prefix _ _);rwa [l18] at this
 intro cuts
 induction cuts with
 |nil=>
  intro a f h hn ha p hp;have e:f=a:=h;subst e;rw[l14.mp hp];exact part f x.length (l5 _) λk h1 _=>hn k h1
 |cons d r ih=>
  intro a f h hn ha p hp;rcases l6.mp hp with rfl |hp'
  ·exact part a d (by have:=h.2.1.1;omega) h.2.2.1
  ·refine ih (d+2) f h.2.2.2 hn ?_ p hp';have:=h.2.1.1;have e:(S [92,124]).length=2:=rfl;omega
def gZ (l:List Nat):Txt.replace (S l) (S [92,124]) (S [124])=S (unesc l):=by
 obtain⟨f,hG,hn⟩:=occ_tight (S l) (S [92,124]) ∅;have hp:=mU (S l) _ 0 f hG hn (l12 _);have hg:=glued_between_self (S l) (S [92,124]) ((S l).length+1);rw[lL];rw[partsBetween_eq] at hg ⊢;have e2:(S [92,124]).length=2:=rfl;rw[e2] at hg ⊢;generalize partsFrom (S l) 2 0 (occurrences (S l) (S [92,124]) 0 (S l).length ((S l).length+1))=ps at hp hg ⊢;have eS:ps=(ps.map λp=>p.cps.toList).map S:=by
  rw[l26]
  conv=>lhs;rw[<- l58 ps]
  exact l42 λp _=>(S_of p).symm
 rw[eS,mS] at hg ⊢;have hl:=df hg;rw[<- hl,gE];intro p hp' k;obtain⟨q,hq,rfl⟩:=l16.mp hp';exact hp q hq k
def bB (n:Nat)(d:Nat):Option Int->Nat
 |none=>d
 |some i=>(max 0 (min (if i < 0 then i+n else i) n)).toNat
def cutL (l:List Nat)(lo hi:Option Int):List Nat:=(l.drop (bB l.length 0 lo)).take (bB l.length l.length hi - bB l.length 0 lo)
def fG (l:List Nat):∀(n a:Nat),a+n<=l.length->((List.range n).map λ(k:Nat)=>a+k).filterMap (l[·]?)=(l.drop a).take n:=by
 intro n
 induction n with
 |zero=>intro a _;simp
 |succ n ih=>
  intro a h;rw[l77,l17,List.filterMap_append,ih a nofun,List.take_add_one];have:a+n < l.length:=by omega
  simp[List.getElem?_drop,this]
def mV (n:Nat)(d:Nat)(o:Option Int):(match o with |none=>(d:Int) |some i=>max 0 (min (if i < 0 then i+n else i) n))=(bB n d o:Int):=by
 cases o with
 |none=>rfl
 |some i=>exact(Int.toNat_of_nonneg (Int.le_max_left _ _)).symm
def mW (n:Nat)(d:Nat)(o:Option Int)(h:d<=n):bB n d o<=n:=by
 cases o with
 |none=>exact h
 |some i=>exact Int.toNat_le.mpr (Int.max_le.mpr ⟨Int.natCast_nonneg n,Int.min_le_right _ _⟩)
def mX (a b:Nat):sliceRange a b 1=(List.range (b - a)).map λ(k:Nat)=>a+k:=by
 unfold sliceRange;rw[if_pos (by decide:(1:Int) > 0),Int.add_sub_cancel,Int.ediv_one];have e:(if (a:Int) < b then (b:Int) - a else 0).toNat=b - a:=by
  split
  ·exact Int.toNat_sub b a
  ·rename_i h;rw[Nat.sub_eq_zero_of_le (Int.ofNat_le.mp (Int.not_lt.mp h))];rfl
 try dsimp only
 rw[e];refine congrArg (λf=>List.map f _) (funext λk=>?_);rw[Int.one_mul,<- Int.natCast_add];exact l45 _
def pj (n:Nat)(lo hi:Option Int):strSliceIndices lo hi 1 n=(List.range (bB n n hi - bB n 0 lo)).map λ(k:Nat)=>bB n 0 lo+k:=by
 have e1:(1:Int) > 0:=by decide
 rw[<- mX,<- mV,<- mV];unfold strSliceIndices;simp only[e1,if_true];rfl
def fH (l:List Nat)(lo hi:Option Int):Txt.slice (S l) lo hi=S (cutL l lo hi):=by
 obtain⟨a,b,ea,eb,ha,hb,e⟩:∃(a b:Nat),a=bB l.length 0 lo/\b=bB l.length l.length hi/\a<=l.length/\b<=l.length/\strSliceIndices lo hi 1 l.length=(List.range (b - a)).map λ(k:Nat)=>a+k:=
  ⟨_,_,rfl,rfl,mW _ _ _ (l12 _),mW _ _ _ (l5 _),pj _ _ _⟩
 unfold Txt.slice cutL;rw[aH,e,<- ea,<- eb];simp only[l0,l41];split
 ·rename_i h;simp only[beq_self_eq_true,Bool.true_and,beq_iff_eq] at h;have h1:a=0:=by omega
  have h2:b=l.length:=by omega
  rw[h1,h2];simp
 ·rename_i h;congr 1;have q:=fG l (b - a) a nofun;rw[<- q];congr 2;funext i;simp
def rP (x:Nat):List (List Nat)->List (List Nat)
 |h::t=>(x::h)::t
 | []=>[[x]]
def aI:Nat->List Nat->List (List Nat)
 |_,[]=>[[]]
 |prev,x::r=>if x=124/\prev≠92 then []::aI x r else rP x (aI x r)
def bi (l:List Nat):List (List Nat):=aI 0 l
theorem cX:∀(l:List Nat) (p:Nat),aI p l≠[]
 | [],_=>by simp[aI]
 |x::r,p=>by
  unfold aI;split
  ·simp
  ·cases h:aI x r <;> simp[rP]
def bE (l:List Nat)(i:Nat):Bool:=l[i]? == some 124&&(i==0||l[i - 1]? != some 92)
def bO:Nat->Nat->List Nat->List Nat
 |_,_,[]=>[]
 |prev,k,x::r=>if x=124/\prev≠92 then k::bO x (k+1) r else bO x (k+1) r
def pk (pre r:List Nat)(x:Nat):bE (pre++x::r) pre.length=decide (x=124/\pre.getLastD 0≠92):=by
 unfold bE;have e1:(pre++x::r)[pre.length]? = some x:=by simp
 rw[e1];rcases l70 pre with rfl |⟨p,y,rfl⟩
 ·rw[Bool.eq_iff_iff];simp
 ·have e2:(p.concat y++x::r)[(p.concat y).length - 1]? = some y:=by
   rw[l79,l23];simp
  rw[e2,Bool.eq_iff_iff];simp
theorem fI:∀(suf pre:List Nat),((List.range' pre.length suf.length).filter (bE (pre++suf)))=bO (pre.getLastD 0) pre.length suf
 | [],pre=>rfl
 |x::r,pre=>by
  have ih:=fI r (pre++[x]);rw[l8,l23] at ih;simp only[l4,l27,l69,l83] at ih;rw[l4,List.range'_succ,List.filter_cons,pk,bO];have e:(pre++[x]).getLastD 0=x:=by simp
  rw[e] at ih;by_cases h:x=124/\pre.getLastD 0≠92
  ·rw[if_pos h];simp only[h,and_self,decide_true,if_true,ne_eq,not_false_eq_true];have e124:=h.1;subst e124;rw[ih]
  ·rw[if_neg h,if_neg (by simpa using h),ih]
def jb (l:List Nat):(List.range l.length).filter (bE l)=bO 0 0 l:=by
 have:=fI l [];simpa[List.range_eq_range'] using this
def bY (l:List Nat):Nat->List Nat->List (List Nat)
 |_,[]=>[]
 |b,p::r=>(l.drop b).take (p - b)::bY l (p+1) r
theorem d7:∀(suf pre:List Nat) (b:Nat),b<=pre.length →
  ∃h t,aI (pre.getLastD 0) suf=h::t/\bY (pre++suf) b (bO (pre.getLastD 0) pre.length suf++[(pre++suf).length])=(pre.drop b++h)::t
 | [],pre,b,hb=>by
  refine⟨[],[],rfl,?_⟩;show [((pre++[]).drop b).take ((pre++[]).length - b)]=_;rw[l29,l29,l35 (by rw[l9];exact l5 _)]
 |x::r,pre,b,hb=>by
  have e:(pre++[x]).getLastD 0=x:=by simp
  have el:(pre++[x]).length=pre.length+1:=by simp
  have ea:(pre++[x])++r=pre++x::r:=by simp
  rw[aI,bO];by_cases h:x=124/\pre.getLastD 0≠92
  ·obtain⟨h1,t1,q1,q2⟩:=d7 r (pre++[x]) (pre.length+1) (by rw[el];exact l5 _);rw[e] at q1 q2;rw[el,ea] at q2;rw[if_pos h,if_pos h];refine⟨[],aI x r,rfl,?_⟩;rw[l71,bY,q2,q1];have d:(pre++[x]).drop (pre.length+1)=[]:=by rw[<- el];exact l46
   rw[d,l68,l29,l60 hb,l80 (by rw[l9];exact l5 _),l35 (by rw[l9];exact l5 _)]
  ·obtain⟨h1,t1,q1,q2⟩:=d7 r (pre++[x]) b (by rw[el];omega);rw[e] at q1 q2;rw[el,ea] at q2;rw[if_neg h,if_neg h,q1];refine⟨x::h1,t1,rfl,?_⟩;rw[q2,l60 hb];simp
def jT (l:List Nat):bY l 0 ((List.range l.length).filter (bE l)++[l.length])=bi l:=by
 obtain⟨h,t,q1,q2⟩:=d7 l [] 0 (l5 _);rw[jb];have q2':bY l 0 (bO 0 0 l++[l.length])=h::t:=by simpa using q2
 rw[q2'];exact q1.symm
theorem gF:∀(c:List Nat) (x:Nat),unesc (c++[x])=if x=124/\c.getLastD 0=92 then (unesc c).dropLast++[124] else unesc c++[x]
 | [],x=>by simp[unesc]
 | [y],x=>by
  show (if y=92/\x=124 then unesc [x] else y::unesc [x])=_;by_cases h:y=92/\x=124
  ·rw[if_pos h,if_pos (by simpa using ⟨h.2,h.1⟩)];simp[unesc,h.2]
  ·rw[if_neg h,if_neg (by simpa using λa b=>h ⟨b,a⟩)];simp[unesc]
 |y::z::c,x=>by
  have ih:=gF (z::c) x;have e:(y::z::c).getLastD 0=(z::c).getLastD 0:=by simp
  rw[e];show unesc (y::z::(c++[x]))=_;rw[unesc,unesc];have ih':unesc (z::(c++[x]))=if x=124/\(z::c).getLastD 0=92 then (unesc (z::c)).dropLast++[124] else unesc (z::c)++[x]:=ih
  have ne:unesc (z::c)≠[]:=by
   cases c with
   |nil=>simp[unesc]
   |cons w c=>
    rw[unesc];split
    ·rename_i hh;have:w=124:=hh.2;subst this;rw[ja];simp
    ·simp
  by_cases h1:y=92/\z=124
  ·rw[if_pos h1,if_pos h1,ih']
  ·rw[if_neg h1,if_neg h1,ih'];by_cases h2:x=124/\(z::c).getLastD 0=92
   ·rw[if_pos h2,if_pos h2];rw[List.dropLast_cons_of_ne_nil ne];rfl
   ·rw[if_neg h2,if_neg h2];rfl
def g0 (c:List Nat):unesc c=[] ↔ c=[]:=by
 constructor
 ·intro h;rcases l70 c with rfl |⟨p,y,rfl⟩
  ·rfl
  ·rw[l79,gF] at h;split at h <;> simp at h
 ·rintro rfl;rfl
theorem fJ:∀c:List Nat,aD 32 (unesc c)=(aD 32 c).map unesc
 | []=>rfl
 | [x]=>by
  by_cases h:x=32
  ·subst h;simp[unesc,aD]
  ·simp[unesc,aD,h]
 |x::y::r=>by
  have ih:=fJ (y::r);rw[unesc];by_cases h:x=92/\y=124
  ·rw[if_pos h,ih];obtain⟨rfl,rfl⟩:=h;obtain⟨p,t,e1,e2⟩:=aQ 32 92 (124::r) ∅;obtain⟨p',t',e1',e2'⟩:=aQ 32 124 r ∅;rw[e2,e1];rw[e2'] at e1;cases e1;simp[unesc]
  ·rw[if_neg h];by_cases hx:x=32
   ·subst hx;rw[bo,bo,ih];simp[unesc]
   ·obtain⟨p,t,e1,e2⟩:=aQ 32 x (y::r) hx;obtain⟨p',t',e1',e2'⟩:=aQ 32 x (unesc (y::r)) hx;rw[e2',e2];rw[ih,e1] at e1';simp only[l13,List.cons.injEq] at e1' ⊢;obtain⟨a,b⟩:=e1';refine⟨?_,b.symm⟩;rw[<- a];by_cases hy:y=32
    ·subst hy;rw[bo] at e1;cases e1;simp[unesc]
    ·obtain⟨p2,t2,f1,f2⟩:=aQ 32 y r hy;rw[f2] at e1;cases e1;rw[unesc,if_neg h]
theorem cY:∀(p r:List Nat),unesc (p++32::r)=unesc p++32::unesc r
 | [],r=>by
  show unesc (32::r)=32::unesc r;cases r with
  |nil=>rfl
  |cons y t=>rw[unesc,if_neg (λh=>by cases h.1)]
 | [x],r=>by
  have q:unesc (x::32::r)=x::unesc (32::r):=by
   rw[unesc,if_neg (λh=>by cases h.2)]
  show unesc (x::32::r)=_;rw[q];have:=cY [] r;simp only[l68] at this;rw[this];simp[unesc]
 |x::y::p,r=>by
  have ih:=cY (y::p) r;show unesc (x::y::(p++32::r))=_;rw[unesc,unesc];have ih':unesc (y::(p++32::r))=unesc (y::p)++32::unesc r:=ih;by_cases h:x=92/\y=124
  ·rw[if_pos h,if_pos h,ih']
  ·rw[if_neg h,if_neg h,ih'];rfl
theorem gG:∀ws:List (List Nat),aF [32] (ws.map unesc)=unesc (aF [32] ws)
 | []=>rfl
 | [p]=>rfl
 |p::q::r=>by
  have ih:=gG (q::r);show unesc p++[32]++aF [32] ((q::r).map unesc)=unesc (p++[32]++aF [32] (q::r));rw[ih,l23 p,l83,cY];simp
def jU (c:List Nat):aR (unesc c)=(aR c).map unesc:=by
 unfold aR;rw[fJ,List.filter_map];congr 1;apply List.filter_congr;intro w _;have:=g0 w;by_cases h:w=[]
 ·subst h;simp[unesc]
 ·have h2:unesc w≠[]:=λq=>h (this.mp q);simp[h,h2]
def lM (c:List Nat):cy (unesc c)=unesc (cy c):=by
 unfold cy;rw[jU,gG]
def eM (l:List Nat):List (List Nat):=(bi l).map λc=>cy (unesc c)
def mY (l:List Nat):eM l=(bi l).map λc=>unesc (cy c):=by
 unfold eM;exact l42 λc _=>lM c
theorem mZ {p:Nat->Bool}:∀{l:List Nat} {c:Nat},c∈l.takeWhile p->p c=true
 | [],_,h=>by simp at h
 |x::r,c,h=>by
  rw[List.takeWhile_cons] at h;split at h
  ·rename_i hx;rcases l6.mp h with rfl |h
   ·exact hx
   ·exact mZ h
  ·simp at h
theorem jV {p:Nat->Bool}:∀{l:List Nat} {y:Nat} {q:List Nat},l.dropWhile p=y::q->p y=false
 | [],_,_,h=>by simp at h
 |x::r,y,q,h=>by
  rw[List.dropWhile_cons] at h;split at h
  ·exact jV h
  ·rename_i hx;cases h;simpa using hx
def bc (l:List Nat):List Nat:=bX ([32]:List Nat).contains l
def eN (p:Nat->Bool)(l:List Nat):∃t,l=bX p l++t/\(∀c∈t,p c=true)/\(bX p l=[] ∨ ∃q y,bX p l=q++[y]/\p y=false):=by
 refine⟨(l.reverse.takeWhile p).reverse,?_,?_,?_⟩
 ·unfold bX;rw[<- List.reverse_append,l51,List.reverse_reverse]
 ·intro c hc;rw[List.mem_reverse] at hc;exact mZ hc
 ·unfold bX;cases h:l.reverse.dropWhile p with
  |nil=>exact .inl rfl
  |cons y q=>
   refine .inr ⟨q.reverse,y,by simp,?_⟩;exact jV h
def cb (p:Nat->Bool)(l:List Nat):bX p l <+: l:=by
 obtain⟨t,e,_⟩:=eN p l;exact⟨t,e.symm⟩
def m4 (l:List Nat):bc l=l.take (bc l).length:=by
 obtain⟨t,e⟩:=cb ([32]:List Nat).contains l
 conv=>rhs;arg 2;rw[<- e]
 exact(List.take_left' rfl).symm
def kW (l:List Nat):(bc l).length<=l.length:=(cb _ l).length_le
def eO (l:List Nat):bc l=[] ↔ ∀c∈l,c=32:=by
 obtain⟨t,e,ht,hh⟩:=eN ([32]:List Nat).contains l;constructor
 ·intro h c hc;have:l=t:=by rw[e];show bc l++t=t;rw[h];rfl
  rw[this] at hc;simpa using ht c hc
 ·intro h;rcases hh with hh |⟨q,y,e2,hy⟩
  ·exact hh
  ·have:y∈l:=by rw[e,e2];simp
   rw[h y this] at hy;simp at hy
def nameSigns:List Nat:=[97,98,99,100,101,102,103,104,105,106,107,108,109,110,111,112,113,114,115,116,117,118,119,120,121,122,65,66,67,68,69,70,71,72,73,74,75,76,77,78,79,80,81,82,83,84,85,86,87,88,89,90,48,49,50,51,52,53,54,55,56,57]
def aE (l:List Nat):Bool:=decide (1<=l.length)&&decide (l.length<=12)&&l.all nameSigns.contains
def aX (l:List Nat):List Nat:=l.map lo1
inductive Srt where
 |empty |fence
 |quote (r:List Nat)
 |heading (lv:Nat) (w:List Nat)
 |cells (ts:List (List Nat))
 |note (n w:List Nat)
 |name (n t:List Nat)
 |item (far:Nat) (sg:Nat) (w:List Nat)
 |plain (far:Nat) (w:List Nat)
def gj (l:List Nat):List Nat:=if [62,32].isPrefixOf l then l.drop 2 else l.drop 1
def eQ (b:List Nat):Nat:=(b.takeWhile ([61]:List Nat).contains).length
def cZ (b:List Nat):Nat:=if eQ b > 3 ∨ ¬ [32].isPrefixOf (b.drop (eQ b)) then 0 else eQ b
def bq (b:List Nat):Bool:=decide (2<=b.length)&&[124].isPrefixOf b&&bE b (b.length - 1)
def defC (b:List Nat):Option Srt:=
 match gi [93,58,32] b with
 |none=>none
 |some p=>
  if ¬ [91].isPrefixOf b then none
  else if [91,94].isPrefixOf b/\aE ((b.drop 2).take (p - 2)) then some (.note (aX ((b.drop 2).take (p - 2))) (aF [32] (aR (b.drop (p+3)))))
  else if aE ((b.drop 1).take (p - 1))/\(aR (b.drop (p+3))).length=1 then some (.name (aX ((b.drop 1).take (p - 1))) ((aR (b.drop (p+3))).headD []))
  else none
def fK (b:List Nat):Srt:=
 let body:=b.dropWhile ([32]:List Nat).contains
 if [45,32].isPrefixOf body ∨ [43,32].isPrefixOf body then .item (b.length - body.length) (body.headD 0) (cy (body.drop 2)) else .plain (b.length - body.length) (cy body)
def aV (l:List Nat):Srt:=
 let b:=bc l
 if b=[] then .empty
 else if [62].isPrefixOf b then .quote (gj l)
 else if b=[126,126,126] then .fence
 else if cZ b > 0 then .heading (cZ b) (cy (b.drop (cZ b)))
 else if bq b then .cells (eM ((b.drop 1).take (b.length - 2)))
 else match defC b with
  |some d=>d
  |none=>fK b
def pre2 (x y:Nat)(l:List Nat):[x,y].isPrefixOf l=true ↔ l[0]? = some x/\l[1]? = some y:=by
 cases l with
 |nil=>simp
 |cons a r=>
  cases r with
  |nil=>simp
  |cons b r=>
   simp;constructor
   ·rintro⟨rfl,rfl⟩;exact⟨rfl,rfl⟩
   ·rintro⟨rfl,rfl⟩;exact⟨rfl,rfl⟩
theorem jc (c:Nat):∀l:List Nat,((aD c l).map List.length).sum+(aD c l).length=l.length+1
 | []=>by simp[aD]
 |x::r=>by
  have ih:=jc c r;by_cases hx:x=c
  ·subst hx;rw[bo];simp only[l13,l27,l19,l4];omega
  ·obtain⟨q,t,e1,e2⟩:=aQ c x r hx;rw[e2];rw[e1] at ih;simp only[l13,l4,l19] at ih ⊢;omega
theorem gH (p:List Nat->Bool):∀ps:List (List Nat),((ps.filter p).map List.length).sum+(ps.filter p).length<=(ps.map List.length).sum+ps.length
 | []=>by simp
 |q::r=>by
  have ih:=gH p r;rw[List.filter_cons];split
  ·simp only[l13,l19,l4];omega
  ·simp only[l13,l19,l4];omega
def fL (l:List Nat):((aR l).map List.length).sum+(aR l).length<=l.length+1:=by
 have h1:=jc 32 l;have h2:=gH (λw=>w≠[]) (aD 32 l);unfold aR;omega
theorem glue_len:∀ps:List (List Nat),(aF [32] ps).length+1<=(ps.map List.length).sum+ps.length+1
 | []=>by simp[aF]
 | [p]=>by simp[aF]
 |p::q::r=>by
  have ih:=glue_len (q::r);show (p++[32]++aF [32] (q::r)).length+1<=_;simp only[l8,l13,l19,l4,l27] at ih ⊢;omega
theorem glue_len':∀ps:List (List Nat),ps≠[]->(aF [32] ps).length+1=(ps.map List.length).sum+ps.length
 | [],h=>absurd rfl h
 | [p],_=>by simp[aF]
 |p::q::r,_=>by
  have ih:=glue_len' (q::r) (by simp);show (p++[32]++aF [32] (q::r)).length+1=_;simp only[l8,l13,l19,l4,l27] at ih ⊢;omega
def g6 (l:List Nat):(cy l).length<=l.length:=by
 unfold cy;cases h:aR l with
 |nil=>simp[aF]
 |cons p r=>
  have h1:=glue_len' (p::r) (by simp);have h2:=fL l;rw[h] at h2;omega
def fM (ps:List (List Nat)):((ps.map S).map PySem.Str.length)=ps.map List.length:=by
 rw[l26];exact l42 λp _=>aH p
theorem jd:∀c:List Nat,(unesc c).length<=c.length
 | []=>by simp[unesc]
 | [x]=>by simp[unesc]
 |x::y::r=>by
  have ih:=jd (y::r);rw[unesc];split
  ·simp only[l4] at ih ⊢;omega
  ·simp only[l4] at ih ⊢;omega
theorem jW:∀(l:List Nat) (p:Nat),((aI p l).map List.length).sum+(aI p l).length=l.length+1
 | [],_=>by simp[aI]
 |x::r,p=>by
  have ih:=jW r x;rw[aI];split
  ·simp only[l13,l27,l19,l4];omega
  ·cases h:aI x r with
   |nil=>exact absurd h (cX r x)
   |cons a b=>
    rw[h] at ih;simp only[rP,l13,l4,l19] at ih ⊢;omega
def je (l:List Nat):(bi l).length<=l.length+1:=by have:=jW l 0;unfold bi;omega
def Asc (l:List Nat):Prop:=∀c∈l,c < 128
def Asc.sub {a b:List Nat}(h:Asc b)(s:∀c∈a,c∈b):Asc a:=λc hc=>h c (s c hc)
def Asc.drop {l:List Nat}(h:Asc l)(n:Nat):Asc (l.drop n):=h.sub λc hc=>l61 hc
def Asc.take {l:List Nat}(h:Asc l)(n:Nat):Asc (l.take n):=h.sub λc hc=>l72 hc
def Asc.bare {l:List Nat}(h:Asc l):Asc (bc l):=h.sub λc hc=>(cb _ l).subset hc
def Asc.dw {l:List Nat}(h:Asc l)(p:Nat->Bool):Asc (l.dropWhile p):=h.sub λc hc=>(List.dropWhile_sublist p).subset hc
theorem dg (c:Nat):∀(l p:List Nat) (x:Nat),p∈aD c l->x∈p->x∈l
 | [],p,x,hp,hx=>by simp[aD] at hp;subst hp;simp at hx
 |y::r,p,x,hp,hx=>by
  by_cases hy:y=c
  ·subst hy;rw[bo] at hp;rcases l6.mp hp with rfl |hp
   ·simp at hx
   ·exact l7 _ (dg y r p x hp hx)
  ·obtain⟨q,t,e1,e2⟩:=aQ c y r hy;rw[e2] at hp;rcases l6.mp hp with rfl |hp
   ·rcases l6.mp hx with rfl |hx
    ·simp
    ·exact l7 _ (dg c r q x (by rw[e1];simp) hx)
   ·exact l7 _ (dg c r p x (by rw[e1];exact l7 _ hp) hx)
def Asc.word {l w:List Nat}(h:Asc l)(hw:w∈aR l):Asc w:=h.sub λc hc=>dg 32 l w c (l64.mp hw).1 hc
theorem kX (g:List Nat):∀(ps:List (List Nat)) (x:Nat),x∈aF g ps->x∈g ∨ ∃p∈ps,x∈p
 | [],x,h=>by simp[aF] at h
 | [p],x,h => .inr ⟨p,by simp,h⟩
 |p::q::r,x,h=>by
  rw[cE g p (q::r) (by simp)] at h;rcases l20.mp h with h |h
  ·rcases l20.mp h with h |h
   ·exact .inr ⟨p,by simp,h⟩
   ·exact .inl h
  ·rcases kX g (q::r) x h with h |⟨p',hp,hx⟩
   ·exact .inl h
   ·exact .inr ⟨p',l7 _ hp,hx⟩
def Asc.glue {ws:List (List Nat)}(h:∀w∈ws,Asc w):Asc (aF [32] ws):=λc hc=>by
 rcases kX [32] ws c hc with h1 |⟨p,hp,hx⟩
 ·have:c=32:=by simpa using h1
  omega
 ·exact h p hp c hx
def Asc.tidy {l:List Nat}(h:Asc l):Asc (cy l):=Asc.glue λw hw=>h.word hw
theorem fN:∀(c:List Nat) (x:Nat),x∈unesc c->x∈c
 | [],x,h=>h
 | [y],x,h=>h
 |y::z::r,x,h=>by
  rw[unesc] at h;split at h
  ·exact l7 _ (fN (z::r) x h)
  ·rcases l6.mp h with rfl |h
   ·simp
   ·exact l7 _ (fN (z::r) x h)
def Asc.unesc {l:List Nat}(h:Asc l):Asc (unesc l):=h.sub λc hc=>fN l c hc
theorem g7:∀(l:List Nat) (q:Nat) (p:List Nat) (x:Nat),p∈aI q l->x∈p->x∈l
 | [],_,p,x,hp,hx=>by simp[aI] at hp;subst hp;simp at hx
 |y::r,q,p,x,hp,hx=>by
  rw[aI] at hp;split at hp
  ·rcases l6.mp hp with rfl |hp
   ·simp at hx
   ·exact l7 _ (g7 r y p x hp hx)
  ·cases h:aI y r with
   |nil=>exact absurd h (cX r y)
   |cons a b=>
    rw[h] at hp;rcases l6.mp hp with rfl |hp
    ·rcases l6.mp hx with rfl |hx
     ·simp
     ·exact l7 _ (g7 r y a x (by rw[h];simp) hx)
    ·exact l7 _ (g7 r y p x (by rw[h];exact l7 _ hp) hx)
def Asc.cells {l t:List Nat}(h:Asc l)(ht:t∈eM l):Asc t:=by
 obtain⟨c,hc,rfl⟩:=l16.mp ht;exact Asc.tidy (Asc.unesc (h.sub λx hx=>g7 l 0 c x hc hx))
def ur (c:Nat)(h:c < 128):lo1 c < 128:=by unfold lo1;split <;> omega
def Asc.small {l:List Nat}(h:Asc l):Asc (aX l):=λc hc=>by
 obtain⟨d,hd,rfl⟩:=l16.mp hc;exact ur d (h d hd)
def rQ {l:List Nat}(h:Asc l):PySem.PyData.strOk (S l)=true:=by
 unfold PySem.PyData.strOk;rw[Array.all_eq_true_iff_forall_mem];intro c hc;have:c∈l:=by simpa using hc
 have:=h c this;exact decide_eq_true nofun
theorem fO (l:List Nat):∀(ps:List Nat) (b:Nat),(bY l b ps).length=ps.length
 | [],_=>rfl
 |p::r,b=>by rw[bY,l4,fO l r (p+1),l4]
def cR (b:Nat)(ps:List Nat)(i:Nat):Nat:=if i=0 then b else ps.getD (i - 1) 0+1
theorem fP (l:List Nat):∀(ps:List Nat) (b i p:Nat),ps[i]? = some p->(bY l b ps)[i]? = some ((l.drop (cR b ps i)).take (p - cR b ps i))
 | [],_,_,_,h=>by simp at h
 |q::r,b,0,p,h=>by
  simp at h;subst h;rfl
 |q::r,b,i+1,p,h=>by
  have ih:=fP l r (q+1) i p (by simpa using h);rw[bY,List.getElem?_cons_succ,ih];have e:cR (q+1) r i=cR b (q::r) (i+1):=by
   cases i with
   |zero=>simp[cR]
   |succ i=>simp[cR]
  rw[e]
end Lm
set_option maxHeartbeats 8000000
namespace Lw
open PySem L2 Lm
structure Tx (mg:Str->Option Value):Prop where
 u10:mg "len"=none
 q11:mg "range"=none
 q10:mg "isinstance"=none
 z11:mg "all"=none
 u11:mg "str"=none
 g22:mg "bool"=none
 u13:mg "tuple"=none
 u12:mg "enumerate"=none
 z22:mg "int"=none
 g10:mg "list"=none
 g12:∃t,mg "NAME_SIGNS"=some (.str (S nameSigns) t)
 g11:∃t,mg "LONGEST_NAME"=some (.int 12 t)
 z12:∃t,mg "FENCE"=some (.str (S [126,126,126]) t)
 g16:∃t,mg "DEEPEST_HEADING"=some (.int 3 t)
 q13:∃t,mg "NAME_END"=some (.str (S [93,58,32]) t)
def big {n:Nat}(h:n<=1000000):n<=sizeLine:=by rw[sizeLine_eq];omega
def bg0:(0:Nat)<=sizeLine:=big ∅
def bg1:(1:Nat)<=sizeLine:=big ∅
def bg2:(2:Nat)<=sizeLine:=big ∅
def bg3:(3:Nat)<=sizeLine:=big ∅
def bg4:(4:Nat)<=sizeLine:=big ∅
def bigS {l:List Nat}(h:l.length<=1000000):(S l).length<=sizeLine:=by rw[aH];exact big h
def at_S {l:List Nat}{i:Nat}(h:i < l.length):atI (S l).cps.toList (i:Int)=some (l.getD i 0):=by
 rw[bD];refine ag ?_;rw[l22,List.getElem?_eq_getElem h];simp
def getD_some {l:List Nat}{i:Nat}(h:i < l.length):l[i]? = some (l.getD i 0):=by
 rw[l22,List.getElem?_eq_getElem h];simp
section
variable {a b:List Nat}{x y:V}
def neT (h:(!decide (x=y))=true)(ex:x=V.str (S a))(ey:y=V.str (S b)):a≠b:=by
 subst ex ey;intro e;subst e;simp at h
def neF (h:¬ (!decide (x=y))=true)(ex:x=V.str (S a))(ey:y=V.str (S b)):a=b:=by
 subst ex ey;have h2:V.str (S a)=V.str (S b):=by simpa using h
 exact df (V.str.inj h2)
def eqT (h:decide (x=y)=true)(ex:x=V.str (S a))(ey:y=V.str (S b)):a=b:=by
 subst ex ey;exact df (V.str.inj (of_decide_eq_true h))
end
section
variable {P:Program}{w:World}{K:Frag}{mg:Str->Option Value}{base:Heap}
inductive spBar (vs:List V)(H:Hp)(Q:VK)(u3:XK):Prop
 |mk (l:List Nat)(i:Nat)(_:vs=[.str (S l), .int i])(_:l.length<=1000000)(_:i < l.length)(_:Q (.bl (bE l i)) H)
inductive spWords (vs:List V)(H:Hp)(Q:VK)(u3:XK):Prop
 |mk (l:List Nat)(_:vs=[.str (S l)])(_:l.length<=1000000)(_:∀r H',Same H H'->H r=none->H' r=some (.lst ((aR l).map λw=>V.str (S w)))->Q (.ref r) H')
inductive spTidy (vs:List V)(H:Hp)(Q:VK)(u3:XK):Prop
 |mk (l:List Nat)(_:vs=[.str (S l)])(_:l.length<=1000000)(_:∀H',Same H H'->Q (.str (S (cy l))) H')
def ee (ws:List (List Nat)):(ws.map λw=>V.str (S w))=(ws.map S).map V.str:=by rw[l26];rfl
def jf (l:List Nat)(h:l.length<=1000000):(((aR l).map S).map (·.length)).sum+((aR l).map S).length * (S [32]).length<=sizeLine:=by
 have h1:=fL l;have h2:sizeLine=16777216:=sizeLine_eq;have h3:(((aR l).map S).map (·.length))=(aR l).map List.length:=fM _;rw[h3,l0];have h4:(S [32]).length=1:=rfl;rw[h4];omega
end
abbrev vS (l:List Nat):V := .str (S l)
section
variable {P:Program}{w:World}{K:Frag}{mg:Str->Option Value}{base:Heap}
inductive spCells (vs:List V)(H:Hp)(Q:VK)(u3:XK):Prop
 |mk (l:List Nat)(_:vs=[vS l])(_:l.length<=1000000)(_:∀r H',Same H H'->H r=none->H' r=some (.lst ((eM l).map vS))->Q (.ref r) H')
def jg {α β:Type}(f:α->β)(xs:List α)(i:Nat)(x:α)(h:xs[i]? = some x):(xs.take i).map f++[f x]=(xs.take (i+1)).map f:=by
 rw[List.take_succ,h];simp
def lN {ps:List Nat}{i p:Nat}(h:ps[i]? = some p):cR 0 ps (i+1)=p+1:=by
 unfold cR;rw[if_neg nofun,Nat.add_sub_cancel,l22,h];rfl
def kY (n d b:Nat)(hb:b<=n):bB n d (some (b:Int))=b:=by
 unfold bB;simp only[];omega
def rR (l:List Nat)(b p:Nat)(hp:p<=l.length)(hb:b<=l.length):cutL l (some (b:Int)) (some (p:Int))=(l.drop b).take (p - b):=by
 unfold cutL;rw[kY _ _ _ hp,kY _ _ _ hb]
def pInt (p:Nat->Bool):V->Bool
 | .int i=>p i.toNat
 |_=>false
def lO (p:Nat->Bool)(n:Nat):((((List.range n).map λ(i:Nat)=>V.int (0+(i:Int))).filter (pInt p)).map id)=((List.range n).filter p).map λ(i:Nat)=>V.int i:=by
 rw[l58,List.filter_map];have:(List.range n).filter (pInt p ∘ λ(i:Nat)=>V.int (0+(i:Int)))=(List.range n).filter p:=by
  refine List.filter_congr λi _=>?_;show p (0+(i:Int)).toNat=p i;congr 1;omega
 rw[this];refine l42 λi _=>?_;rw[Int.zero_add]
def pp (l:List Nat):((List.range l.length).filter (bE l)).length<=l.length:=by
 have:=List.length_filter_le (bE l) (List.range l.length);rwa [l41] at this
def pq {l:List Nat}{i p:Nat}(hp:((List.range l.length).filter (bE l)++[l.length])[i]? = some p):cR 0 ((List.range l.length).filter (bE l)++[l.length]) i<=l.length:=by
 unfold cR;split
 ·exact l12 _
 ·rename_i h0;have hi:=(List.getElem?_eq_some_iff.mp hp).1;rw[l8,List.length_singleton] at hi;have h1:i - 1 < ((List.range l.length).filter (bE l)).length:=by omega
  rw[l22,List.getElem?_append_left h1,List.getElem?_eq_getElem h1];have:=l38.mp (l64.mp (l34 h1)).1;show ((List.range l.length).filter (bE l))[i - 1]+1<=l.length;omega
end
def pw (l:List Nat)(b:Nat):cutL l (some (b:Int)) none=l.drop b:=by
 unfold cutL;have e:bB l.length 0 (some (b:Int))=min b l.length:=by unfold bB;simp only[];omega
 rw[e];show (l.drop (min b l.length)).take (l.length - min b l.length)=l.drop b;rcases Nat.le_total b l.length with h |h
 ·rw[l39 h,l35 (by rw[l9];exact l5 _)]
 ·rw[l54 h,l62,List.take_zero,l84 h]
def fQ (l:List Nat)(b p:Nat):cutL l (some (b:Int)) (some (p:Int))=(l.drop b).take (p - b):=by
 unfold cutL;have e:bB l.length 0 (some (b:Int))=min b l.length:=by unfold bB;simp only[];omega
 have e2:bB l.length l.length (some (p:Int))=min p l.length:=by unfold bB;simp only[];omega
 rw[e,e2];rcases Nat.le_total b l.length with h |h
 ·rw[l39 h];rcases Nat.le_total p l.length with h2 |h2
  ·rw[l39 h2]
  ·rw[l54 h2,l35 (by rw[l9];exact l5 _),l35 (by rw[l9];omega)]
 ·rw[l54 h,l84 h,l84 (l5 _)];simp
def m6 (l:List Nat)(h:2<=l.length):cutL l (some 1) (some (-1))=(l.drop 1).take (l.length - 2):=by
 unfold cutL;have e:bB l.length 0 (some 1)=1:=by unfold bB;simp only[];omega
 have e2:bB l.length l.length (some (-1))=l.length - 1:=by unfold bB;simp only[];omega
 rw[e,e2];rfl
def c0 (l:List Nat)(b:Nat):Txt.slice (S l) (some (b:Int)) none=S (l.drop b):=by rw[fH,pw]
section
variable {P:Program}{w:World}{K:Frag}{mg:Str->Option Value}{base:Heap}
inductive spName (vs:List V)(H:Hp)(Q:VK)(u3:XK):Prop
 |mk (l:List Nat)(_:vs=[vS l])(_:l.length<=1000000)(_:∀H',Same H H'->Q (.bl (aE l)) H')
def m7:V->V
 | .str x => .bl (x.cps.toList.all nameSigns.contains)
 |_ => .bl false
inductive spNameOf (vs:List V)(H:Hp)(Q:VK)(u3:XK):Prop
 |mk (l:List Nat)(_:vs=[vS l])(_:l.length<=1000000)(_:aE l=true)(_:∀H',Same H H'->Q (vS (aX l)) H')
def pA {l:List Nat}(h:aE l=true):Asc l:=by
 intro c hc;unfold aE at h;rw[Bool.and_eq_true] at h;have:=l40.mp h.2 c hc;have key:∀x∈nameSigns,x < 128:=by decide
 exact key c (by simpa using this)
inductive spRest (vs:List V)(H:Hp)(Q:VK)(u3:XK):Prop
 |mk (l:List Nat)(_:vs=[vS l])(_:l.length<=1000000)(_:Q (vS (gj l)) H)
inductive spHead (vs:List V)(H:Hp)(Q:VK)(u3:XK):Prop
 |mk (l:List Nat)(_:vs=[vS l])(_:l.length<=1000000)(_:Q (.int (cZ l)) H)
def di (p:Nat->Bool)(l:List Nat):(l.takeWhile p).length+(l.dropWhile p).length=l.length:=by
 rw[<- l8,l51]
inductive spIsC (vs:List V)(H:Hp)(Q:VK)(u3:XK):Prop
 |mk (l:List Nat)(_:vs=[vS l])(_:l.length<=1000000)(_:Q (.bl (bq l)) H)
end
def qA (l:List Nat)(b p:Nat):Txt.slice (S l) (some (b:Int)) (some (p:Int))=S ((l.drop b).take (p - b)):=by rw[fH,fQ]
def kZ:List Nat:=[101,109,112,116,121]
def b7:List Nat:=[113,117,111,116,101]
def ba:List Nat:=[102,101,110,99,101]
def br:List Nat:=[104,101,97,100,105,110,103]
def eR:List Nat:=[99,101,108,108,115]
def jh:List Nat:=[110,111,116,101]
def g8:List Nat:=[110,97,109,101]
def g9:List Nat:=[105,116,101,109]
def fR:List Nat:=[112,108,97,105,110]
def SrtAt (K:Frag)(H:Hp)(p:Addr):Srt->Prop
 | .empty=>H p=some (.tup [vS kZ])
 | .fence=>H p=some (.tup [vS ba])
 | .quote r=>H p=some (.tup [vS b7,vS r])
 | .heading lv w=>H p=some (.tup [vS br, .int lv,vS w])
 | .cells ts=>∃q,H p=some (.tup [vS eR, .ref q])/\H q=some (.lst (ts.map vS))
 | .note n w=>H p=some (.tup [vS jh,vS n,vS w])
 | .name n t=>H p=some (.tup [vS g8,vS n,vS t])
 | .item far sg w=>H p=some (.tup [vS g9, .int far,vS [sg],vS w])
 | .plain far w=>H p=some (.tup [vS fR, .int far,vS w])
def DefV (K:Frag)(H:Hp)(v:V):Option Srt->Prop
 |none=>v = .non
 |some d=>∃p,v = .ref p/\SrtAt K H p d
def Tells (t:TT)(σ:St)(H:Hp)(a:Bool):Prop:=∀R:Bool->Hp->Prop,(∀H',Same H H'->R a H')->t σ H R
def eZ {t u:TT}{σ:St}{H:Hp}(a b:Bool)(ht:Tells t σ H a)(hu:a=true->∀H1,Same H H1->Tells u σ H1 b):Tells (tAnd t u) σ H (a&&b):=by
 intro R k;refine ht _ λH1 s1=>?_;cases a with
 |true=>exact hu rfl H1 s1 R λH' s'=>k H' (s1.trans s')
 |false=>exact k H1 s1
def t_or {t u:TT}{σ:St}{H:Hp}(a b:Bool)(ht:Tells t σ H a)(hu:a=false->∀H1,Same H H1->Tells u σ H1 b):Tells (tOr t u) σ H (a||b):=by
 intro R k;refine ht _ λH1 s1=>?_;cases a with
 |false=>exact hu rfl H1 s1 R λH' s'=>k H' (s1.trans s')
 |true=>exact k H1 s1
def gk {t:TT}{σ:St}{H:Hp}(a:Bool)(ht:Tells t σ H a):Tells (tNot t) σ H (!a):=λR k=>ht _ λH1 s1=>k H1 s1
def s_if {t:TT}{f g:TS}{D:Ends}{σ:St}{H:Hp}(a:Bool)(ht:Tells t σ H a)(k1:∀H',Same H H'->a=true->f D σ H')(k2:∀H',Same H H'->a=false->g D σ H'):tIfS t f g D σ H:=
 ht _ λH' s'=>ite2 (k1 H' s') λc=>k2 H' s' (Bool.eq_false_iff.mpr c)
def dj {K:Frag}{te:TE}{σ:St}{H:Hp}{y:Str}(l z:List Nat)(hl:l.length<=1000000)(ey:y=S z)(he:∀R':VK,R' (vS l) H->te σ H R'):
  Tells (tB (tBM K "str" (rS2 λz y => .bl (Txt.startswith z y)) te (tCons (tC (.str y)) tNil))) σ H (z.isPrefixOf l):=by
 intro R k;refine he _ ⟨rfl,_,_,rfl,rfl,bigS hl,_,rfl,?_⟩;rw[ey,ff];exact k H (Same.refl H)
section
variable {P:Program}{w:World}{K:Frag}{mg:Str->Option Value}{base:Heap}
inductive spDef (K:Frag)(vs:List V)(H:Hp)(Q:VK)(u3:XK):Prop
 |mk (l:List Nat)(_:vs=[vS l])(_:l.length<=1000000)(_:∀v H',Same H H'->DefV K H' v (defC l)->Q v H')
inductive spItem (K:Frag)(vs:List V)(H:Hp)(Q:VK)(u3:XK):Prop
 |mk (l:List Nat)(_:vs=[vS l])(_:l.length<=1000000)(_:∀p H',Same H H'->SrtAt K H' p (fK l)->Q (.ref p) H')
inductive spSort (K:Frag)(vs:List V)(H:Hp)(Q:VK)(u3:XK):Prop
 |mk (l:List Nat)(_:vs=[vS l])(_:l.length<=1000000)(_:∀p H',Same H H'->SrtAt K H' p (aV l)->Q (.ref p) H')
def t_eq {te:TE}{σ:St}{H:Hp}{y:Str}(a b:List Nat)(ey:y=S b)(he:∀R':VK,R' (vS a) H->te σ H R'):Tells (tTest (tOp rEq te (tC (.str y)))) σ H (decide (a=b)):=by
 intro R k;refine he _ ⟨rfl,_,rfl,?_⟩;have:decide (vS a=V.str y)=decide (a=b):=by
  rw[ey];exact decide_eq_decide.mpr ⟨λh=>df (V.str.inj h),λh=>by rw[h]⟩
 rw[this];exact k H (Same.refl H)
inductive spMixed (vs:List V)(H:Hp)(Q:VK)(u3:XK):Prop
 |mk (c k:Int)(_:vs=[.int c, .int k])(_:0<=k)(_:k<=100)(_:∀i:Int,0<=i->Q (.int i) H)
end
def jX {a b:List Nat}(h:Asc a)(k:Asc b):Asc (a++b):=λc hc=>by
 rcases l20.mp hc with hc |hc
 ·exact h c hc
 ·exact k c hc
def lP {H:Hp}{l:List Nat}{i:Int}{Q:VK}(hl:l.length<=1000000)(h0:0<=i)(h1:i < (l.length:Nat))(k:Q (vS [l.getD i.toNat 0]) H):rIxS (vS l) (.int i) H Q:=by
 have e:=at_S (l:=l) (i:=i.toNat) nofun;rw[show ((i.toNat:Nat):Int)=i by omega] at e;exact⟨_,i,_,rfl,rfl,bigS hl,e,k⟩
def t_ne {te:TE}{σ:St}{H:Hp}{y:Str}(a b:List Nat)(ey:y=S b)(he:∀R':VK,R' (vS a) H->te σ H R'):Tells (tTest (tOp rNe te (tC (.str y)))) σ H (decide (a≠b)):=by
 intro R k;refine he _ ⟨rfl,_,rfl,?_⟩;have:(!decide (vS a=V.str y))=decide (a≠b):=by
  rw[ey,<- decide_not];exact decide_eq_decide.mpr ⟨λh e=>h (by rw[e]),λh e=>h (df (V.str.inj e))⟩
 rw[this];exact k H (Same.refl H)
def rS (xs:List (List Nat))(x:List Nat):atI ((xs++[x]).map vS) (-1)=some (vS x):=by
 rw[l17];exact oY _ _
def Ev (te:TE)(σ:St)(H:Hp)(v:V):Prop:=∀R:VK,R v H->te σ H R
def EvO (t:TO)(σ:St)(H:Hp)(o:Option Int):Prop:=∀R:Option Int->Hp->Prop,R o H->t σ H R
section
variable {σ:St}{H:Hp}{ta tb:TE}{i j:Int}{a b l:List Nat}{v:V}
def ev_v {k:Nat}(h:σ[k]? = some (some v)):Ev (tVar k) σ H v:=λR r=>⟨v,h,r⟩
def ev_c:Ev (tC v) σ H v:=λR r=>r
def qB {y:Str}(e:y=S b):Ev (tC (.str y)) σ H (vS b):=λR r=>by rw[e];exact r
def m8 {g:Int->Int->V}(h1:Ev ta σ H (.int i))(h2:Ev tb σ H (.int j))(e:g i j=v):Ev (tOp (rI0 g) ta tb) σ H v:=λR r=>h1 _ (h2 _ ⟨i,j,rfl,rfl,by rw[e];exact r⟩)
def va {g:Int->V}(h1:Ev ta σ H (.int i))(e:g i=v):Ev (tUn (rU g) ta) σ H v:=λR r=>h1 _ ⟨i,rfl,by rw[e];exact r⟩
def ut (hl:l.length<=1000000)(h1:Ev ta σ H (vS l))(h2:Ev tb σ H (.int i))(h0:0<=i)(hi:i < (l.length:Nat)):Ev (tOp rIxS ta tb) σ H (vS [l.getD i.toNat 0]):=λR r=>h1 _ (h2 _ (lP hl h0 hi r))
def vb:EvO jO σ H none:=λR r=>r
def hE (h:Ev ta σ H (.int i)):EvO (tPart ta) σ H (some i):=λR r=>h _ ⟨i,rfl,r⟩
def m9 {tl th:TO}{lo hi:Option Int}(hl:l.length<=1000000)(h1:Ev ta σ H (vS l))(h2:EvO tl σ H lo)(h3:EvO th σ H hi)(e:cutL l lo hi=a):Ev (tSl rSlS ta tl th) σ H (vS a):=λR r=>
 h1 _ (h2 _ (h3 _ ⟨_,rfl,bigS hl,by rw[fH,e];exact r⟩))
def uu (h1 : Ev ta σ H (.int i)) (h2 : Ev tb σ H (.int j)) : Tells (tTest (tOp rEq ta tb)) σ H (decide (i = j)) := fun R k => h1 _ (h2 _ ⟨rfl,_,rfl,by
 rw[show decide (V.int i=V.int j)=decide (i=j) from decide_eq_decide.mpr ⟨λh=>V.int.inj h,λh=>by rw[h]⟩];exact k H (Same.refl H)⟩)
def cS {g:Int->Int->V}{c:Bool}(h1:Ev ta σ H (.int i))(h2:Ev tb σ H (.int j))(e:g i j = .bl c):Tells (tTest (tOp (rI0 g) ta tb)) σ H c:=λR k=>h1 _ (h2 _ ⟨i,j,rfl,rfl,_,e,k H (Same.refl H)⟩)
def t_in (c:Nat)(h1:Ev ta σ H (vS [c]))(h2:Ev tb σ H (vS l)):Tells (tTest (tOp R_op_in_str ta tb)) σ H (l.contains c):=λR k=>
 h1 _ (h2 _ ⟨_,_,rfl,rfl,_,rfl,by rw[dZ];exact k H (Same.refl H)⟩)
end
def ce {c:TT}{tb:TS}{D:Ends}{σ:St}{H:Hp}(Pv:Nat->St->Hp->Prop)(m0:Nat)(h0:Pv m0 σ H)
  (hs:∀m σ H,Pv m σ H->∃a,Tells c σ H a/\(a=true->∀H',Same H H'->tb { D with nx:=λσ' H'=>∃m',m' < m/\Pv m' σ' H',ct:=λσ' H'=>∃m',m' < m/\Pv m' σ' H',bk:=D.nx } σ H')/\(a=false->∀H',Same H H'->D.nx σ H')):tWhile c tb D σ H:=by
 refine⟨Pv,⟨m0,h0⟩,λm σ H p=>?_⟩;obtain⟨a,ht,h1,h2⟩:=hs m σ H p;exact ht _ λH' s'=>ite2 (λc=>⟨λσ' H'=>∃m',m' < m/\Pv m' σ' H',λσ' H' h=>h,h1 c H' s'⟩) λc=>h2 (Bool.eq_false_iff.mpr c) H' s'
def pB (l:List Nat):cutL l none (some (-1))=l.dropLast:=by
 unfold cutL;have e:bB l.length l.length (some (-1))=l.length - 1:=by unfold bB;simp only[];omega
 rw[e,List.dropLast_eq_take];rfl
def AscS:Srt->Prop
 | .empty=>True
 | .fence=>True
 | .quote r=>Asc r
 | .heading _ w=>Asc w
 | .cells ts=>∀t∈ts,Asc t
 | .note n w=>Asc n/\Asc w
 | .name n t=>Asc n/\Asc t
 | .item _ sg w=>sg < 128/\Asc w
 | .plain _ w=>Asc w
def hJ {l:List Nat}(h:Asc l)(a b:Nat):Asc ((l.drop a).take b):=(h.drop a).take b
def pC {l:List Nat}(h:Asc l):AscS (aV l):=by
 have hb:=h.bare;unfold aV;simp only[];split
 ·trivial
 split
 ·unfold gj;split <;> exact h.drop _
 split
 ·trivial
 split
 ·exact(hb.drop _).tidy
 split
 ·intro t ht;exact(hJ hb _ _).cells ht
 have hi:AscS (fK (bc l)):=by
  unfold fK;simp only[];split
  ·refine⟨?_,((hb.dw _).drop _).tidy⟩;cases hd:(bc l).dropWhile ([32]:List Nat).contains with
   |nil=>decide
   |cons x r=>exact(hb.dw ([32]:List Nat).contains) x (by rw[hd];exact l10 ..)
  ·exact(hb.dw _).tidy
 cases hd:defC (bc l) with
 |none=>exact hi
 |some d=>
  unfold defC at hd;split at hd
  ·cases hd
  ·split at hd
   ·cases hd
   split at hd
   ·cases hd;exact⟨(hJ hb _ _).small,(hb.drop _).tidy⟩
   split at hd
   ·cases hd;refine⟨(hJ hb _ _).small,?_⟩;cases hw:aR ((bc l).drop _) with
    |nil=>exact λc hc=>by cases hc
    |cons x r=>exact(hb.drop _).word (by rw[hw];exact l10 ..)
   ·cases hd
def vc:Srt->Option (List Nat)
 | .heading _ w=>some w
 | .note _ w=>some w
 | .item _ _ w=>some w
 | .plain _ w=>some w
 |_=>none
def aW:Srt->List Nat
 | .empty=>kZ
 | .fence=>ba
 | .quote _=>b7
 | .heading _ _=>br
 | .cells _=>eR
 | .note _ _=>jh
 | .name _ _=>g8
 | .item _ _ _=>g9
 | .plain _ _=>fR
inductive Flat (K:Frag) (H:Hp):V->Prop where
 |int (i:Int):Flat K H (.int i)
 |str (x:Str):Flat K H (.str x)
 |lst {q:Addr} {xs:List V}:H q=some (.lst xs)->Flat K H (.ref q)
theorem SrtAt.parts {K:Frag}{H:Hp}{p:Addr}:∀{r:Srt},SrtAt K H p r->∃ys,H p=some (.tup (vS (aW r)::ys))/\(∀y∈ys,Flat K H y)/\∀w,vc r=some w->∃zs,ys=zs++[vS w]
 | .empty,h=>⟨[],h,(λ_ z=>nomatch z),(λ_ z=>nomatch z)⟩
 | .fence,h=>⟨[],h,(λ_ z=>nomatch z),(λ_ z=>nomatch z)⟩
 | .quote r,h=>⟨[vS r],h,λy z=>by rw[show y=vS r by simpa using z];exact .str _,λ_ z=>nomatch z⟩
 | .heading lv w, h => ⟨[.int lv,vS w],h,λy z=>by
   rcases l6.mp z with rfl |z
   ·exact .int _
   ·rw[show y=vS w by simpa using z];exact .str _,λu z=>⟨[.int lv],by cases z;rfl⟩⟩
 | .cells ts,⟨q,h,hq⟩=>⟨[.ref q],h,λy z=>by rw[show y = .ref q by simpa using z];exact .lst hq,λ_ z=>nomatch z⟩
 | .note n w, h => ⟨[vS n,vS w],h,λy z=>by
   rcases l6.mp z with rfl |z
   ·exact .str _
   ·rw[show y=vS w by simpa using z];exact .str _,λu z=>⟨[vS n],by cases z;rfl⟩⟩
 | .name n t, h => ⟨[vS n,vS t],h,λy z=>by
   rcases l6.mp z with rfl |z
   ·exact .str _
   ·rw[show y=vS t by simpa using z];exact .str _,λ_ z=>nomatch z⟩
 | .item far sg w, h => ⟨[.int far,vS [sg],vS w],h,λy z=>by
   rcases l6.mp z with rfl |z
   ·exact .int _
   rcases l6.mp z with rfl |z
   ·exact .str _
   ·rw[show y=vS w by simpa using z];exact .str _,λu z=>⟨[.int far,vS [sg]],by cases z;rfl⟩⟩
 | .plain far w, h => ⟨[.int far,vS w],h,λy z=>by
   rcases l6.mp z with rfl |z
   ·exact .int _
   ·rw[show y=vS w by simpa using z];exact .str _,λu z=>⟨[.int far],by cases z;rfl⟩⟩
theorem SrtAt.same {K:Frag}{H H':Hp}{p:Addr}(e:Same H H'):∀{r:Srt},SrtAt K H p r->SrtAt K H' p r
 | .empty,h=>e _ _ h
 | .fence,h=>e _ _ h
 | .quote r,h=>e _ _ h
 | .heading lv w,h=>e _ _ h
 | .cells ts,⟨q,h,hq⟩=>⟨q,e _ _ h,e _ _ hq⟩
 | .note n w,h=>e _ _ h
 | .name n t,h=>e _ _ h
 | .item far sg w,h=>e _ _ h
 | .plain far w,h=>e _ _ h
end Lw
namespace L2
open PySem PySem.Spec PyProof.Rows
section
variable {X:Cx}{c P:Addr}{k i:Nat}{x name:Str}{ps:List Str}{e:Expr}{es:List Expr}{t:TA}{p pos:Pos}{params:Arguments}{body:List Stmt}{scope:Scope}{qs:List (Pos×Str)}
def gI (hst:aA (e::es)=true):cw e=false/\aA es=true:=by
 unfold aA at hst;rw[Bool.and_eq_true,Bool.not_eq_true'] at hst;exact hst
end
end L2
namespace Lm
end Lm
namespace L2
open PySem PySem.Spec PyProof.Rows
section
variable {X:Cx}{k:Nat}{C:Addr}{x m f:Str}{ps:List Str}{sp:Sp}{e o value:Expr}{es:List Expr}{ta tv:TE}{t:TA}{p pos pos' w4:Pos}
def xfld (he:XE X e ta)(hb:bC e=true:=by rfl):XE X (.Attribute e f pos) (tFld X.K ta f):=⟨t7 he.h (base_of hb)⟩
def aK (ha:XE X o ta)(hv:XE X value tv)(hs:swapsWith value (some (.Attribute o f pos')) pos.line X.env=pure false:=by rfl):XS X (.Assign [.Attribute o f pos'] value pos) (sFld X.K ta tv f):=⟨t8 ha.h hv.h hs⟩
structure New (P:Program)(w:World)(K:Frag)(mg:Str->Option Value)(base:Heap)(k:Nat)(x:Str)(C:Addr)(ps:List Str)(sp:Sp):Prop where
 ex:∃f fd,Mk K C f/\FnOk P w K mg base CX0 k f fd ps sp/\mg x=some (.ref C)/\Binds K fd ps []
def xnew (D:New X.prog X.w X.K X.mg X.base k x C ps sp)(hr:Room (k+1) X.A)(ha:XA X (e::es) t)(hg:Gl X x:=by exact rfl) (hdb:(x==("__debug__":Str))=false:=by decide) (hst:aA (e::es)=true:=by rfl):
  XE X (.Call (.Name x p) (e::es) [] pos) (tMake C sp [] E0 t):=by
 obtain⟨f,fd,M,F,hm,hb⟩:=D.ex;exact⟨rA M F hr hg hm hb .nil rG ha.h hdb (bb (gI hst).1) (b6 (gI hst).2)⟩
structure MethV (P:Program)(w:World)(K:Frag)(mg:Str->Option Value)(base:Heap)(k:Nat)(C:Addr)(m:Str)(ps:List Str)(sp:Sp):Prop where
 ex:∃f fd,Cls K C/\Meth K C m f/\FnOk P w K mg base CX0 k f fd ps sp/\Binds K fd ps []
def MethV.mono {P:Program}{w:World}{K:Frag}{mg:Str->Option Value}{base:Heap}{j k:Nat}{C:Addr}{m:Str}{ps:List Str}{sp:Sp}(V:MethV P w K mg base j C m ps sp)(h:j<=k):MethV P w K mg base k C m ps sp:=let ⟨f,fd,a,b,F,c⟩:=V.ex;⟨f,fd,a,b,F.mono h,c⟩
inductive tMethV.I (XP:Program)(Xw:World)(XK:Frag)(Xm:Str->Option Value)(Xb:Heap)(k:Nat)(m:Str)(t:TA)(σ:St)(Q:VK)(x:V)(H1:Hp):Prop
 |mk (a C dx fs ps sp)(_:x = .ref a)(_:H1 a=some (.ins C dx fs))(_:fs.lookup m=none)(_:MethV XP Xw XK Xm Xb k C m ps sp)(_:t σ H1 λvs H2=>sp (x::vs) H2 Q E0)
def tMethV (X:Cx)(k:Nat)(m:Str)(ta:TE)(t:TA):TE:=λσ H Q=>ta σ H (tMethV.I X.prog X.w X.K X.mg X.base k m t σ Q)
def xmV0 {pl:Sem Bool}(he:XE X o ta)(hr:Room k X.A)
  (ht : eval (.Call (.Attribute o m w4) [] [] pos) X.env = (do
   let ov ← eval o X.env
   standAt w4.atName
   let (f,first) ← holding [ov] (getMethod ov m pl)
   callWith pos f first (backTo pos (starEach [] X.env)) (backToKw pos (keywordEach [] X.env))):=by rfl):
  XE X (.Call (.Attribute o m w4) [] [] pos) (tMethV X k m ta tNil):=by
 refine⟨λw9 s σ H Q I h=>?_⟩;refine PySem.W.methodCall_KW (pl:=pl) (thn (he.h w9 s σ H _ I h) λu s1 zz=>?_) ht;obtain⟨x,H1,I1,rx,a,C,dx,fs,ps,sp,ex,ea,l,V,q⟩:=zz;subst ex;obtain rfl:u=Value.ref a:=rx;obtain⟨f,fd,c,hm,F,hb⟩:=V.ex;refine lF I1 ea c hm l ?_;exact PySem.W.callWith_K0 (first:=[.ref a]) I1.kIn hm.kp (qv (us:=[.ref a]) (vs:=[.ref a]) (ds:=[]) (dvs:=[]) F hr hb .nil rG I1 (.cons rfl .nil) (by rw[l29];exact q))
end
section
variable {X:Cx}{e:Expr}{te:TE}{x:Str}{pos:Pos}
def xaug {i:Nat}{op:Operator}{ti:TIp}{pos':Pos}(hN:X.N.Nodup)(hi:X.N[i]? = some x)(hx:Loc X.env.scope x)(he:XE X e te)(ho:PIp X op ti)(hf:X.fn x=true ∨ X.env.scope.names.lookup x=some .local:=by first |exact .inl rfl |exact .inr rfl):
  XS X (.AugAssign (.Name x pos') op e pos) (tAug i te ti):=⟨tU hN hi hx he.h ho hf⟩
def rT:XS X (.Continue pos) tO:=⟨jK⟩
inductive rEq0 (K:Frag)(neg:Bool)(x y:V)(H:Hp)(Q:VK):Prop
 |mk (p q xs)(_:x = .ref p)(_:y = .ref q)(_:SqL K H p xs)(_:SqL K H q [])(_:Q (.bl (if neg then !xs.isEmpty else xs.isEmpty)) H)
def qC (hu:X.A.units+64 < cLine):OpR X (compareOp .Eq) (rEq0 X.K false):=by
 intro w9 s σ H x y v u Q I rx ry h;obtain⟨p,q,xs,rfl,rfl,hp,hq,k⟩:=h;cases rx;cases ry;obtain⟨its,r,pl,_⟩:=I.list hp;obtain⟨v5,r2,pl2,_⟩:=I.list hq;have e2:=r2.length;have e1:=r.length;cases v5 with
 |cons _ _=>simp at e2
 |nil=>
 cases its with
 |nil=>
  cases xs with
  |cons _ _=>simp at e1
  |nil=>exact SeqAt.eq_listAt (e:=λ_=>true) pl.isList pl2.isList rfl nofun (λj h1 _=>absurd h1 (Nat.not_lt_zero _)) ⟨.bl _,H,I,rfl,k⟩
 |cons _ _=>
  cases xs with
  |nil=>simp at e1
  |cons _ _=>exact SeqAt.eq_list_lengthsAt pl.isList pl2.isList (by simp) nofun ⟨.bl _,H,I,rfl,k⟩
def gJ (hu:X.A.units+64 < cLine):OpR X (compareOp .NotEq) (rEq0 X.K true):=by
 intro w9 s σ H x y v u Q I rx ry h;obtain⟨p,q,xs,rfl,rfl,hp,hq,k⟩:=h;cases rx;cases ry;obtain⟨its,r,pl,_⟩:=I.list hp;obtain⟨v5,r2,pl2,_⟩:=I.list hq;have e2:=r2.length;have e1:=r.length;cases v5 with
 |cons _ _=>simp at e2
 |nil=>
 cases its with
 |nil=>
  cases xs with
  |cons _ _=>simp at e1
  |nil=>exact SeqAt.RcNeAt.lists (e:=λ_=>true) pl.isList pl2.isList rfl nofun (λj h1 _=>absurd h1 (Nat.not_lt_zero _)) _ _ _ _ ⟨.bl _,H,I,rfl,k⟩
 |cons _ _=>
  cases xs with
  |nil=>simp at e1
  |cons _ _=>exact SeqAt.RcNeAt.lists_lengths pl.isList pl2.isList (by simp) nofun _ _ _ _ ⟨.bl _,H,I,rfl,k⟩
end
end L2
namespace Lw
open PySem L2 Lm
def uv {K:Frag}{σ:St}{H:Hp}{ta:TE}{p:Addr}{xs:List V}(h1:Ev ta σ H (.ref p))(hx:SqL K H p xs):Tells (tTest (tOp (rEq0 K true) ta (tLst tNil))) σ H (!xs.isEmpty):=
 λR k=>h1 _ ⟨bg0,λl hl=>⟨p,l,xs,rfl,rfl,(ac hl _).seq hx,SqL.of aa,_,rfl,k _ (ac hl _)⟩⟩
def vd {K:Frag}{σ:St}{H:Hp}{ta:TE}{p:Addr}{xs:List V}(h1:Ev ta σ H (.ref p))(hx:SqL K H p xs):Tells (tTest (tOp (rEq0 K false) ta (tLst tNil))) σ H xs.isEmpty:=
 λR k=>h1 _ ⟨bg0,λl hl=>⟨p,l,xs,rfl,rfl,(ac hl _).seq hx,SqL.of aa,_,rfl,k _ (ac hl _)⟩⟩
end Lw
namespace L2
open PySem
open PySem.Spec PyProof.Rows
end L2
namespace Lm
open PySem PySem.Builtin PySem.Builtin.Str PySem.StrLaws
end Lm
namespace L2
open PySem PySem.Spec PyProof.Rows
end L2
namespace Lm
end Lm
namespace L2
open PySem PySem.Spec PyProof.Rows
def lQ {K:Frag}{a:Addr}{xs:List V}{k:Nat}{fr:List Nat}{g:TG}{tt:TT}{te:TE}{σ:St}{H0:Hp}{Q:Addr->Hp->Prop}(f:Nat->V)(hx:SqL K H0 a xs)(hl:xs.length<=sizeLine)
  (ht:∀(i:Nat) x,xs[i]? = some x->∀H',Same H0 H'->∀(C:V->Hp->Prop)(N:Hp->Prop),(∀H4,Same H' H4->C (f i) H4) →
   g x (nfS k fr σ) H' λσ2 H2=>nfLe k fr σ σ2/\tt σ2 H2 λb H3=>if b=true then te σ2 H3 C else N H3)
  (hq:∀D H',H0 D=none->Same H0 H'->H' D=some (.lst ((List.range xs.length).map f))->Q D H'):rLC k fr g tt te σ (Itl K a) H0 Q:=by
 intro D hD;refine⟨λi m acc H=>m=xs.length - i/\i<=xs.length/\Same H0 H/\H D=some (.lst acc)/\acc=(List.range i).map f,⟨xs.length,by simp,l12 _,ac hD _,aa,rfl⟩,?_⟩;rintro i m acc H ⟨rfl,hi,sm,hDa,rfl⟩;refine⟨hDa,?_⟩;by_cases hlt:i < xs.length
 ·refine .inr ⟨⟨xs,xs[i],sm.seq hx,by simp[hlt]⟩,λx H' y=>?_⟩;obtain⟨e,y⟩:=y;rw[e];refine ht i x (y xs (sm.seq hx)) _ sm _ _ λH4 s4=>?_;exact⟨s4 _ _ hDa,by rw[l0,l41];omega,xs.length - (i+1),by omega,rfl,hlt,ak hD (sm.trans s4),aa,by rw[l77,l17];rfl⟩
 ·have e:i=xs.length:=by omega
  subst e;exact .inl ⟨⟨xs,sm.seq hx,l5 _⟩,hq D H hD sm hDa⟩
def KeepX (t:Addr)(H H':Hp):Prop:=∀b o,b≠t->H b=some o->H' b=some o
def KeepX.trans {t:Addr}{H H1 H2:Hp}(a:KeepX t H H1)(b:KeepX t H1 H2):KeepX t H H2:=λc o n h=>b c o n (a c o n h)
section
variable {X:Cx}{scope:Scope}{cl:List (Str×Addr)}{C:Addr}{N':List Str}{fp:List Addr}{s:Shared}{H:Hp}
def hZ:cV (aL X scope cl C N' fp s H) (.builtin "len") (R_call_len_seq X.K):=aj (X:=aL X scope cl C N' fp s H)
def ia:cV (aL X scope cl C N' fp s H) (.type "list") (R_call_list_of X.K):=aq (X:=aL X scope cl C N' fp s H)
end
mutual
inductive Dn (H:Hp):V->PyData->Prop where
 |non:Dn H .non .none
 |bl (b:Bool):Dn H (.bl b) (.bool b)
 |int (i:Int):Dn H (.int i) (.int i)
 |str (x:Str) (h:PyData.strOk x=true) (hl:x.length<=100000):Dn H (.str x) (.str x)
 |lst {a:Addr} {xs:List V} {ds:List PyData}:H a=some (.lst xs)->DnAll H xs ds->xs.length<=100000->Dn H (.ref a) (.list ds)
 |tup {a:Addr} {xs:List V} {ds:List PyData}:H a=some (.tup xs)->DnAll H xs ds->Dn H (.ref a) (.tuple ds)
inductive DnAll (H:Hp):List V->List PyData->Prop where
 |nil:DnAll H [] []
 |cons {x:V} {xs:List V} {d:PyData} {ds:List PyData}:Dn H x d->DnAll H xs ds->DnAll H (x::xs) (d::ds)
end
mutual
theorem Dn.same {H H':Hp}(s:Same H H'):∀{v:V} {d:PyData},Dn H v d->Dn H' v d
 |_,_, .non => .non
 |_,_, .bl b => .bl b
 |_,_, .int i => .int i
 |_,_, .str x h hl => .str x h hl
 |_,_, .lst e r l => .lst (s _ _ e) (DnAll.same s r) l
 |_,_, .tup e r => .tup (s _ _ e) (DnAll.same s r)
theorem DnAll.same {H H':Hp}(s:Same H H'):∀{vs:List V} {ds:List PyData},DnAll H vs ds->DnAll H' vs ds
 |_,_, .nil => .nil
 |_,_, .cons a b => .cons (Dn.same s a) (DnAll.same s b)
end
mutual
theorem Dn.den {K:Frag}{H:Hp}:∀{v:V} {d:PyData},Dn H v d->Den K H v d
 |_,_, .non => .non
 |_,_, .bl b => .bl b
 |_,_, .int i => .int i
 |_,_, .str x h _ => .str x h
 |_,_, .lst e r _ => .lst (SqL.of e) (DnAll.den r)
 |_,_, .tup e r => .tup (SqT.of e) (DnAll.den r)
theorem DnAll.den {K:Frag}{H:Hp}:∀{vs:List V} {ds:List PyData},DnAll H vs ds->DenAll K H vs ds
 |_,_, .nil => .nil
 |_,_, .cons a b => .cons (Dn.den a) (DnAll.den b)
end
theorem DnAll.len {H:Hp}:∀{vs:List V} {ds:List PyData},DnAll H vs ds->vs.length=ds.length
 |_,_, .nil=>rfl
 |_,_, .cons _ b=>by rw[l4,l4,b.len]
theorem DnAll.app {H:Hp}:∀{vs us:List V} {ds es:List PyData},DnAll H vs ds->DnAll H us es->DnAll H (vs++us) (ds++es)
 |_,_,_,_, .nil,h=>h
 |_,_,_,_, .cons a b,h => .cons a (b.app h)
def dif (H H':Hp):Hp:=λb=>match H b with |none=>H' b |some _=>none
def ao {H H':Hp}{b:Addr}(h:H b=none):dif H H' b=H' b:=by unfold dif;rw[h]
def dk {H H':Hp}{b:Addr}(h:H b≠none):dif H H' b=none:=by
 unfold dif;cases e:H b with
 |none=>exact absurd e h
 |some o=>rfl
def ib {H H':Hp}{b:Addr}{o:HO}(h:dif H H' b=some o):H b=none/\H' b=some o:=by
 cases e:H b with
 |none=>rw[ao e] at h;exact⟨rfl,h⟩
 |some o=>rw[dk (by rw[e];simp)] at h;cases h
def dif_same {H H':Hp}:Same (dif H H') H':=λb o h=>(ib h).2
def ar {H H1 H2 H3:Hp}(a:Same H H1)(b:Same H2 H3):Same (dif H1 H2) (dif H H3):=λc o h=>by
 obtain⟨h1,h2⟩:=ib h;rw[ao (a.free h1)];exact b _ _ h2
inductive Off (W:Addr->Prop)(H:Hp)(v:V)(d:PyData):Prop
 |mk (G)(_:Same G H)(_:∀b,W b->G b=none)(_:Dn G v d)
def Off.new {W:Addr->Prop}{H H':Hp}{v:V}{d:PyData}(h:Dn (dif H H') v d)(hW:∀b,W b->H b≠none):Off W H' v d:=⟨dif H H',dif_same,λb hb=>dk (hW b hb),h⟩
inductive Offs (W:Addr->Prop)(H:Hp)(vs:List V)(ds:List PyData):Prop
 |mk (G)(_:Same G H)(_:∀b,W b->G b=none)(_:DnAll G vs ds)
def Offs.sameW {W:Addr->Prop}{H H':Hp}{v:List V}{d:List PyData}(h:Offs W H v d)(s:∀b o,¬ W b->H b=some o->H' b=some o):Offs W H' v d:=
 let ⟨G,a,b,k⟩:=h;⟨G,λc o e=>s c o (λz=>by rw[b c z] at e;cases e) (a c o e),b,k⟩
def Offs.same {W:Addr->Prop}{H H':Hp}{v:List V}{d:List PyData}(h:Offs W H v d)(s:Same H H'):Offs W H' v d:=h.sameW λb o _ e=>s b o e
def Offs.upd {W:Addr->Prop}{H:Hp}{v:List V}{d:List PyData}{p:Addr}{o:HO}(h:Offs W H v d)(hp:W p):Offs W (L2.upd H p o) v d:=h.sameW λb u n e=>(af (show b≠p from λz=>n (z▸hp))).trans e
def both (G1 G2:Hp):Hp:=λb=>match G1 b with |none=>G2 b |some o=>some o
def qD {G1 G2:Hp}:Same G1 (both G1 G2):=λb o h=>by unfold both;rw[h]
def qE {G1 G2 H:Hp}(a:Same G1 H)(c:Same G2 H):Same G2 (both G1 G2):=λb o h=>by
 unfold both;cases e:G1 b with
 |none=>exact h
 |some u=>
  have h1:=a _ _ e;rw[c _ _ h] at h1;exact h1.symm
def na {G1 G2 H:Hp}(a:Same G1 H)(c:Same G2 H):Same (both G1 G2) H:=λb o h=>by
 unfold both at h;cases e:G1 b with
 |none=>rw[e] at h;exact c _ _ h
 |some u=>rw[e] at h;cases h;exact a _ _ e
def Offs.nil {W:Addr->Prop}{H:Hp}:Offs W H [] []:=⟨λ_=>none,(λ_ _ h=>nomatch h),(λ_ _=>rfl), .nil⟩
def Offs.snoc {W:Addr->Prop}{H:Hp}{vs:List V}{ds:List PyData}{v:V}{d:PyData}(h:Offs W H vs ds)(k:Off W H v d):Offs W H (vs++[v]) (ds++[d]):=by
 obtain⟨G1,a1,b1,k1⟩:=h;obtain⟨G2,a2,b2,k2⟩:=k;refine⟨both G1 G2,na a1 a2,λb hb=>?_,(k1.same qD).app (.cons (k2.same (qE a1 a2)) .nil)⟩;unfold both;rw[b1 b hb];exact b2 b hb
def Offs.len {W:Addr->Prop}{H:Hp}{vs:List V}{ds:List PyData}(h:Offs W H vs ds):vs.length=ds.length:=let ⟨_,_,_,c⟩:=h;c.len
section
variable {X:Cx}{k:Nat}{x:Str}{ps:List Str}{sp:Sp}{e:Expr}{p pos:Pos}
section
variable {scope:Scope}{cl:List (Str×Addr)}{C:Addr}{N':List Str}{fp:List Addr}{s:Shared}{H:Hp}{o:Expr}{ta:TE}{t:TA}{m:Str}{w4:Pos}{es:List Expr}
def jY {pl:Sem Bool}(he:XE (aL X scope cl C N' fp s H) o ta)(hr:Room k X.A)
  (ht : eval (.Call (.Attribute o m w4) [] [] pos) (aL X scope cl C N' fp s H).env = (do
   let ov ← eval o (aL X scope cl C N' fp s H).env
   standAt w4.atName
   let (f,first) ← holding [ov] (getMethod ov m pl)
   callWith pos f first (backTo pos (starEach [] (aL X scope cl C N' fp s H).env)) (backToKw pos (keywordEach [] (aL X scope cl C N' fp s H).env))):=by rfl):
  XE (aL X scope cl C N' fp s H) (.Call (.Attribute o m w4) [] [] pos) (tMethV X k m ta tNil):=xmV0 (X:=aL X scope cl C N' fp s H) (pl:=pl) he hr ht
end
end
end L2
namespace Lw
open PySem L2 Lm PySem.Builtin.Str
inductive P1 where
 |plain (s:Str)
 |code (s:Str)
 |link (w n:Str)
 |note (n:Str)
inductive PC where
 |one (p:P1)
 |strong (ps:List P1)
abbrev uw:Str:="plain"
abbrev ve:Str:="code"
abbrev rV:Str:="strong"
abbrev vf:Str:="link"
abbrev vg:Str:="note"
def d1:P1->PyData
 | .plain s => .tuple [.str uw, .str s]
 | .code s => .tuple [.str ve, .str s]
 | .link w n => .tuple [.str vf, .str w, .str n]
 | .note n => .tuple [.str vg, .str n]
def dP:PC->PyData
 | .one p=>d1 p
 | .strong ps => .tuple [.str rV, .list (ps.map d1)]
def one? : PC->Option P1
 | .one p=>some p
 | .strong _=>none
def ones:List PC->List P1:=λps=>ps.filterMap one?
structure Cp where
 Part:Addr
 Plain:Addr
 Code:Addr
 Strong:Addr
 Link:Addr
 Mark:Addr
def StrG (x:Str):Prop:=PyData.strOk x=true/\x.length<=100000
def StrG.dn {H:Hp}{x:Str}(h:StrG x):Dn H (.str x) (.str x) := .str x h.1 h.2
def P1At (c:Cp)(H:Hp)(a:Addr):P1->Prop
 | .plain s=>StrG s/\∃dx,H a=some (.ins c.Plain dx [("signs", .str s)])
 | .code s=>StrG s/\∃dx,H a=some (.ins c.Code dx [("signs", .str s)])
 | .link w n=>StrG w/\StrG n/\∃dx,H a=some (.ins c.Link dx [("words", .str w),("name", .str n)])
 | .note n=>StrG n/\∃dx,H a=some (.ins c.Mark dx [("name", .str n)])
def P1s (c:Cp)(H:Hp):List Addr->List P1->Prop
 | [],[]=>True
 |a::as,p::ps=>P1At c H a p/\P1s c H as ps
 |_,_=>False
def PCAt (c:Cp)(H:Hp)(a:Addr):PC->Prop
 | .one p=>P1At c H a p
 | .strong ps=>∃dx l as,H a=some (.ins c.Strong dx [("parts", .ref l)])/\H l=some (.lst (as.map V.ref))/\P1s c H as ps
def PCs (c:Cp)(H:Hp):List Addr->List PC->Prop
 | [],[]=>True
 |a::as,p::ps=>PCAt c H a p/\PCs c H as ps
 |_,_=>False
theorem P1At.same {c:Cp}{H H':Hp}{a:Addr}(s:Same H H'):∀{p:P1},P1At c H a p->P1At c H' a p
 | .plain _,⟨g,dx,e⟩=>⟨g,dx,s _ _ e⟩
 | .code _,⟨g,dx,e⟩=>⟨g,dx,s _ _ e⟩
 | .link _ _,⟨g,g2,dx,e⟩=>⟨g,g2,dx,s _ _ e⟩
 | .note _,⟨g,dx,e⟩=>⟨g,dx,s _ _ e⟩
theorem P1s.same {c:Cp}{H H':Hp}(s:Same H H'):∀{as:List Addr} {ps:List P1},P1s c H as ps->P1s c H' as ps
 | [],[],_=>trivial
 |_::_,_::_,⟨a,b⟩=>⟨a.same s,b.same s⟩
theorem PCAt.same {c:Cp}{H H':Hp}{a:Addr}(s:Same H H'):∀{p:PC},PCAt c H a p->PCAt c H' a p
 | .one _,h=>P1At.same s h
 | .strong _,⟨dx,l,as,e1,e2,r⟩=>⟨dx,l,as,s _ _ e1,s _ _ e2,r.same s⟩
theorem PCs.same {c:Cp}{H H':Hp}(s:Same H H'):∀{as:List Addr} {ps:List PC},PCs c H as ps->PCs c H' as ps
 | [],[],_=>trivial
 |_::_,_::_,⟨a,b⟩=>⟨a.same s,b.same s⟩
theorem PCs.len {c:Cp}{H:Hp}:∀{as:List Addr} {ps:List PC},PCs c H as ps->as.length=ps.length
 | [],[],_=>rfl
 |_::_,_::_,⟨_,b⟩=>by rw[l4,l4,b.len]
theorem P1s.len {c:Cp}{H:Hp}:∀{as:List Addr} {ps:List P1},P1s c H as ps->as.length=ps.length
 | [],[],_=>rfl
 |_::_,_::_,⟨_,b⟩=>by rw[l4,l4,b.len]
theorem PCs.snoc {c:Cp}{H:Hp}:∀{as:List Addr} {ps:List PC} {a:Addr} {p:PC},PCs c H as ps->PCAt c H a p->PCs c H (as++[a]) (ps++[p])
 | [],[],_,_,_,h=>⟨h,trivial⟩
 |_::_,_::_,_,_,⟨a,b⟩,h=>⟨a,b.snoc h⟩
theorem PCs.get {c:Cp}{H:Hp}:∀{as:List Addr} {ps:List PC} {i:Nat} {a:Addr},PCs c H as ps->as[i]? = some a->∃p,ps[i]? = some p/\PCAt c H a p
 | [],[],_,_,_,e=>by simp at e
 |_::_,_::_,0,_,⟨h,_⟩,e=>by cases e;exact⟨_,rfl,h⟩
 |_::_,_::_,i+1,_,⟨_,b⟩,e=>by
  obtain⟨p,h1,h2⟩:=b.get (i:=i) (by simpa using e);exact⟨p,by simpa using h1,h2⟩
theorem PCs.ones {c:Cp}{H:Hp}:∀{as:List Addr} {ps:List PC},PCs c H as ps->(∀p∈ps,one? p≠none)->P1s c H as (Lw.ones ps)
 | [],[],_,_=>trivial
 |a::as, .one p::ps,⟨h,r⟩,k=>⟨h,r.ones λq hq=>k q (l7 _ hq)⟩
 |a::as, .strong q::ps,⟨h,r⟩,k=>absurd rfl (k (.strong q) l10)
structure Inst (K:Frag)(C:Addr):Prop where
 cls:Cls K C
 ha:findIn K (.ref C) "__class__"=some (some (.builtin "object.__class__"))
 hn:specialIn K (.builtin "object.__class__") "__get__"=some (some (.builtin "getset_descriptor.__get__"))
 htk:takesIn K (.builtin "object.__class__")=some true
 hm:mroIn K C (.type "object")=some true
def Inst.ty {K:Frag}{C:Addr}(i:Inst K C){H:Hp}{a dx:Addr}{fs:List (Str×V)}(e:H a=some (.ins C dx fs)):TyOf K H (.ref a) (.ref C) := .ins e i.cls i.ha i.hn i.htk i.hm
end Lw
namespace L2
open PySem PySem.Spec PyProof.Rows
def Offs.toDif {H0 H:Hp}{W:Addr->Prop}{vs:List V}{ds:List PyData}(h:Offs W H vs ds)(hW:∀b,H0 b≠none->W b):DnAll (dif H0 H) vs ds:=by
 obtain⟨G,a,b,k⟩:=h;refine k.same λc o e=>?_;have:H0 c=none:=Classical.byContradiction λz=>by rw[b c (hW c z)] at e;cases e
 rw[ao this];exact a _ _ e
def cf {K:Frag}{a:Addr}{xs:List V}{k:Nat}{fr:List Nat}{g:TG}{tt:TT}{te:TE}{σ:St}{H0:Hp}{Q:Addr->Hp->Prop}(f:Nat->PyData)(hx:SqL K H0 a xs)(hl:xs.length<=100000)
  (ht:∀(i:Nat) x,xs[i]? = some x->∀H',Same H0 H'->∀(C:V->Hp->Prop)(N:Hp->Prop),(∀v H4,Same H' H4->Dn (dif H' H4) v (f i)->C v H4) →
   g x (nfS k fr σ) H' λσ2 H2=>nfLe k fr σ σ2/\tt σ2 H2 λb H3=>if b=true then te σ2 H3 C else N H3)
  (hq:∀D H',H0 D=none->Same H0 H'->Dn (dif H0 H') (.ref D) (.list ((List.range xs.length).map f))->Q D H'):rLC k fr g tt te σ (Itl K a) H0 Q:=by
 intro D hD;refine⟨λi m acc H=>m=xs.length - i/\i<=xs.length/\Same H0 H/\H D=some (.lst acc)/\Offs (λb=>b=D ∨ H0 b≠none) H acc ((List.range i).map f),⟨xs.length,by simp,l12 _,ac hD _,aa, .nil⟩,?_⟩;rintro i m acc H ⟨rfl,hi,sm,hDa,hof⟩;refine⟨hDa,?_⟩;have hal:acc.length=i:=by rw[hof.len,l0,l41]
 by_cases hlt:i < xs.length
 ·refine .inr ⟨⟨xs,xs[i],sm.seq hx,by simp[hlt]⟩,λx H' y=>?_⟩;obtain⟨e,y⟩:=y;rw[e];refine ht i x (y xs (sm.seq hx)) _ sm _ _ λv H4 s4 dv=>?_;have o4:Off (λb=>b=D ∨ H0 b≠none) H4 v (f i):=Off.new dv λb hb=>by
   rcases hb with rfl |hb
   ·rw[hDa];simp
   ·cases q:H0 b with
    |none=>exact absurd q hb
    |some o=>rw[sm _ _ q];simp
  refine⟨s4 _ _ hDa,by rw[sizeLine_eq];omega,xs.length - (i+1),by omega,rfl,hlt,ak hD (sm.trans s4),aa,?_⟩;rw[l77,l17];exact((hof.same s4).snoc o4).upd (.inl rfl)
 ·have e:i=xs.length:=by omega
  subst e;exact .inl ⟨⟨xs,sm.seq hx,l5 _⟩,hq D H hD sm (.lst (by rw[ao hD];exact hDa) (hof.toDif λb hb => .inr hb) nofun)⟩
end L2
namespace Lw
open PySem L2 Lm
def aM {t:TT}{f u:TS}{D:Ends}{σ:St}{H:Hp}(ht:Tells t σ H false)(k:∀H',Same H H'->u D σ H'):tSeq (tIfS t f gR) u D σ H:=s_if false ht (λ_ _ z=>Bool.noConfusion z) (λH' s' _=>k H' s')
def bF {t:TT}{f g u:TS}{D:Ends}{σ:St}{H:Hp}(ht:Tells t σ H true)(k:∀H',Same H H'->f { D with nx:=u D } σ H'):tSeq (tIfS t f g) u D σ H:=s_if true ht (λH' s' _=>k H' s') (λ_ _ z=>Bool.noConfusion z)
theorem P1s.toC {c:Cp}{H:Hp}:∀{as:List Addr} {ps:List P1},P1s c H as ps->PCs c H as (ps.map .one)
 | [],[],_=>trivial
 |_::_,_::_,⟨a,b⟩=>⟨a,b.toC⟩
inductive spTolds (c:Cp)(R:PC->Prop)(vs:List V)(H:Hp)(Q:VK)(u3:XK):Prop
 |mk (l:Addr)(as:List Addr)(ps:List PC)(_:vs=[.ref l])(_:H l=some (.lst (as.map V.ref)))(_:PCs c H as ps)(_:∀p∈ps,R p)(_:as.length<=100000)(_:∀r H',Same H H'->Dn (dif H H') (.ref r) (.list (ps.map dP))->Q (.ref r) H')
inductive spTold (c:Cp)(R:PC->Prop)(vs:List V)(H:Hp)(Q:VK)(u3:XK):Prop
 |mk (a p)(_:vs=[.ref a])(_:PCAt c H a p)(_:R p)(_:∀v H',Same H H'->Dn (dif H H') v (dP p)->Q v H')
def rW (P:Program)(w:World)(K:Frag)(mg:Str->Option Value)(base:Heap)(k:Nat)(c:Cp)(R:PC->Prop):Prop:=
 ∀p,R p->∀H a,PCAt c H a p->∃C dx fs sp,H a=some (.ins C dx fs)/\fs.lookup ("told":Str)=none/\MethV P w K mg base k C "told" ["self"] sp/\∀Q E,(∀v H',Same H H'->Dn (dif H H') v (dP p)->Q v H')->sp [.ref a] H Q E
def eg {K:Frag}{σ:St}{H:Hp}{ta:TE}{p:Addr}{xs:List V}(h:Ev ta σ H (.ref p))(hq:SqL K H p xs ∨ SqT K H p xs):Ev (tCB (R_call_len_seq K) (tCons ta tNil)) σ H (.int xs.length):=λR r=>h _ ⟨p,xs,rfl,hq,r⟩
def qF {K:Frag}{σ:St}{H:Hp}{ta tb:TE}{p:Addr}{xs:List V}{i:Int}{v:V}(h:Ev ta σ H (.ref p))(hi:Ev tb σ H (.int i))(hq:SqT K H p xs)(e:atI xs i=some v):Ev (tOp (rIxT K) ta tb) σ H v:=λR r=>h _ (hi _ ⟨p,xs,i,v,rfl,rfl,hq,e,r⟩)
def t_bv {σ:St}{H:Hp}{ta:TE}{b:Bool}(ev:Ev ta σ H (.bl b)):Tells (tB ta) σ H b:=λR k=>ev _ ⟨_,rfl,k _ (Same.refl _)⟩
def Tells.eq {t:TT}{σ:St}{H:Hp}{a b:Bool}(h:Tells t σ H a)(e:a=b):Tells t σ H b:=e▸h
end Lw
namespace K14
open PySem L2 Lm Lw
variable {P:Program}{w:World}{K:Frag}{mg:Str->Option Value}{base:Heap}
abbrev p0:List Str:=["rows","place","deep"]
abbrev p4:List Str:=["text","place"]
abbrev p5:List Str:=["rows","deep"]
abbrev p6:List Str:=["items","place","level"]
abbrev p7:List Str:=["self","signs"]
abbrev p8:List Str:=["self","parts"]
abbrev p9:List Str:=["self","blocks"]
abbrev p10:List Str:=["rows","place"]
abbrev p11:List Str:=["self","lines"]
abbrev p12:List Str:=["self","name"]
abbrev p13:List Str:=["self","words","name"]
abbrev p14:List Str:=["self","entries"]
abbrev p15:List Str:=["self","level","parts"]
abbrev p16:List Str:=["self","name","parts"]
abbrev p17:List Str:=["self","name","target"]
abbrev p18:List Str:=["self","sign","parts","entries"]
abbrev p19:List Str:=["self","head","sides","lines"]
abbrev p20:List Str:=["_law_script","_law_k"]
abbrev p21:List Str:=["_law_cell","_law_k"]
abbrev p22:List Str:=["_law_cell","_law_ahead"]
abbrev p23:List Str:=["_law_rows_here","_law_block","_law_first","_law_behind"]
abbrev p24:List Str:=["text","place","closing"]
abbrev p25:List Str:=["text","place","closings"]
abbrev p26:List Str:=["texts","columns"]
abbrev p27:List Str:=["line","columns"]
abbrev p28:List Str:=["_law_rows_here","_law_first","_law_deep"]
abbrev p29:List Str:=["_law_rows_here","_law_triple","_law_deep","_law_others","_law_turn"]
def top (i:Nat):Stmt:=PySem.Challenge.pw_lightmark_k14_whole_any_rows.main.body.getD i (.Pass ⟨0,0,0,0⟩)
def rX (s:Stmt):List Stmt:=match s with
 | .ClassDef _ _ _ b _ _ _ _ _ _ _=>b
 |_=>[]
abbrev meth (i j:Nat):Stmt:=(rX (top i)).getD j (.Pass ⟨0,0,0,0⟩)
def bG {f u:TS}{D:Ends}{σ:St}{H:Hp}(J:St->Hp->Prop)(h:∀N:St->Hp->Prop,(∀σ' H',J σ' H'->N σ' H')->f { D with nx:=N } σ H) (k:∀σ' H',J σ' H'->u D σ' H'):tSeq f u D σ H:=h (u D) k
structure TxP (K:Frag)(mg:Str->Option Value)(c:Cp)(BT:Addr):Prop where
 g10:mg "list"=none
 u10:mg "len"=none
 q10:mg "isinstance"=none
 z11:mg "all"=none
 u11:mg "str"=none
 u13:mg "tuple"=none
 g12:∃t,mg "NAME_SIGNS"=some (.str (S nameSigns) t)
 g11:∃t,mg "LONGEST_NAME"=some (.int 12 t)
 u14:mg "BadName"=some (.ref BT)
 q22:OwnX K BT
 g13:mg "Plain"=some (.ref c.Plain)
 g27:Inst K c.Plain
 z27:Inst K c.Code
 q27:Inst K c.Strong
 z16:Inst K c.Link
 u28:Inst K c.Mark
 g28:NoAttr K c.Plain "signs"
 z28:NoAttr K c.Code "signs"
 q28:NoAttr K c.Strong "parts"
 u29:NoAttr K c.Link "words"
 g29:NoAttr K c.Link "name"
 z29:NoAttr K c.Mark "name"
 z61:kitOne K (.ref c.Plain) (.ref c.Plain)=some true
 q61:kitOne K (.ref c.Code) (.ref c.Plain)=some false
 u62:kitOne K (.ref c.Strong) (.ref c.Plain)=some false
 g62:kitOne K (.ref c.Link) (.ref c.Plain)=some false
 z62:kitOne K (.ref c.Mark) (.ref c.Plain)=some false
section
variable {c:Cp}{BT:Addr}
inductive spInit1 (C:Addr)(fl:Str)(vs:List V)(H:Hp)(Q:VK)(u3:XK):Prop
 |mk (x dx v)(_:vs=[.ref x,v])(_:H x=some (.ins C dx []))(_:Q .non (upd H x (.ins C dx [(fl,v)])))
inductive spInit2 (C:Addr)(fl gl:Str)(vs:List V)(H:Hp)(Q:VK)(u3:XK):Prop
 |mk (x dx v u)(_:vs=[.ref x,v,u])(_:H x=some (.ins C dx []))(_:Q .non (upd (upd H x (.ins C dx [(fl,v)])) x (.ins C dx [(fl,v),(gl,u)])))
inductive spInitS (C:Addr)(vs:List V)(H:Hp)(Q:VK)(u3:XK):Prop
 |mk (x dx l xs)(_:vs=[.ref x, .ref l])(_:H x=some (.ins C dx []))(_:H l=some (.lst xs))(_:∀p,H p=none->Q .non (upd (upd H p (.lst xs)) x (.ins C dx [("parts", .ref p)])))
abbrev cF:Stmt:=meth 4 0
abbrev dm:Stmt:=meth 5 0
abbrev cg:Stmt:=meth 6 0
abbrev dq:Stmt:=meth 7 0
abbrev dr:Stmt:=meth 8 0
abbrev cG:Stmt:=meth 4 1
abbrev dt:Stmt:=meth 5 1
abbrev ci:Stmt:=meth 6 1
abbrev dz:Stmt:=meth 7 1
abbrev dA:Stmt:=meth 8 1
def ji (F:Fun K "__init__" "Plain.__init__" cF f fd)(T:TxP K mg c BT):FnOk P w K mg base CX0 1 f fd p7 (spInit1 c.Plain "signs"):=by
 have sc:FnScope p7 p7 (ad cF):=mkS;refine F.oks sc λH Q hr h=>?_;obtain⟨x,dx,v,rfl,e,q⟩:=h;refine am (xb1 (aK (xv 0) (xv 1))) ?_;exact⟨_,rfl,_,rfl,x,_,dx,_,rfl,e,T.g27.cls,T.g28,by decide,q⟩
def jZ (F:Fun K "__init__" "Code.__init__" dm f fd)(T:TxP K mg c BT):FnOk P w K mg base CX0 1 f fd p7 (spInit1 c.Code "signs"):=by
 have sc:FnScope p7 p7 (ad dm):=mkS;refine F.oks sc λH Q hr h=>?_;obtain⟨x,dx,v,rfl,e,q⟩:=h;refine am (xb1 (aK (xv 0) (xv 1))) ?_;exact⟨_,rfl,_,rfl,x,_,dx,_,rfl,e,T.z27.cls,T.z28,by decide,q⟩
def j5 (F:Fun K "__init__" "Mark.__init__" dr f fd)(T:TxP K mg c BT):FnOk P w K mg base CX0 1 f fd p12 (spInit1 c.Mark "name"):=by
 have sc:FnScope p12 p12 (ad dr):=mkS;refine F.oks sc λH Q hr h=>?_;obtain⟨x,dx,v,rfl,e,q⟩:=h;refine am (xb1 (aK (xv 0) (xv 1))) ?_;exact⟨_,rfl,_,rfl,x,_,dx,_,rfl,e,T.u28.cls,T.z29,by decide,q⟩
def j7 (F:Fun K "__init__" "Link.__init__" dq f fd)(T:TxP K mg c BT):FnOk P w K mg base CX0 1 f fd p13 (spInit2 c.Link "words" "name"):=by
 have sc:FnScope p13 p13 (ad dq):=mkS;refine F.oks sc λH Q hr h=>?_;obtain⟨x,dx,v,u,rfl,e,q⟩:=h;refine am (xbc (aK (xv 0) (xv 1))
  (xb1 (aK (xv 0) (xv 2)))) ?_
 refine⟨_,rfl,_,rfl,x,_,dx,_,rfl,e,T.z16.cls,T.u29,by decide,?_⟩;exact⟨_,rfl,_,rfl,x,_,dx,_,rfl,aa,T.z16.cls,T.g29,by show 1 < 1000;decide,q⟩
def ic (F:Fun K "__init__" "Strong.__init__" cg f fd)(T:TxP K mg c BT):FnOk P w K mg base CX0 1 f fd p8 (spInitS c.Strong):=by
 have sc:FnScope p8 p8 (ad cg):=mkS;refine F.oks sc λH Q hr h=>?_;obtain⟨x,dx,l,xs,rfl,e,el,q⟩:=h;refine am (xb1 (aK (xv 0) (xcTy aq T.g10 rfl (xac (xv 1) xa0)))) ?_;exact⟨_,rfl,l,_,rfl, .inl (SqL.of el),λp hp=>⟨_,rfl,x,_,dx,_,rfl,ac hp _ _ _ e,T.q27.cls,T.q28,by decide,q p hp⟩⟩
def R1 (p:PC):Prop:=one? p≠none
def jj (F:Fun K "told" "Plain.told" cG f fd)(T:TxP K mg c BT):FnOk P w K mg base CX0 1 f fd ["self"] (spTold c λp=>∃s,p = .one (.plain s)):=by
 have sc:FnScope ["self"] ["self"] (ad cG):=mkS;refine F.oks sc λ{_ _ _ s _ _}H Q hr h=>?_;obtain⟨a,p,rfl,ha,⟨s,rfl⟩,q⟩:=h;obtain⟨g,dx,e⟩:=ha;refine am (xb1 (xret (xtup (xac xstr (xac (xfld (xv 0)) xa0))))) ?_;exact⟨_,rfl,a,_,dx,_,_,rfl,e,T.g27.cls,T.g28,rfl,bg2,λp hp=>q _ _ (ac hp _) (.tup (by rw[ao hp,aa]) (.cons (.str _ ∅ ∅) (.cons g.dn .nil)))⟩
def ka (F:Fun K "told" "Code.told" dt f fd)(T:TxP K mg c BT):FnOk P w K mg base CX0 1 f fd ["self"] (spTold c λp=>∃s,p = .one (.code s)):=by
 have sc:FnScope ["self"] ["self"] (ad dt):=mkS;refine F.oks sc λ{_ _ _ s _ _}H Q hr h=>?_;obtain⟨a,p,rfl,ha,⟨s,rfl⟩,q⟩:=h;obtain⟨g,dx,e⟩:=ha;refine am (xb1 (xret (xtup (xac xstr (xac (xfld (xv 0)) xa0))))) ?_;exact⟨_,rfl,a,_,dx,_,_,rfl,e,T.z27.cls,T.z28,rfl,bg2,λp hp=>q _ _ (ac hp _) (.tup (by rw[ao hp,aa]) (.cons (.str _ ∅ ∅) (.cons g.dn .nil)))⟩
def kb (F:Fun K "told" "Mark.told" dA f fd)(T:TxP K mg c BT):FnOk P w K mg base CX0 1 f fd ["self"] (spTold c λp=>∃s,p = .one (.note s)):=by
 have sc:FnScope ["self"] ["self"] (ad dA):=mkS;refine F.oks sc λ{_ _ _ s _ _}H Q hr h=>?_;obtain⟨a,p,rfl,ha,⟨s,rfl⟩,q⟩:=h;obtain⟨g,dx,e⟩:=ha;refine am (xb1 (xret (xtup (xac xstr (xac (xfld (xv 0)) xa0))))) ?_;exact⟨_,rfl,a,_,dx,_,_,rfl,e,T.u28.cls,T.z29,rfl,bg2,λp hp=>q _ _ (ac hp _) (.tup (by rw[ao hp,aa]) (.cons (.str _ ∅ ∅) (.cons g.dn .nil)))⟩
def kd (F:Fun K "told" "Link.told" dz f fd)(T:TxP K mg c BT):FnOk P w K mg base CX0 1 f fd ["self"] (spTold c λp=>∃s n,p = .one (.link s n)):=by
 have sc:FnScope ["self"] ["self"] (ad dz):=mkS;refine F.oks sc λ{_ _ _ s _ _}H Q hr h=>?_;obtain⟨a,p,rfl,ha,⟨s,n,rfl⟩,q⟩:=h;obtain⟨g,g2,dx,e⟩:=ha;refine am (xb1 (xret (xtup (xac xstr (xac (xfld (xv 0)) (xac (xfld (xv 0)) xa0)))))) ?_;exact⟨_,rfl,a,_,dx,_,_,rfl,e,T.z16.cls,T.u29,rfl,_,rfl,a,_,dx,_,_,rfl,e,T.z16.cls,T.g29,rfl,bg3,λp hp=>q _ _ (ac hp _) (.tup (by rw[ao hp,aa]) (.cons (.str _ ∅ ∅) (.cons g.dn (.cons g2.dn .nil))))⟩
abbrev nc:Stmt:=top 10
def lR (ps:List PC):(List.range ps.length).map (λi=>dP (ps.getD i (.one (.note ""))))=ps.map dP:=by
 apply l73;intro i;rw[List.getElem?_map,List.getElem?_map];by_cases hi:i < ps.length
 ·rw[List.getElem?_range hi,List.getElem?_eq_getElem hi];simp only[l81,l22,List.getElem?_eq_getElem hi,Option.getD_some]
 ·rw[List.getElem?_eq_none (by rw[l41];omega),List.getElem?_eq_none nofun];rfl
def k0 {k:Nat}{R:PC->Prop}(F:Fun K "told_parts" "told_parts" nc f fd)(hM:rW P w K mg base k c R):FnOk P w K mg base CX0 (k+1) f fd ["parts"] (spTolds c R):=by
 have sc:FnScope ["parts"] ["parts"] (ad nc):=mkS;refine F.oks sc λH Q hr h=>?_;obtain⟨l,as,ps,rfl,el,hps,hR,hl,q⟩:=h;refine am (xb1 (xret (xlc0 (own:=["part"])
  (xil (xv 0))
  (λ_ _ _ _=>xgm (i:=0) (show (["part"]:List Str).Nodup by decide)) (λ_ _ _ _=>xq0) (λ_ _ _ _=>(jY (k:=k) (xv 0) hr.mono))))) ?_
 refine⟨_,rfl,l,rfl,⟨_,SqL.of el⟩,?_⟩;have w6:=hps.len;refine cf (λi=>dP (ps.getD i (.one (.note "")))) (SqL.of el) (by rw[l0];exact hl) ?_ ?_
 ·intro i x hx H2 s2 C N hC;rw[List.getElem?_map] at hx;cases hai:as[i]? with
  |none=>rw[hai] at hx;cases hx
  |some a=>
  rw[hai] at hx;cases hx;obtain⟨p,hp1,hp2⟩:=hps.get hai;obtain⟨Cc,dx,fs,sp,e1,e2,V,hsp⟩:=hM p (hR p (l15 hp1)) H2 a (hp2.same s2);refine⟨(nfLe.refl _ _ _).set ∅ _,iteT (B:=N H2) ⟨_,rfl,a,Cc,dx,fs,_,sp,rfl,e1,e2,V,hsp _ _ λv H4 s4 d4=>hC v H4 s4 ?_⟩⟩;rw[l22,hp1];exact d4
 ·intro D H2 hD s2 dD;refine q D H2 s2 ?_;rw[l0,w6,lR] at dD;exact dD
def ie {k:Nat}(F:Fun K "told" "Strong.told" ci f fd)(T:TxP K mg c BT)(Dc:Def P w K mg base k "told_parts" ["parts"] (spTolds c R1)):FnOk P w K mg base CX0 (k+1) f fd ["self"] (spTold c λp=>∃ps,p = .strong ps/\ps.length<=100000):=by
 have sc:FnScope ["self"] ["self"] (ad ci):=mkS;refine F.oks sc λH Q hr h=>?_;obtain⟨a,p,rfl,ha,⟨ps,rfl,hpl⟩,q⟩:=h;obtain⟨dx,l,as,e,el,hps⟩:=ha;refine am (xb1 (xret (xtup (xac xstr (xac (xcd Dc hr (xac (xfld (xv 0)) xa0)) xa0))))) ?_;refine⟨_,rfl,a,_,dx,_,_,rfl,e,T.q27.cls,T.q28,rfl,l,as,ps.map .one,rfl,el,hps.toC,λp hp=>?_,by rw[hps.len];exact hpl,λr H1 s1 d1'=>⟨bg2,λt ht=>q _ _ (s1.trans (ac ht _)) ?_⟩⟩
 ·obtain⟨x,_,rfl⟩:=l16.mp hp;unfold R1;simp[one?]
 ·refine .tup (by rw[ao (s1.free ht),aa]) (.cons (.str _ ∅ ∅) (.cons ?_ .nil));have:=d1'.same (ar (Same.refl H) (ac ht (.tup [V.str "strong", .ref r])));rw[l26] at this;exact this
end
section
abbrev sBar:Stmt:=top 26
def ux (F:Fun K "is_parting_bar" "is_parting_bar" sBar f fd):FnOk P w K mg base CX0 1 f fd p4 spBar:=by
 have sc:FnScope p4 p4 (ad sBar):=mkS;refine F.oks sc λH Q hr h=>?_;obtain⟨l,i,rfl,hl,h1,q⟩:=h;refine am (xbc (xif (az jM (xix de (xv 0) (xv 1) (λ_ _=>rfl)) xstr (ai _)) (xb1 (xret xbl)) xb0)
  (xb1 (xret (xorV (xcmp be (xv 1) xint (ai _)) (xone (xcmp jM (xix de (xv 0) (xop bM (xv 1) xint) (λ_ _=>rfl)) xstr (ai _))))))) ?_
 refine⟨_,rfl,_,rfl,_,_,_,rfl,rfl,bigS hl,at_S h1,rfl,_,rfl,?_⟩;have e1:=getD_some h1;refine ite2 (λc=>?_) (λc=>?_)
 ·have c':=neT (a:=[l.getD i 0]) (b:=[124]) c rfl rfl;have e:bE l i=false:=by
   unfold bE;rw[e1];have:(some (l.getD i 0)==some 124)=false:=by
    rw[beq_eq_false_iff_ne];intro z;exact c' (by rw[Option.some.inj z])
   rw[this];rfl
  rw[e] at q;exact q
 ·have c':=neF (a:=[l.getD i 0]) (b:=[124]) c rfl rfl;have c2:l.getD i 0=124:=by simpa using c'
  have e:bE l i=(i==0||l[i - 1]? != some 92):=by
   unfold bE;rw[e1,c2];rfl
  rw[e] at q;refine⟨_,rfl,rfl,_,rfl,?_⟩;refine ite2 (λd=>?_) (λd=>?_)
  ·have:i=0:=by
    have:=of_decide_eq_true d;have:=V.int.inj this;omega
   subst this;exact q
  ·have hi:i≠0:=by
    intro z;subst z;exact d (by simp)
   have hs:(i:Int) - 1=((i - 1:Nat):Int):=by omega
   refine⟨_,rfl,_,rfl,_,_,rfl,rfl,_,_,_,rfl,rfl,bigS hl,(by rw[hs];exact at_S nofun),rfl,?_⟩;have e2:(i==0||l[i - 1]? != some 92) = !decide (V.str ⟨#[l.getD (i - 1) 0]⟩=V.str (Str.ofString "\\")):=by
    have z0:(i==0)=false:=by simpa using hi
    rw[z0,Bool.false_or,getD_some (show i - 1 < l.length by omega),Bool.eq_iff_iff];constructor
    ·intro z;cases hd:decide (V.str ⟨#[l.getD (i - 1) 0]⟩=V.str (Str.ofString "\\")) with
     |false=>rfl
     |true=>
      have:=eqT (a:=[l.getD (i - 1) 0]) (b:=[92]) hd rfl rfl;simp only[List.cons.injEq,and_true] at this;rw[this] at z;simp at z
    ·intro z;have:=neT (a:=[l.getD (i - 1) 0]) (b:=[92]) z rfl rfl;simp only[bne_iff_ne,ne_eq,Option.some.injEq];intro y;exact this (by rw[y])
   rw[e2] at q;exact q
abbrev ng:Stmt:=top 24
def rY:FnScope ["text"] ["text"] (ad ng):=mkS
def pD (F:Fun K "words_of" "words_of" ng f fd):FnOk P w K mg base CX0 1 f fd ["text"] spWords:=by
 refine F.ok rY (λvs H Q E h=>?_) (λcdv A outer s H vs Q E hr h=>?_)
 ·obtain⟨l,rfl,_⟩:=h;rfl
 obtain⟨l,rfl,hl,k⟩:=h;refine am (xb1 (xret (xlc0 (own:=["word"])
  (xil (xm plainAttrs_str PySem.F.slot_str_split PySem.F.type_str_split kR (xv 0) (xac xstr xa0)))
  (λ_ _ _ _=>xgm (i:=0) (show (["word"]:List Str).Nodup by decide)) (λ_ _ _ _=>xq1 (az jM (xv 0) xstr (ai _))) (λ_ _ _ _=>(xv 0))))) ?_
 refine⟨_,rfl,rfl,S l,S [32],rfl,rfl,rfl,by rw[aH];omega,λp hp=>⟨p,rfl,⟨_,SqL.of aa⟩,?_⟩⟩;refine mM (λv => !decide (v = .str (S []))) id (SqL.of aa) ?_ ?_ ?_
 ·rw[jS,l0,l0];have:=gC 32 l;have hs:=sizeLine_eq;omega
 ·intro x hx H' sm C N hC hN;obtain⟨z,_,rfl⟩:=l16.mp hx;refine⟨(nfLe.refl _ _ _).set ∅ _,_,rfl,rfl,_,rfl,?_⟩;refine ite2 (λc=>⟨_,rfl,hC _ (Same.refl _) c⟩) (λc=>hN _ (Same.refl _) (Bool.eq_false_iff.mpr c))
 ·intro D H' hD sm e;refine k D H' ((ac hp _).trans sm) ((ac hp _).free hD) ?_;rw[e,jS];congr 2;unfold aR;rw[l58,l26,List.filter_map];congr 1;refine List.filter_congr λw _=>?_;show (!decide (V.str (S w)=V.str (S [])))=decide (w≠[]);by_cases h:w=[]
  ·subst h;simp
  ·have:V.str (S w)≠V.str (S []):=λq=>h (df (V.str.inj q));simp[h,this]
abbrev rZ:Stmt:=top 25
def r9 (F:Fun K "tidy" "tidy" rZ f fd)(Dx:Def P w K mg base 1 "words_of" ["text"] spWords):FnOk P w K mg base CX0 2 f fd ["text"] spTidy:=by
 have sc:FnScope ["text"] ["text"] (ad rZ):=mkS;refine F.oks sc λH Q hr h=>?_;obtain⟨l,rfl,hl,q⟩:=h;refine am (xb1 (xret (xm plainAttrs_str slot_str_join type_str_join b8 xstr (xac (xcd Dx hr (xac (xv 0) xa0)) xa0)))) ?_;refine⟨rfl,_,rfl,?_⟩;refine⟨l,rfl,hl,λr H' sm _ e=>?_⟩;refine⟨S [32],r,(aR l).map S,rfl,rfl,?_,?_,?_⟩
 ·exact SqL.of (by rw[e,ee])
 ·exact jf l hl
 rw[ca];exact q H' sm
abbrev nh:Stmt:=top 27
def pE (F:Fun K "split_cells" "split_cells" nh f fd)(T:Tx mg)(Dy:Def P w K mg base 1 "is_parting_bar" p4 spBar)(De:Def P w K mg base 2 "tidy" ["text"] spTidy):FnOk P w K mg base CX0 3 f fd ["text"] spCells:=by
 have sc:FnScope ["text","bars","texts","begin","bar"] ["text"] (ad nh):=mkS;refine F.oks sc λ{_ _ _ s _ _}H Q hr h=>?_;obtain⟨l,rfl,hl,q⟩:=h;refine am (xbc (xslc (i:=1) sc.nd rfl rfl (cl:=[("text",s.heap.objs.size+1)]) (own:=["place"]) (fr:=[0]) (N':=["place","text"]) rfl (lK (xs:=["text"]) ⟨rfl,trivial⟩ ⟨rfl,rfl, .inl rfl, .inl rfl,trivial⟩ ∅) ∅ ∅ (by with_unfolding_all rfl)
  (xir1 rfl T.q11 (xac (xcB ap T.u10 PySem.boot_len (xac (xv 0) xa0)) xa0))
  (λ_ _ _ _=>xgm (i:=0) (show (["place","text"]:List Str).Nodup by decide)) (λ_ _ _ _=>xq1 (aZ (xcd Dy hr (xac (xv 1) (xac (xv 0) xa0))))) (λ_ _ _ _=>(xv 0)))
  (xbc (xst (i:=2) sc.nd (xlst xa0))
  (xbc (xst (i:=3) sc.nd xint)
  (xbc (xfor PassesOwn.never rfl (xil (xop bN (xv 1) (xlst (xac (xcB ap T.u10 PySem.boot_len (xac (xv 0) xa0)) xa0)))) (xgm (i:=4) sc.nd)
  (xbc (bw (xmA (xv 2) (xac (u8 (xcd De hr (xac (xsl bh (xv 0) (xo1 (xv 3)) (xo1 (xv 4))) xa0)) ∅ ∅) xa0)))
  (xb1 (xst (i:=3) sc.nd (xop av (xv 4) xint)))))
  (xb1 (xret (xv 2))))))) ?_
 have hs:=sizeLine_eq;refine⟨_,rfl,_,rfl,bigS hl,_,rfl,by omega,by rw[aH];omega,?_⟩;refine o7 0 (pInt (bE l)) id (by rw[aH];omega) ?_ ?_
 ·intro i hi H' sm C N hC hN;have hi':i < l.length:=by rw[aH] at hi;omega
  refine⟨(nfLe.refl _ _ _).set ∅ _,_,rfl,_,rfl,l,i,by rw[Int.zero_add];rfl,hl,hi',_,rfl,?_⟩;refine ite2 (λc=>⟨_,rfl,hC _ (Same.refl _) ?_⟩) (λc=>hN _ (Same.refl _) ?_)
  ·show bE l (0+(i:Int)).toNat=true;rw[show (0+(i:Int)).toNat=i by omega];exact c
  ·show bE l (0+(i:Int)).toNat=false;rw[show (0+(i:Int)).toNat=i by omega];exact Bool.eq_false_iff.mpr c
 intro B H1 hB s1 eB;rw[show (((S l).length:Nat):Int).toNat=l.length by rw[aH];omega,lO] at eB;refine⟨big ∅,λr hr1=>?_⟩;have hBr:B≠r:=(nq hr1 eB);refine⟨_,rfl,_,rfl,_,rfl,bigS hl,bg1,λt ht=>?_⟩;have htr:r≠t:=λe=>by rw[<- e,aa] at ht;cases ht
 have hBt:B≠t:=λe=>by rw[<- e,af hBr,eB] at ht;cases ht
 let bars:=(List.range l.length).filter (bE l)
 have hb:=pp l;refine⟨B,t,_,_,rfl,rfl,by rw[af hBt,af hBr];exact eB,aa,?_,λL hL=>⟨L,rfl,⟨_,SqL.of aa⟩,?_⟩⟩
 ·rw[l0];show ((List.range l.length).filter (bE l)).length+1<=sizeLine;omega
 have hLr:L≠r:=λe=>by rw[e,af htr,aa] at hL;cases hL
 have hLt:L≠t:=(nq aa hL);have ext:((bars.map λ(i:Nat)=>V.int i)++[V.int (S l).length])=(bars++[l.length]).map λ(i:Nat)=>V.int i:=by rw[aH];simp
 rw[ext]
 let ps:=bars++[l.length]
 have hps:∀(i p:Nat),ps[i]? = some p->p<=l.length:=by
  intro i p h;rcases l20.mp (l15 h) with h |h
  ·exact Nat.le_of_lt (l38.mp (l64.mp h).1)
  ·simp at h;omega
 have hraw:bY l 0 ps=bi l:=jT l;refine cC (xs := ps.map fun (i : Nat) => V.int i) (λi σ H'=>∃x,σ=[some (vS l),some (.ref B),some (.ref r),some (.int (cR 0 ps i)),x]/\Same H H'/\H' L=some (.lst (ps.map λ(i:Nat)=>V.int i)) ∧
  H' r=some (.lst (((bi l).take i).map λc=>vS (unesc (cy c))))) ⟨none,rfl,?_,aa,?_⟩ ?_ ?_ ?_
 ·refine(s1.trans ?_).trans (ac hL _);exact(ac hr1 _).trans (ac ht _)
 ·rw[af (Ne.symm hLr),af htr,aa];simp
 ·rintro i σ H' _ ⟨x,_,_,h,_⟩;exact SqL.of h
 ·rintro i x σ H' hx ⟨y,rfl,s2,eL,er⟩;rw[List.getElem?_map] at hx;cases hp:ps[i]? with
  |none=>rw[hp] at hx;cases hx
  |some p=>
  rw[hp] at hx;cases hx;have hpl:=hps i p hp;have w5:=fP l ps 0 i p hp;rw[hraw] at w5;have hbe:cR 0 ps i<=l.length:=pq hp;refine⟨_,rfl, .inl ⟨rfl,_,SqL.of er⟩,_,rfl,_,rfl,_,rfl,_,rfl,_,rfl,_,rfl,bigS hl,(l.drop (cR 0 ps i)).take (p - cR 0 ps i),?_,?_,λH3 s3=>⟨_,rfl,?_,?_⟩⟩
  ·rw[fH,rR l _ _ hpl hbe];rfl
  ·rw[l21,l9];omega
  ·rw[aH];have:=g6 ((l.drop (cR 0 ps i)).take (p - cR 0 ps i));rw[l21,l9] at this;omega
  have er3:=s3 _ _ er;refine⟨r,_,_,rfl,rfl,er3,?_,?_⟩
  ·rw[l0,l21];have:=je l;omega
  refine⟨_,rfl,_,_,rfl,rfl,some (.int (p:Int)),?_,?_,?_,?_⟩
  ·rw[lN hp];rfl
  ·exact ak (s1.free hr1) (s2.trans s3)
  ·rw[af hLr];exact s3 _ _ eL
  ·rw[aa,<- jg _ _ _ _ w5];congr 4;exact congrArg V.str (gZ _)
 ·rintro σ H' ⟨x,rfl,s2,eL,er⟩;refine⟨_,rfl,q r H' s2 (s1.free hr1) ?_⟩;rw[er,mY,l26,l35 (by rw[<- hraw,fO,l0];exact l5 _)];rfl
abbrev se:Stmt:=top 22
def sh (F:Fun K "is_name" "is_name" se f fd)(T:Tx mg):FnOk P w K mg base CX0 1 f fd ["thing"] spName:=by
 have sc:FnScope ["thing"] ["thing"] (ad se):=mkS;refine F.oks sc λH Q hr h=>?_;obtain⟨l,rfl,hl,q⟩:=h;refine am (xbc (xif (cQ (aZ (xcB gV T.q10 rfl (xac (xv 0) (xac (xty (T:="str") T.u11 rfl) xa0))))) (xb1 (xret xbl)) xb0)
  (xbc (xif (xor (az db (xcB ap T.u10 PySem.boot_len (xac (xv 0) xa0)) xint (ai _)) (xor1 (az rk (xcB ap T.u10 PySem.boot_len (xac (xv 0) xa0)) (xgI T.g11) (ai _)))).xt (xb1 (xret xbl)) xb0)
  (xb1 (xret (xcB (kS rfl) T.z11 rfl (xac (xlc0 (own:=["sign"])
  (xis (xv 0))
  (λ_ _ _ _=>xgm (i:=0) (show (["sign"]:List Str).Nodup by decide)) (λ_ _ _ _=>xq0) (λ_ _ _ _=>(xcmp fu (xv 0) (xgS T.g12) (by with_unfolding_all rfl)))) xa0)))))) ?_
 refine⟨_,rfl,_,_,_,true,rfl, .str _,gW _ _,_,rfl,?_⟩;refine ite2 (λc=>absurd c ∅) (λ_=>?_);refine⟨_,rfl,_,rfl,bigS hl,_,_,rfl,rfl,_,rfl,?_⟩;refine ite2 (λc=>?_) (λc=>?_)
 ·refine ite2 (λ_=>?_) (λc=>absurd rfl c);have e:aE l=false:=by
   have:=of_decide_eq_true c;rw[aH] at this;unfold aE;rw[decide_eq_false (show ¬ 1<=l.length by omega)];rfl
  rw[e] at q;exact q H (Same.refl H)
 refine⟨_,rfl,_,rfl,bigS hl,_,_,rfl,rfl,_,rfl,?_⟩;have h1:1<=l.length:=by
  have:=of_decide_eq_false (Bool.eq_false_iff.mpr c);rw[aH] at this;omega
 refine ite2 (λd=>?_) (λd=>?_)
 ·have e:aE l=false:=by
   have:=of_decide_eq_true d;rw[aH] at this;unfold aE;rw[decide_eq_false (show ¬ l.length<=12 by omega),Bool.and_false];rfl
  rw[e] at q;exact q H (Same.refl H)
 have h2:l.length<=12:=by
  have:=of_decide_eq_false (Bool.eq_false_iff.mpr d);rw[aH] at this;omega
 refine⟨_,rfl,_,rfl,?_⟩;refine qy (λ_=>true) m7 (bigS hl) ?_ ?_
 ·intro c hc H' sm C N hC hN;refine⟨(nfLe.refl _ _ _).set ∅ _,?_⟩;refine⟨_,rfl,_,_,rfl,rfl,?_⟩;have:=hC H' (Same.refl H') rfl;have e:m7 (.str ⟨#[c]⟩) = .bl (!(Builtin.Str.occurrences (S nameSigns) (S [c]) 0 (S nameSigns).length 1).isEmpty):=by
   rw[dZ];show V.bl ([c].all nameSigns.contains)=_;simp
  rw[e] at this;exact this
 intro D H' hD sm eD;refine⟨D,l.map nameSigns.contains,rfl,SqL.of ?_,?_⟩
 ·rw[eD,bD,List.filter_eq_self.mpr (λ_ _=>rfl),l26,l26];congr 2;refine l42 λc _=>?_;show V.bl ([c].all nameSigns.contains)=_;simp
 ·have e:aE l=(l.map nameSigns.contains).all id:=by
   unfold aE;rw[decide_eq_true h1,decide_eq_true h2,List.all_map];simp
  rw[<- e];exact q H' sm
abbrev ke:Stmt:=top 23
def ni (F:Fun K "name_of" "name_of" ke f fd)(T:Tx mg)(Df:Def P w K mg base 1 "is_name" ["thing"] spName):FnOk P w K mg base CX0 2 f fd ["thing"] spNameOf:=by
 have sc:FnScope ["thing"] ["thing"] (ad ke):=mkS;refine F.oks sc λH Q hr h=>?_;obtain⟨l,rfl,hl,hn,q⟩:=h;refine am (xbc (xif (cQ (aZ (xcd Df hr (xac (xv 0) xa0)))) (xb1 mN) xb0)
  (xb1 (xret (xm0 plainAttrs_str PySem.F.slot_str_lower PySem.F.type_str_lower o5 (xv 0))))) ?_
 refine⟨_,rfl,l,rfl,hl,λH' sm=>⟨_,rfl,?_⟩⟩;refine ite2 (λc=>by rw[hn] at c;cases c) (λ_=>?_);refine⟨_,rfl,rfl,_,rfl,rfl,by rw[aH];exact hl,?_⟩;rw[rO l (pA hn)];exact q H' sm
abbrev si:Stmt:=top 35
def sj (F:Fun K "rest_of_quote" "rest_of_quote" si f fd):FnOk P w K mg base CX0 1 f fd ["row"] spRest:=by
 have sc:FnScope ["row"] ["row"] (ad si):=mkS;refine F.oks sc λH Q hr h=>?_;obtain⟨l,rfl,hl,q⟩:=h;refine am (xb1 (xret (xifE (aZ (xm plainAttrs_str slot_str_startswith type_str_startswith aP (xv 0) (xac xstr xa0))) (xsl bh (xv 0) (xo1 xint) xo0) (xsl bh (xv 0) (xo1 xint) xo0)))) ?_;refine⟨_,rfl,rfl,_,_,rfl,rfl,bigS hl,_,rfl,?_⟩;have e:=ff l [62,32];refine ite2 (λc=>?_) (λc=>?_)
 ·have c':[62,32].isPrefixOf l=true:=e.symm.trans c;refine⟨_,rfl,_,rfl,_,rfl,bigS hl,?_⟩;rw[show gj l=l.drop 2 by unfold gj;rw[if_pos c']] at q;rw[show Txt.slice (S l) (some 2) none=_ from c0 l 2];exact q
 ·have c':¬ [62,32].isPrefixOf l=true:=λz=>c (e.trans z);refine⟨_,rfl,_,rfl,_,rfl,bigS hl,?_⟩;rw[show gj l=l.drop 1 by unfold gj;rw[if_neg c']] at q;rw[show Txt.slice (S l) (some 1) none=_ from c0 l 1];exact q
abbrev sk:Stmt:=top 36
def sn (F:Fun K "heading_level" "heading_level" sk f fd)(T:Tx mg):FnOk P w K mg base CX0 1 f fd ["bare"] spHead:=by
 have sc:FnScope ["bare","level"] ["bare"] (ad sk):=mkS;refine F.oks sc λH Q hr h=>?_;obtain⟨l,rfl,hl,q⟩:=h;refine am (xbc (xst (i:=1) sc.nd (xop bM (xcB ap T.u10 PySem.boot_len (xac (xv 0) xa0)) (xcB ap T.u10 PySem.boot_len (xac (xm plainAttrs_str PySem.F.slot_str_lstrip PySem.F.type_str_lstrip i8 (xv 0) (xac xstr xa0)) xa0))))
  (xbc (xif (xor (az rk (xv 1) (xgI T.g16) (ai _)) (xor1 (cQ (aZ (xm plainAttrs_str slot_str_startswith type_str_startswith aP (xsl bh (xv 0) (xo1 (xv 1)) xo0) (xac xstr xa0)))))).xt (xb1 (xret xint)) xb0)
  (xb1 (xret (xv 1))))) ?_
 have hdl:(l.dropWhile ([61]:List Nat).contains).length<=l.length:=by have:=di ([61]:List Nat).contains l;omega
 have elv:((S l).length:Int) - ((Txt.lstripChars (S l) (Str.ofString "=")).length:Nat)=((eQ l:Nat):Int):=by
  rw[show Txt.lstripChars (S l) (Str.ofString "=")=_ from gX l [61],aH,aH];have:=di ([61]:List Nat).contains l;unfold eQ;omega
 refine⟨_,rfl,_,rfl,bigS hl,_,rfl,rfl,_,_,rfl,rfl,bigS hl,_,rfl,?_,_,_,rfl,rfl,?_⟩
 ·rw[show Txt.lstripChars (S l) (Str.ofString "=")=_ from gX l [61]];exact bigS nofun
 try dsimp only
 rw[elv];refine⟨_,rfl,_,_,rfl,rfl,_,rfl,?_⟩;refine ite2 (λc=>?_) (λc=>?_)
 ·refine ite2 (λ_=>?_) (λc=>absurd rfl c);have:=of_decide_eq_true c;rw[show cZ l=0 by unfold cZ;rw[if_pos (.inl nofun)]] at q;exact q
 have c':=of_decide_eq_false (Bool.eq_false_iff.mpr c);refine⟨_,rfl,_,rfl,_,rfl,_,rfl,bigS hl,rfl,_,_,rfl,rfl,?_,_,rfl,?_⟩
 ·rw[c0];exact bigS (by rw[l9];omega)
 have e:Txt.startswith (Txt.slice (S l) (some ((eQ l:Nat):Int)) none) (Str.ofString " ")=[32].isPrefixOf (l.drop (eQ l)):=by
  rw[c0];exact ff _ [32]
 rw[e];refine ite2 (λd=>?_) (λd=>?_)
 ·rw[show cZ l=0 by unfold cZ;rw[if_pos (.inr (λz=>by rw[z] at d;cases d))]] at q;exact q
 ·have e3:cZ l=eQ l:=by
   unfold cZ;rw[if_neg];rintro(h |h)
   ·omega
   ·exact d (by rw[Bool.eq_false_iff.mpr h];rfl)
  rw[e3] at q;exact⟨_,rfl,q⟩
abbrev sIsC:Stmt:=top 37
def uy (F:Fun K "is_cells" "is_cells" sIsC f fd)(T:Tx mg)(Dy:Def P w K mg base 1 "is_parting_bar" p4 spBar):FnOk P w K mg base CX0 2 f fd ["bare"] spIsC:=by
 have sc:FnScope ["bare"] ["bare"] (ad sIsC):=mkS;refine F.oks sc λH Q hr h=>?_;obtain⟨l,rfl,hl,q⟩:=h;refine am (xb1 (xret (pd (xcmp mx (xcB ap T.u10 PySem.boot_len (xac (xv 0) xa0)) xint (ai _)) (pd (xm plainAttrs_str slot_str_startswith type_str_startswith aP (xv 0) (xac xstr xa0)) (xone (xcd Dy hr (xac (xv 0) (xac (xop bM (xcB ap T.u10 PySem.boot_len (xac (xv 0) xa0)) xint) xa0)))))))) ?_;refine⟨_,rfl,_,rfl,bigS hl,_,_,rfl,rfl,_,rfl,?_⟩;refine ite2 (λc=>?_) (λc=>?_)
 ·have c1:=of_decide_eq_true c;rw[aH] at c1;have h2:2<=l.length:=by omega
  refine⟨_,rfl,rfl,_,_,rfl,rfl,bigS hl,_,rfl,?_⟩;have e:=ff l [124];refine ite2 (λd=>?_) (λd=>?_)
  ·have d':[124].isPrefixOf l=true:=e.symm.trans d;refine⟨_,rfl,_,rfl,_,rfl,bigS hl,_,_,rfl,rfl,l,l.length - 1,?_,hl,by omega,?_⟩
   ·rw[aH];show [vS l,V.int ((l.length:Int) - 1)]=[vS l,V.int ((l.length - 1:Nat):Int)];rw[show (l.length:Int) - 1=((l.length - 1:Nat):Int) by omega]
   ·rw[show bq l=bE l (l.length - 1) by unfold bq;rw[decide_eq_true h2,d',Bool.true_and,Bool.true_and]] at q;exact q
  ·have d':[124].isPrefixOf l=false:=e.symm.trans (Bool.eq_false_iff.mpr d);rw[show bq l=false by unfold bq;rw[d',Bool.and_false];rfl] at q;exact q
 ·have c1:=of_decide_eq_false (Bool.eq_false_iff.mpr c);rw[aH] at c1;rw[show bq l=false by unfold bq;rw[decide_eq_false (show ¬ 2<=l.length by omega)];rfl] at q;exact q
abbrev sDef:Stmt:=top 38
def uz (F:Fun K "definition_of" "definition_of" sDef f fd)(T:Tx mg)(Dx:Def P w K mg base 1 "words_of" ["text"] spWords)(Df:Def P w K mg base 1 "is_name" ["thing"] spName)
  (Dh:Def P w K mg base 2 "name_of" ["thing"] spNameOf):FnOk P w K mg base CX0 3 f fd ["bare"] (spDef K):=by
 have sc:FnScope ["bare","place","words"] ["bare"] (ad sDef):=mkS;refine F.oks sc λ{_ _ _ s _ _}H Q hr h=>?_;obtain⟨l,rfl,hl,q⟩:=h;refine am (xbc (xst (i:=1) sc.nd (xm plainAttrs_str slot_str_find type_str_find rK (xv 0) (xac (xgS T.q13) xa0)))
  (xbc (xif (xor (az db (xv 1) xint (ai _)) (xor1 (cQ (aZ (xm plainAttrs_str slot_str_startswith type_str_startswith aP (xv 0) (xac xstr xa0)))))).xt (xb1 (xret xnon)) xb0)
  (xbc (xst (i:=2) sc.nd (xcd Dx hr (xac (xsl bh (xv 0) (xo1 (xop av (xv 1) (xcB ap T.u10 PySem.boot_len (xac (xgS T.q13) xa0)))) xo0) xa0)))
  (xbc (xif (xand (aZ (xm plainAttrs_str slot_str_startswith type_str_startswith aP (xv 0) (xac xstr xa0))) (jR (aZ (xcd Df hr (xac (xsl bh (xv 0) (xo1 xint) (xo1 (xv 1))) xa0))))).xt (xb1 (xret (xtup (xac xstr (xac (xcd Dh hr (xac (xsl bh (xv 0) (xo1 xint) (xo1 (xv 1))) xa0)) (xac (xm plainAttrs_str slot_str_join type_str_join b8 xstr (xac (xv 2) xa0)) xa0)))))) xb0)
  (xbc (xif (xand (aZ (xcd Df hr (xac (xsl bh (xv 0) (xo1 xint) (xo1 (xv 1))) xa0))) (jR (az be (xcB aj T.u10 PySem.boot_len (xac (xv 2) xa0)) xint (ai _)))).xt (xb1 (xret (xtup (xac xstr (xac (xcd Dh hr (xac (xsl bh (xv 0) (xo1 xint) (xo1 (xv 1))) xa0)) (xac (xix aT (xv 2) xint (λ_ _=>rfl)) xa0)))))) xb0)
  (xb1 (xret xnon))))))) ?_
 refine⟨_,rfl,rfl,_,_,rfl,rfl,bigS hl,?_⟩;have ef:=uq l [93,58,32];cases hf:gi [93,58,32] l with
 |none=>
  rw[hf] at ef;refine⟨_,rfl,_,_,rfl,rfl,_,rfl,?_⟩;refine ite2 (λ_=>?_) (λc=>?_)
  ·refine ite2 (λ_=>?_) (λc=>absurd rfl c);exact q .non H (Same.refl H) (by unfold defC;rw[hf];exact rfl)
  ·exfalso;rw[ef] at c;exact c ∅
 |some p=>
 rw[hf] at ef;dsimp only at ef ⊢;rw[ef];have hp0:(0:Int)<=(p:Int):=Int.natCast_nonneg p;dsimp only[tAsg.K0,tDrop.K0,Ends.to_nx,Ends.to_rt,tSeq,al];refine s_if _ (t_or false (![91].isPrefixOf l) (λR h=>⟨_,rfl,_,_,rfl,rfl,_,rfl,?_⟩) (λ_ H1 s1=>gk _ (dj l [91] hl rfl (λR' h=>⟨_,rfl,h⟩)))) (λH0 s0 c=>?_) (λH0 s0 c=>?_)
 ·rw[show decide ((p:Int) < 0)=false from decide_eq_false nofun];exact h H (Same.refl H)
 ·have c':¬ [91].isPrefixOf l=true:=λz=>by rw[z] at c;cases c
  exact q .non H0 s0 (by unfold defC;rw[hf];simp only[];rw[if_pos c'];exact rfl)
 have h1:[91].isPrefixOf l=true:=by
  cases z:[91].isPrefixOf l with
  |true=>rfl
  |false=>rw[z] at c;cases c
 refine⟨_,rfl,_,rfl,_,rfl,big ∅,_,_,rfl,rfl,_,rfl,_,rfl,bigS hl,l.drop (p+3),?_,?_,λW H1 s1 hW eW=>?_⟩
 ·show [V.str (Txt.slice (S l) (some ((p:Int)+3)) none)]=_;rw[show (p:Int)+3=((p+3:Nat):Int) by omega,c0]
 ·rw[l9];omega
 have hlen2:((l.drop 2).take (p - 2)).length<=1000000:=by rw[l21,l9];omega
 have hlen1:((l.drop 1).take (p - 1)).length<=1000000:=by rw[l21,l9];omega
 have e2:[V.str (Txt.slice (S l) (some 2) (some (p:Int)))]=[vS ((l.drop 2).take (p - 2))]:=by rw[show Txt.slice (S l) (some 2) (some (p:Int))=_ from qA l 2 p]
 have e1:[V.str (Txt.slice (S l) (some 1) (some (p:Int)))]=[vS ((l.drop 1).take (p - 1))]:=by rw[show Txt.slice (S l) (some 1) (some (p:Int))=_ from qA l 1 p]
 have hws:(l.drop (p+3)).length<=1000000:=by rw[l9];omega
 dsimp only[tAsg.K0,tDrop.K0,Ends.to_nx,Ends.to_rt,tSeq,al];refine s_if _ (eZ ([91,94].isPrefixOf l) (aE ((l.drop 2).take (p - 2))) (dj l [91,94] hl rfl (λR' h=>⟨_,rfl,h⟩)) (λ_ H2 s2 R h=>?_)) (λH2 s2 c=>?_) (λH2 s2 c=>?_)
 ·exact⟨_,rfl,_,rfl,_,rfl,_,rfl,_,rfl,bigS hl,_,e2,hlen2,λH' s'=>⟨_,rfl,h H' s'⟩⟩
 ·rw[Bool.and_eq_true] at c;refine⟨_,rfl,_,rfl,_,rfl,_,rfl,_,rfl,bigS hl,_,e2,hlen2,c.2,λH3 s3=>⟨rfl,_,rfl,S [32],W,(aR (l.drop (p+3))).map S,rfl,rfl,?_,jf _ hws,bg3,λr hr3=>?_⟩⟩
  ·exact SqL.of (by rw[(s2.trans s3) _ _ eW,ee])
  ·refine q _ _ (((s0.trans s1).trans (s2.trans s3)).trans (ac hr3 _)) ?_;unfold defC;rw[hf];simp only[];rw[if_neg (by rw[h1];simp),if_pos c];refine⟨r,rfl,?_⟩;show upd _ _ _ _=_;rw[aa,ca];rfl
 dsimp only[Ends.to_nx,Ends.to_rt,tSeq,gR];have hsq:∀H',Same H1 H'->SqL K H' W ((aR (l.drop (p+3))).map vS):=λH' s'=>SqL.of (s' _ _ eW);refine s_if _ (eZ (aE ((l.drop 1).take (p - 1))) (decide ((aR (l.drop (p+3))).length=1)) (λR h=>?_) (λ_ H3 s3 R h=>?_)) (λH3 s3 d=>?_) (λH3 s3 d=>?_)
 ·exact⟨_,rfl,_,rfl,_,rfl,_,rfl,_,rfl,bigS hl,_,e1,hlen1,λH' s'=>⟨_,rfl,h H' s'⟩⟩
 ·refine⟨_,rfl,_,_,rfl, .inl (hsq _ (s2.trans s3)),rfl,_,rfl,?_⟩;rw [l0,jL,show ((((aR (l.drop (p+3))).length:Nat):Int)==1)=decide ((aR (l.drop (p+3))).length=1) by
   rw[Bool.eq_iff_iff];simp;omega]
  exact h H3 (Same.refl H3)
 ·rw[Bool.and_eq_true] at d;obtain⟨d1,d2⟩:=d;have d2:=of_decide_eq_true d2;obtain⟨x,hx⟩:=List.length_eq_one_iff.mp d2;refine⟨_,rfl,_,rfl,_,rfl,_,rfl,_,rfl,bigS hl,_,e1,hlen1,d1,λH4 s4=>⟨_,rfl,W,_,0,vS x,rfl,rfl,hsq _ ((s2.trans s3).trans s4),by rw[hx];rfl,bg3,λr hr3=>?_⟩⟩;refine q _ _ (((s0.trans s1).trans ((s2.trans s3).trans s4)).trans (ac hr3 _)) ?_;unfold defC;rw[hf];simp only[];rw[if_neg (by rw[h1];simp),if_neg (by intro z;rw[z.1,z.2] at c;cases c),if_pos ⟨d1,d2⟩];refine⟨r,rfl,?_⟩;show upd _ _ _ _=_;rw[aa,hx];rfl
 ·refine q _ _ ((s0.trans s1).trans (s2.trans s3)) ?_;unfold defC;rw[hf];simp only[];rw[if_neg (by rw[h1];simp),if_neg (by intro z;rw[z.1,z.2] at c;cases c),if_neg (by intro z;rw[z.1,decide_eq_true z.2] at d;cases d)];rfl
abbrev so:Stmt:=top 39
def sq (F:Fun K "item_or_plain" "item_or_plain" so f fd)(T:Tx mg)(De:Def P w K mg base 2 "tidy" ["text"] spTidy):FnOk P w K mg base CX0 3 f fd ["bare"] (spItem K):=by
 have sc:FnScope ["bare","body","far"] ["bare"] (ad so):=mkS;refine F.oks sc λH Q hr h=>?_;obtain⟨l,rfl,hl,q⟩:=h;refine am (xbc (xst (i:=1) sc.nd (xm plainAttrs_str PySem.F.slot_str_lstrip PySem.F.type_str_lstrip i8 (xv 0) (xac xstr xa0)))
  (xbc (xst (i:=2) sc.nd (xop bM (xcB ap T.u10 PySem.boot_len (xac (xv 0) xa0)) (xcB ap T.u10 PySem.boot_len (xac (xv 1) xa0))))
  (xbc (xif (xor (aZ (xm plainAttrs_str slot_str_startswith type_str_startswith aP (xv 1) (xac xstr xa0))) (xor1 (aZ (xm plainAttrs_str slot_str_startswith type_str_startswith aP (xv 1) (xac xstr xa0))))).xt (xb1 (xret (xtup (xac xstr (xac (xv 2) (xac (xix de (xv 1) xint (λ_ _=>rfl)) (xac (xcd De hr (xac (xsl bh (xv 1) (xo1 xint) xo0) xa0)) xa0))))))) xb0)
  (xb1 (xret (xtup (xac xstr (xac (xv 2) (xac (xcd De hr (xac (xv 1) xa0)) xa0))))))))) ?_
 refine⟨_,rfl,rfl,_,_,rfl,rfl,bigS hl,?_⟩
 try dsimp only
 rw[show Txt.lstripChars (S l) (Str.ofString " ")=_ from gX l [32]];have hsplit:=di ([32]:List Nat).contains l;obtain⟨body,v7⟩:∃body,body=l.dropWhile ([32]:List Nat).contains:=⟨_,rfl⟩;rw[<- v7] at hsplit ⊢;have hb:body.length<=1000000:=by omega
 refine⟨_,rfl,_,rfl,bigS hl,_,rfl,_,rfl,bigS hb,_,_,rfl,rfl,?_⟩;dsimp only[tAsg.K0,tDrop.K0,Ends.to_nx,Ends.to_rt,tSeq,al];rw[aH,aH,show (l.length:Int) - (body.length:Int)=((l.length - body.length:Nat):Int) by omega];refine s_if _ (t_or ([45,32].isPrefixOf body) ([43,32].isPrefixOf body) (dj body [45,32] hb rfl (λR' h=>⟨_,rfl,h⟩)) (λ_ H1 s1=>dj body [43,32] hb rfl (λR' h=>⟨_,rfl,h⟩))) (λH0 s0 c=>?_) (λH0 s0 c=>?_)
 ·have c':[45,32].isPrefixOf body=true ∨ [43,32].isPrefixOf body=true:=by rwa [Bool.or_eq_true] at c
  have h1:0 < body.length:=by
   rcases c' with c' |c' <;> rw[pre2] at c' <;> exact(List.getElem?_eq_some_iff.mp c'.1).1
  refine ⟨_,rfl,_,rfl,_,_,_,rfl,rfl,bigS hb,at_S h1,_,rfl,_,rfl,_,rfl,bigS hb,body.drop 2,by rw[show Txt.slice (S body) (some 2) none=_ from c0 body 2];rfl,by rw[l9];omega,
   λH1 s1=>⟨bg4,λr hr1=>?_⟩⟩
  refine q _ _ ((s0.trans s1).trans (ac hr1 _)) ?_;unfold fK;simp only[];rw[<- v7,if_pos c'];show upd _ _ _ _=_;rw[aa];have e0:body.headD 0=body.getD 0 0:=by cases body <;> rfl
  rw[e0];rfl
 ·have c':¬ ([45,32].isPrefixOf body=true ∨ [43,32].isPrefixOf body=true):=by
   intro z;rw[Bool.or_eq_false_iff] at c;rcases z with z |z
   ·rw[z] at c;exact Bool.noConfusion c.1
   ·rw[z] at c;exact Bool.noConfusion c.2
  refine⟨_,rfl,_,rfl,body,rfl,hb,λH1 s1=>⟨bg3,λr hr1=>?_⟩⟩;refine q _ _ ((s0.trans s1).trans (ac hr1 _)) ?_;unfold fK;simp only[];rw[<- v7,if_neg c'];show upd _ _ _ _=_;rw[aa];rfl
abbrev sr:Stmt:=top 34
def ss (F:Fun K "sort_of" "sort_of" sr f fd)(T:Tx mg)(De:Def P w K mg base 2 "tidy" ["text"] spTidy)(DI:Def P w K mg base 1 "rest_of_quote" ["row"] spRest)(DJ:Def P w K mg base 1 "heading_level" ["bare"] spHead)
  (DK:Def P w K mg base 2 "is_cells" ["bare"] spIsC)(DL:Def P w K mg base 3 "split_cells" ["text"] spCells)(DM:Def P w K mg base 3 "definition_of" ["bare"] (spDef K))(DN:Def P w K mg base 3 "item_or_plain" ["bare"] (spItem K)):
  FnOk P w K mg base CX0 4 f fd ["row"] (spSort K):=by
 have sc:FnScope ["row","bare","level","definition"] ["row"] (ad sr):=mkS;refine F.oks sc λ{_ _ _ s _ _}H Q hr h=>?_;obtain⟨l,rfl,hl,q⟩:=h;refine am (xbc (xst (i:=1) sc.nd (xm plainAttrs_str PySem.F.slot_str_rstrip PySem.F.type_str_rstrip i7 (xv 0) (xac xstr xa0)))
  (xbc (xif (az be (xv 1) xstr (ai _)) (xb1 (xret (xtup (xac xstr xa0)))) xb0)
  (xbc (xif (aZ (xm plainAttrs_str slot_str_startswith type_str_startswith aP (xv 1) (xac xstr xa0))) (xb1 (xret (xtup (xac xstr (xac (xcd DI hr (xac (xv 0) xa0)) xa0))))) xb0)
  (xbc (xif (az be (xv 1) (xgS T.z12) (ai _)) (xb1 (xret (xtup (xac xstr xa0)))) xb0)
  (xbc (xst (i:=2) sc.nd (xcd DJ hr (xac (xv 1) xa0)))
  (xbc (xif (az rk (xv 2) xint (ai _)) (xb1 (xret (xtup (xac xstr (xac (xv 2) (xac (xcd De hr (xac (xsl bh (xv 1) (xo1 (xv 2)) xo0) xa0)) xa0)))))) xb0)
  (xbc (xif (aZ (xcd DK hr (xac (xv 1) xa0))) (xb1 (xret (xtup (xac xstr (xac (xcd DL hr (xac (xsl bh (xv 1) (xo1 xint) (xo1 (xun gw xint))) xa0)) xa0))))) xb0)
  (xbc (xst (i:=3) sc.nd (xcd DM hr (xac (xv 1) xa0)))
  (xbc (xif (az jN (xv 3) xnon (ai _)) (xb1 (xret (xv 3))) xb0)
  (xb1 (xret (xcd DN hr (xac (xv 1) xa0))))))))))))) ?_
 refine⟨_,rfl,rfl,_,_,rfl,rfl,bigS hl,?_⟩;dsimp only[tAsg.K0,tDrop.K0,Ends.to_nx,Ends.to_rt,tSeq,al];rw[show Txt.rstripChars (S l) (Str.ofString " ")=S (bc l) from kU l [32]];have hbl:=kW l;obtain⟨b,hb⟩:∃b,b=bc l:=⟨_,rfl⟩;rw[<- hb] at hbl ⊢;have hbl:b.length<=1000000:=by omega
 have mk:∀(r:Srt) ,aV l=r->∀p H',Same H H'->SrtAt K H' p r->Q (.ref p) H':=λr e p H' s' h=>q p H' s' (by rw[e];exact h);refine s_if _ (t_eq b [] rfl (λR' h=>⟨_,rfl,h⟩)) (λH0 s0 c=>?_) (λH0 s0 c=>?_)
 ·have c:=of_decide_eq_true c;refine⟨bg1,λr hr1=>mk .empty ?_ _ _ (s0.trans (ac hr1 _)) aa⟩;unfold aV;simp only[];rw[<- hb,if_pos c]
 have c1:=of_decide_eq_false c;dsimp only[Ends.to_nx,Ends.to_rt,gR];refine s_if _ (dj b [62] hbl rfl (λR' h=>⟨_,rfl,h⟩)) (λH1 s1 c=>?_) (λH1 s1 c2=>?_)
 ·refine⟨_,rfl,l,rfl,hl,bg2,λr hr1=>mk (.quote (gj l)) ?_ _ _ ((s0.trans s1).trans (ac hr1 _)) aa⟩;unfold aV;simp only[];rw[<- hb,if_neg c1,if_pos c]
 have c2:=Bool.eq_false_iff.mp c2;dsimp only[Ends.to_nx,Ends.to_rt,gR];refine s_if _ (t_eq b [126,126,126] rfl (λR' h=>⟨_,rfl,h⟩)) (λH2 s2 c=>?_) (λH2 s2 c3=>?_)
 ·have c:=of_decide_eq_true c;refine⟨bg1,λr hr1=>mk .fence ?_ _ _ (((s0.trans s1).trans s2).trans (ac hr1 _)) aa⟩;unfold aV;simp only[];rw[<- hb,if_neg c1,if_neg c2,if_pos c]
 have c3:=of_decide_eq_false c3;dsimp only[Ends.to_nx,Ends.to_rt,gR];have s02:=(s0.trans s1).trans s2;refine⟨_,rfl,b,rfl,hbl,?_⟩;refine⟨_,rfl,_,_,rfl,rfl,_,rfl,?_⟩;refine ite2 (λc=>?_) (λc4=>?_)
 ·have c:=of_decide_eq_true c;refine⟨_,rfl,_,rfl,_,rfl,_,rfl,_,rfl,bigS hbl,b.drop (cZ b),by rw[c0];rfl,by rw[l9];omega,λH3 s3=>⟨bg3,λr hr1=>mk (.heading (cZ b) (cy (b.drop (cZ b)))) ?_ _ _ ((s02.trans s3).trans (ac hr1 _)) aa⟩⟩;unfold aV;simp only[];rw[<- hb,if_neg c1,if_neg c2,if_neg c3,if_pos nofun]
 have c4:¬ cZ b > 0:=by
  have:=of_decide_eq_false (Bool.eq_false_iff.mpr c4);omega
 dsimp only[Ends.to_nx,Ends.to_rt,gR];refine⟨_,rfl,b,rfl,hbl,_,rfl,?_⟩;refine ite2 (λc=>?_) (λc5=>?_)
 ·have h2:2<=b.length:=by
   unfold bq at c;rw[Bool.and_eq_true,Bool.and_eq_true] at c;exact of_decide_eq_true c.1.1
  refine⟨_,rfl,_,rfl,_,rfl,_,rfl,_,rfl,bigS hbl,(b.drop 1).take (b.length - 2),?_,by rw[l21,l9];omega,λr H3 s3 hr3 er=>⟨bg2,λp hp=>?_⟩⟩
  ·show [V.str (Txt.slice (S b) (some 1) (some (-1)))]=_;rw[fH,m6 b h2]
  ·have hrp:r≠p:=λz=>by rw[<- z,er] at hp;cases hp
   refine mk (.cells (eM ((b.drop 1).take (b.length - 2)))) ?_ _ _ ((s02.trans s3).trans (ac hp _)) ⟨r,aa,by rw[af hrp];exact er⟩;unfold aV;simp only[];rw[<- hb,if_neg c1,if_neg c2,if_neg c3,if_neg c4,if_pos c]
 dsimp only[Ends.to_nx,Ends.to_rt,gR];refine⟨_,rfl,b,rfl,hbl,λv H3 s3 hv=>?_⟩;refine⟨_,rfl,rfl,_,rfl,?_⟩;have es:aV l=match defC b with |some d=>d |none=>fK b:=by
  unfold aV;simp only[];rw[<- hb,if_neg c1,if_neg c2,if_neg c3,if_neg c4,if_neg c5]
  all_goals (cases defC b <;> rfl)
 cases hd:defC b with
 |some d=>
  rw[hd] at hv es;obtain⟨p,rfl,hp⟩:=hv;exact⟨_,rfl,mk d es p H3 (s02.trans s3) hp⟩
 |none=>
  rw[hd] at hv es;cases hv;exact⟨_,rfl,b,rfl,hbl,λp H4 s4 h4=>mk _ es p H4 ((s02.trans s3).trans s4) h4⟩
end
end K14
namespace Lm
def ej (l:List Nat):Bool := !(l.takeWhile ([45]:List Nat).contains).isEmpty&&(l.dropWhile ([45]:List Nat).contains==[]||l.dropWhile ([45]:List Nat).contains==[58])
def nj (l:List Nat):List Nat:=if l.getLast? = some 58 then l.dropLast else l
def pF (l:List Nat):ej l=true ↔ nj l≠[]/\∀c∈nj l,c=45:=by
 have sp:l.takeWhile ([45]:List Nat).contains++l.dropWhile ([45]:List Nat).contains=l:=l51;have tw:∀c∈l.takeWhile ([45]:List Nat).contains,c=45:=by
  intro c hc;have:=List.all_takeWhile (p:=([45]:List Nat).contains) (l:=l);have:=l40.mp this c hc;simpa using this
 have dh:∀y t,l.dropWhile ([45]:List Nat).contains=y::t->y≠45:=by
  intro y t e hy;have:=List.head?_dropWhile_not ([45]:List Nat).contains l;rw[e] at this;simp[hy] at this
 have hr:ej l=true ↔ l.takeWhile ([45]:List Nat).contains≠[]/\(l.dropWhile ([45]:List Nat).contains=[] ∨ l.dropWhile ([45]:List Nat).contains=[58]):=by
  unfold ej;simp
 rw[hr];generalize l.takeWhile ([45]:List Nat).contains=a at *;generalize l.dropWhile ([45]:List Nat).contains=b at *;subst sp;unfold nj;have ha:∀x,a.getLast? = some x->x=45:=λx hx=>tw x (List.mem_of_getLast? hx);cases b with
 |nil=>
  rw[l29,if_neg (λz=>by have:=ha _ z;omega)];exact⟨λh=>⟨h.1,tw⟩,λh=>⟨h.1, .inl rfl⟩⟩
 |cons y t=>
  have hy:=dh y t rfl;cases t with
  |nil=>
   rw[show (a++[y]).getLast? = some y from List.getLast?_concat];by_cases h:y=58
   ·subst h;rw[if_pos (by rfl),List.dropLast_concat];exact⟨λh=>⟨h.1,tw⟩,λh=>⟨h.1, .inr rfl⟩⟩
   ·rw[if_neg (by simpa using h)];constructor
    ·rintro⟨_,h1 |h1⟩
     ·cases h1
     ·exact absurd (by simpa using h1) h
    ·rintro⟨_,h2⟩;exact absurd (h2 y (by simp)) hy
  |cons z t=>
   constructor
   ·rintro⟨_,h1 |h1⟩
    ·cases h1
    ·simp at h1
   ·rintro⟨_,h2⟩;exfalso;apply hy;apply h2;split
    ·rw[List.dropLast_append_of_ne_nil (by simp)];simp
    ·simp
open PySem Builtin.Str
def qG (l:List Nat)(c:Nat):Txt.endswith (S l) (S [c])=decide (l.getLast? = some c):=by
 unfold Txt.endswith;rw[fE,aH,aH,l69];rw[Bool.eq_iff_iff,Bool.and_eq_true,decide_eq_true_iff,decide_eq_true_iff,decide_eq_true_iff];rcases l70 l with rfl |⟨q,x,rfl⟩
 ·simp
 ·rw[l79,List.getLast?_concat,l8];show q.length+1 ≥ 1/\((q++[x]).drop (q.length+1 - 1)).take 1=[c] ↔ _;rw[Nat.add_sub_cancel,l48];simp
def uA (d:List Nat):d.dropWhile ([45]:List Nat).contains=[] ↔ ∀c∈d,c=45:=by
 induction d with
 |nil=>simp
 |cons x r ih=>
  by_cases h:x=45
  ·subst h;rw[List.dropWhile_cons_of_pos (by simp),ih];simp
  ·rw[List.dropWhile_cons_of_neg (by simpa using h)];simp[h]
def nk (d:List Nat):Txt.stripChars (S d) (S [45])=S [] ↔ ∀c∈d,c=45:=by
 have e:(S [45]).cps.contains=([45]:List Nat).contains:=by funext c;simp
 have tl:=congrArg List.length (l51 (p:=([45]:List Nat).contains) (l:=d));rw[l8] at tl;have hd:d.drop (d.takeWhile ([45]:List Nat).contains).length=d.dropWhile ([45]:List Nat).contains:=by
  conv=>lhs;arg 2;rw[<- l51 (p:=([45]:List Nat).contains) (l:=d)]
  rw[l48]
 unfold Txt.stripChars Txt.stripBy;rw[e];have h0:stripLo ([45]:List Nat).contains true (S d)=(d.takeWhile ([45]:List Nat).contains).length:=by simp[stripLo]
 have h1:stripHi ([45]:List Nat).contains true (S d) (d.takeWhile ([45]:List Nat).contains).length=d.length - ((d.dropWhile ([45]:List Nat).contains).reverse.takeWhile ([45]:List Nat).contains).length:=by
  unfold stripHi;rw[if_pos rfl,aH,bD,hd]
 have hz:((d.dropWhile ([45]:List Nat).contains).reverse.takeWhile ([45]:List Nat).contains).length<=(d.dropWhile ([45]:List Nat).contains).length:=by
  have:=(List.takeWhile_sublist (p:=([45]:List Nat).contains) (l:=(d.dropWhile ([45]:List Nat).contains).reverse)).length_le;rw[l57] at this;exact this
 constructor
 ·intro h;rw[<- uA];split at h
  ·have:=df h;rw[this];rfl
  ·rw[stripped,h0,h1] at h;have h:=congrArg (λx:Str=>x.cps.size) h;unfold strSub at h;simp only[Array.size_extract,l24,l27] at h;rcases l70 (d.dropWhile ([45]:List Nat).contains) with q |⟨a,x,q⟩
   ·exact q
   ·exfalso;have hne:d.dropWhile ([45]:List Nat).contains≠[]:=by rw[q];simp
    have hlt:((d.dropWhile ([45]:List Nat).contains).reverse.takeWhile ([45]:List Nat).contains).length < (d.dropWhile ([45]:List Nat).contains).length:=by
     refine Nat.lt_of_le_of_ne hz λz=>?_;have j8:(d.dropWhile ([45]:List Nat).contains).reverse.takeWhile ([45]:List Nat).contains=(d.dropWhile ([45]:List Nat).contains).reverse:=
      (List.takeWhile_sublist (p:=([45]:List Nat).contains)).eq_of_length (by rw[z,l57])
     cases hw:d.dropWhile ([45]:List Nat).contains with
     |nil=>exact hne hw
     |cons y t=>
      have hy:y∈(d.dropWhile ([45]:List Nat).contains).reverse:=by rw[hw];simp
      rw[<- j8] at hy;have y1:=mZ hy;have y2:=jV hw;rw[y1] at y2;cases y2
    omega
 ·intro h;have q:=(uA d).mpr h;have tl':(d.takeWhile ([45]:List Nat).contains).length=d.length:=by rw[q] at tl;simpa using tl
  split
  ·rename_i hs;rw[stripSame,h0,tl'] at hs;rw[Bool.and_eq_true,beq_iff_eq] at hs;rw[l49 hs.1]
  ·rw[stripped,h0,h1,q];unfold strSub;rw[tl'];simp
end Lm
namespace K14
open PySem L2 Lm Lw
section
variable {K:Frag}{σ:St}{H:Hp}{ta tb:TE}{a b:List Nat}
def vh (h1 : Ev ta σ H (vS a)) (h2 : Ev tb σ H (vS b)) : Ev (tOp rEq ta tb) σ H (.bl (decide (a = b))) := fun R r => h1 _ (h2 _ ⟨rfl,by
 have:decide (vS a=vS b)=decide (a=b):=decide_eq_decide.mpr ⟨λh=>df (V.str.inj h),λh=>by rw[h]⟩;rw[this];exact r⟩)
def vi (h1 : Ev ta σ H (vS a)) (h2 : Ev tb σ H (vS b)) : Ev (tOp rNe ta tb) σ H (.bl (decide (a ≠ b))) := fun R r => h1 _ (h2 _ ⟨rfl,by
 have:(!decide (vS a=vS b))=decide (a≠b):=by
  rw[<- decide_not];exact decide_eq_decide.mpr ⟨λh e=>h (by rw[e]),λh e=>h (df (V.str.inj e))⟩
 rw[this];exact r⟩)
def su {p q : Bool} (h1 : Ev ta σ H (.bl p)) (h2 : p = true -> Ev tb σ H (.bl q)) : Ev (tAndV ta tb) σ H (.bl (p && q)) := fun R r => h1 _ ⟨p,rfl,by
 cases p with
 |false=>exact iteF r
 |true=>exact iteT (h2 rfl _ r)⟩
def vj {f:Str->Str->V}{y:Str}(h:Ev ta σ H (vS a))(hl:a.length<=1000000):Ev (tBM K "str" (rS2 f) ta (tCons (tC (.str y)) tNil)) σ H (f (S a) y):=λR r=>h _ ⟨rfl,_,_,rfl,rfl,bigS hl,r⟩
end
section
abbrev sw:Stmt:=top 29
inductive spRule (vs:List V)(H:Hp)(Q:VK)(u3:XK):Prop
 |mk (l:List Nat)(_:vs=[vS l])(_:l.length<=1000000)(_:∀H',Same H H'->Q (.bl (ej l)) H')
def sx (F:Fun K "is_rule" "is_rule" sw f fd):FnOk P w K mg base CX0 1 f fd ["text"] spRule:=by
 have sc:FnScope ["text","dashes"] ["text"] (ad sw):=mkS;refine F.oks sc λH Q hr h=>?_;obtain⟨l,rfl,hl,q⟩:=h;refine am (xbc (xst (i:=1) sc.nd (xifE (aZ (xm plainAttrs_str PySem.F.slot_str_endswith PySem.F.type_str_endswith fz (xv 0) (xac xstr xa0))) (xsl bh (xv 0) xo0 (xo1 (xun gw xint))) (xv 0)))
  (xb1 (xret (pd (xcmp jM (xv 1) xstr (ai _)) (xone (xcmp be (xm plainAttrs_str PySem.F.slot_str_strip PySem.F.type_str_strip o3 (xv 1) (xac xstr xa0)) xstr (ai _))))))) ?_
 have key:∀d,d=nj l->Ev (tAndV (tOp rNe (tVar 1) (tC (.str (Str.ofString "")))) (tOp rEq (tBM K "str" (rS2 λz y => .str (Txt.stripChars z y)) (tVar 1) (tCons (tC (.str (Str.ofString "-"))) tNil)) (tC (.str (Str.ofString ""))))) [some (vS l),some (vS d)] H (.bl (ej l)):=by
  intro d hd;have hdl:d.length<=1000000:=by
   rw[hd];unfold nj;split
   ·rw[List.length_dropLast];omega
   ·exact hl
  have e:ej l=(decide (d≠[])&&decide ((Txt.stripChars (S d) (S [45])).cps.toList=[])):=by
   rw[Bool.eq_iff_iff,pF,<- hd,Bool.and_eq_true,decide_eq_true_iff,decide_eq_true_iff,<- nk];refine and_congr_right λ_=>⟨λz=>by rw[z],λz=>?_⟩;rw[<- S_of (Txt.stripChars (S d) (S [45])),z]
  rw[e];refine su (vi (ev_v rfl) (qB (b:=[]) rfl)) λ_=>vh ?_ (qB (b:=[]) rfl);rw[show vS (Txt.stripChars (S d) (S [45])).cps.toList=V.str (Txt.stripChars (S d) (S [45])) by show V.str (S _)=_;rw[S_of]];exact vj (f:=λz y => .str (Txt.stripChars z y)) (ev_v rfl) hdl
 refine⟨_,rfl,rfl,_,_,rfl,rfl,bigS hl,_,rfl,?_⟩;rw[show Txt.endswith (S l) (Str.ofString ":")=decide (l.getLast? = some 58) from qG l 58];refine ite2 (λe=>?_) (λe=>?_)
 ·refine m9 (σ:=[some (vS l),none]) (H:=H) hl (ev_v (k:=0) rfl) vb (hE (va (i:=1) (g:=λi => .int (-i)) ev_c rfl)) (pB l) _ ?_;exact key l.dropLast (if_pos (of_decide_eq_true e)).symm _ (q H (Same.refl H))
 ·refine⟨_,rfl,?_⟩;exact key l (if_neg (λz=>e (decide_eq_true z))).symm _ (q H (Same.refl H))
end
end K14
namespace L2
open PySem PySem.Spec PyProof.Rows
end L2
namespace Lm
open PySem PySem.Builtin PySem.Builtin.Str PySem.StrLaws
end Lm
namespace Lw
open PySem L2 Lm PySem.Builtin.Str
def sy (c:Nat):lo1 (lo1 c)=lo1 c:=by
 unfold lo1;split
 ·rw[if_neg nofun]
 ·rfl
def pG:∀c∈nameSigns,nameSigns.contains (lo1 c)=true:=by decide
def gK {l:List Nat}(h:aE l=true):aE (aX l)=true/\aX (aX l)=aX l:=by
 unfold aE at h ⊢;rw[Bool.and_eq_true,Bool.and_eq_true] at h;obtain⟨⟨h1,h2⟩,h3⟩:=h;constructor
 ·unfold aX;rw[l0,h1,h2,Bool.true_and,Bool.true_and,l40];intro c hc;obtain⟨x,hx,rfl⟩:=l16.mp hc;exact pG x (List.contains_iff_mem.mp (l40.mp h3 x hx))
 ·unfold aX;rw[l26];exact l42 λc _=>sy c
open PySem L2 Lm
def takenC:List Nat:=[92,42,96,91,93,124,45,43,61,62,126,58,94]
def ax:List Nat->Bool
 |92::c::_=>takenC.contains c
 |_=>false
def nxtC:List Nat->Option Nat
 | []=>none
 | [x]=>if x=93 then some 0 else none
 |x::y::r=>if x=92/\takenC.contains y=true then (nxtC r).map (· + 2) else if x=93 then some 0 else (nxtC (y::r)).map (· + 1)
def freeC:List Nat->List Nat
 | []=>[]
 | [x]=>[x]
 |x::y::r=>if x=92/\takenC.contains y=true then y::freeC r else x::freeC (y::r)
inductive Pc where
 |sign (c:Nat)
 |star
 |code (l:List Nat)
 |note (n:List Nat)
 |link (w n:List Nat)
def cutAt (c:Nat):List Nat->Option (List Nat×List Nat)
 | []=>none
 |x::r=>if x=c then some ([],r) else (cutAt c r).map λ(a,b)=>(x::a,b)
def nameAt (c:Nat)(l:List Nat):Option (List Nat×List Nat):=match cutAt c (l.take 13) with
 |some (a,_)=>if aE a then some (aX a,l.drop (a.length+1)) else none
 |none=>none
def bL (r:List Nat):Option (Pc×List Nat):=match r with
 |94::r=>(nameAt 93 r).map λ(n,r)=>(.note n,r)
 |_=>none
def bj (r:List Nat):Option (Pc×List Nat):=match nxtC r with
 |some (k+1)=>match r.drop (k+2) with
  |40::r2=>(nameAt 41 r2).map λ(n,r3)=>(.link (freeC (r.take (k+1))) n,r3)
  |_=>none
 |_=>none
def bH (r:List Nat):Option (Pc×List Nat):=match cutAt 96 r with
 |some (x::a,b)=>some (.code (x::a),b)
 |_=>none
def gm:List Nat->Option (Pc×List Nat)
 | []=>none
 |x::r=>
  if ax (x::r) then some (.sign (r.headD 0),r.tail)
  else if x=42 then some (.star,r)
  else if x=96 then some ((bH r).getD (.sign 96,r))
  else if x=91 then some (((bL r).or (bj r)).getD (.sign 91,r))
  else some (.sign x,r)
theorem cutAt_eq {c:Nat}:∀{l a b:List Nat},cutAt c l=some (a,b)->l=a++c::b/\c∉a
 | [],a,b,h=>by cases h
 |x::r,a,b,h=>by
  unfold cutAt at h;split at h
  ·rename_i e;cases h;subst e;exact⟨rfl,λz=>nomatch z⟩
  ·rename_i e;cases hr:cutAt c r with
   |none=>rw[hr] at h;cases h
   |some p=>
    obtain⟨a',b'⟩:=p;rw[hr] at h;cases h;obtain⟨h1,h2⟩:=cutAt_eq hr;exact ⟨by rw[h1];rfl,λz=>by
     rcases l6.mp z with z |z
     ·exact e z.symm
     ·exact h2 z⟩
theorem cutAt_none {c:Nat}:∀{l:List Nat},cutAt c l=none ↔ c∉l
 | []=>⟨(λ_ z=>nomatch z),λ_=>rfl⟩
 |x::r=>by
  unfold cutAt;by_cases e:x=c
  ·rw[if_pos e];exact⟨(λz=>nomatch z),λz=>absurd (by rw[e];exact l10) z⟩
  ·rw[if_neg e];have ih:=cutAt_none (c:=c) (l:=r);cases hr:cutAt c r with
   |none=>
    refine⟨λ_ z=>?_,λ_=>rfl⟩;rcases l6.mp z with z |z
    ·exact e z.symm
    ·exact ih.mp hr z
   |some p=>
    refine⟨(λz=>nomatch z),λz=>?_⟩;have:c∉r:=λm=>z (l7 _ m);rw[ih.mpr this] at hr;cases hr
def jk {c:Nat}{l n r:List Nat}(h:nameAt c l=some (n,r)):r.length < l.length:=by
 unfold nameAt at h;split at h
 ·rename_i a b hc;split at h
  ·cases h;obtain⟨h1,_⟩:=cutAt_eq hc;have:=congrArg List.length h1;rw[l21,l8,l4] at this;rw[l9];omega
  ·cases h
 ·cases h
def ig {s r:List Nat}{p:Pc}(h:gm s=some (p,r)):r.length < s.length:=by
 cases s with
 |nil=>cases h
 |cons x t=>
  rw[l4];have h:(if ax (x::t) then some (Pc.sign (t.headD 0),t.tail) else if x=42 then some (Pc.star,t) else if x=96 then some ((bH t).getD (.sign 96,t)) else if x=91 then some (((bL t).or (bj t)).getD (.sign 91,t)) else some (Pc.sign x,t))=some (p,r):=h;split at h
  ·cases h;have:t.tail.length<=t.length:=by rw[List.length_tail];omega
   omega
  ·split at h
   ·cases h;omega
   ·split at h
    ·cases hc:bH t with
     |none=>rw[hc] at h;cases h;omega
     |some q=>
      rw[hc] at h;cases h;unfold bH at hc;split at hc
      ·rename_i y a b he;cases hc;have:=congrArg List.length (cutAt_eq he).1;rw[l8,l4,l4] at this;omega
      ·cases hc
    ·split at h
     ·cases hm:bL t with
      |some q=>
       rw[hm] at h;cases h;unfold bL at hm;split at hm
       ·cases hn:nameAt 93 _ with
        |none=>rw[hn] at hm;cases hm
        |some q=>
         rw[hn] at hm;cases hm;have:=jk hn;rw[l4];omega
       ·cases hm
      |none=>
       rw[hm] at h;cases hl:bj t with
       |none=>rw[hl] at h;cases h;omega
       |some q=>
        rw[hl] at h;cases h;unfold bj at hl;split at hl
        ·split at hl
         ·rename_i r2 hd;cases hn:nameAt 41 r2 with
          |none=>rw[hn] at hl;cases hl
          |some q=>
           rw[hn] at hl;cases hl;have h1:=jk hn;have h2:=congrArg List.length hd;rw[l9,l4] at h2;omega
         ·cases hl
        ·cases hl
     ·cases h;omega
def aB (s:List Nat):List Pc:=match h:gm s with
 |none=>[]
 |some (p,r)=>p::aB r
termination_by s.length
decreasing_by exact ig h
def cH:aB []=[]:=by
 unfold aB;rfl
def cj {s r:List Nat}{p:Pc}(h:gm s=some (p,r)):aB s=p::aB r:=by
 rw[aB];split
 ·rename_i e;rw[h] at e;cases e
 ·rename_i e;rw[h] at e;cases e;rfl
def ck (o:Nat):Option Nat->Int
 |none => -1
 |some k=>((o+k:Nat):Int)
def clGo (o:Nat):List Nat->List Int
 | []=>[]
 | [_]=>[-1]
 |x::y::r=>if x=92/\takenC.contains y=true then ck (o+2) (nxtC r)::ck (o+2) (nxtC r)::clGo (o+2) r else ck (o+1) (nxtC (y::r))::clGo (o+1) (y::r)
def takes_iff {x y:Nat}{r:List Nat}:ax (x::y::r)=true ↔ x=92/\takenC.contains y=true:=by
 by_cases e:x=92
 ·subst e;exact⟨λh=>⟨rfl,h⟩,λh=>h.2⟩
 ·refine⟨λh=>?_,λh=>absurd h.1 e⟩;exfalso;unfold ax at h;split at h
  ·rename_i z;exact e (List.cons.inj z).1
  ·cases h
def nl {o x y:Nat}{r:List Nat}(h:ax (x::y::r)=true):clGo o (x::y::r)=ck (o+2) (nxtC r)::ck (o+2) (nxtC r)::clGo (o+2) r:=by
 show (if x=92/\takenC.contains y=true then _ else _)=_;rw[if_pos (takes_iff.mp h)]
def k5 {o x:Nat}{r:List Nat}(h:ax (x::r)=false):clGo o (x::r)=ck (o+1) (nxtC r)::clGo (o+1) r:=by
 cases r with
 |nil=>rfl
 |cons y r=>
  show (if x=92/\takenC.contains y=true then _ else _)=_;rw[if_neg λz=>by rw[takes_iff.mpr z] at h;cases h]
def pH {x y:Nat}{r:List Nat}(h:ax (x::y::r)=true):nxtC (x::y::r)=(nxtC r).map (· + 2):=by
 show (if x=92/\takenC.contains y=true then _ else _)=_;rw[if_pos (takes_iff.mp h)]
def kf {r:List Nat}:nxtC (93::r)=some 0:=by
 cases r with
 |nil=>rfl
 |cons y r=>
  show (if (93:Nat)=92/\takenC.contains y=true then _ else if (93:Nat)=93 then some 0 else _)=_;rw[if_neg λz=>absurd z.1 ∅,if_pos rfl]
def sC {x:Nat}{r:List Nat}(h:ax (x::r)=false)(hx:x≠93):nxtC (x::r)=(nxtC r).map (· + 1):=by
 cases r with
 |nil=>
  show (if x=93 then some 0 else none)=_;rw[if_neg hx];rfl
 |cons y r=>
  show (if x=92/\takenC.contains y=true then _ else if x=93 then some 0 else _)=_;rw[if_neg (λz=>by rw[takes_iff.mpr z] at h;cases h),if_neg hx]
def jl (o k:Nat)(v:Option Nat):ck o (v.map (· + k))=ck (o+k) v:=by
 cases v with
 |none=>rfl
 |some j=>show ((o+(j+k):Nat):Int)=((o+k+j:Nat):Int);omega
structure ClAt (t:List Nat)(p n:Nat)(pre:List Int):Prop where
 eq:clGo 0 t=pre++clGo p (t.drop p)
 len:pre.length=p
 le:n<=p
 wait:∀v∈pre.drop n,v=ck p (nxtC (t.drop p))
def ClAt.start (t:List Nat):ClAt t 0 0 []:=⟨rfl,rfl,l5 0,λ_ z=>nomatch z⟩
def ClAt.take {t:List Nat}{p n:Nat}{pre:List Int}(h:ClAt t p n pre)(hk:ax (t.drop p)=true):∃pre',ClAt t (p+2) n pre'/\pre'.take n=pre.take n/\p+2<=t.length:=by
 obtain⟨y,r,hy⟩:∃y r,t.drop p=92::y::r:=by
  unfold ax at hk;split at hk
  ·rename_i e;exact⟨_,_,e⟩
  ·cases hk
 have hr:t.drop (p+2)=r:=by rw[<- l18,hy];rfl
 have hl:p+2<=t.length:=by
  have:=congrArg List.length hy;rw[l9,l4,l4] at this;omega
 rw[hy] at hk;have hle:=h.le;refine⟨pre++[ck (p+2) (nxtC r),ck (p+2) (nxtC r)],⟨?_,by rw[l8,h.len];rfl,by omega,λv hv=>?_⟩,?_,hl⟩
 ·rw[h.eq,hy,nl hk,hr,l23];rfl
 ·rw[hr];rw[l60 (by rw[h.len];exact h.le)] at hv;rcases l20.mp hv with z |z
  ·rw[h.wait v z,hy,pH hk,jl]
  ·simp only[l6,List.not_mem_nil,or_false] at z;rcases z with z |z <;> exact z
 ·rw[l80 (by rw[h.len];exact h.le)]
def ClAt.one {t:List Nat}{p n:Nat}{pre:List Int}(h:ClAt t p n pre)(hp:p < t.length)(hk:ax (t.drop p)=false)(hx:t.getD p 0≠93):∃pre',ClAt t (p+1) n pre'/\pre'.take n=pre.take n:=by
 have hd:=l25 hp;have hg:t.getD p 0=t[p]:=by rw[l22,List.getElem?_eq_getElem hp];rfl
 rw[hg] at hx;rw[hd] at hk;have hle:=h.le;refine⟨pre++[ck (p+1) (nxtC (t.drop (p+1)))],⟨?_,by rw[l8,h.len];rfl,by omega,λv hv=>?_⟩,?_⟩
 ·rw[h.eq,hd,k5 hk,l23];rfl
 ·rw[l60 (by rw[h.len];exact h.le)] at hv;rcases l20.mp hv with z |z
  ·rw[h.wait v z,hd,sC hk hx,jl]
  ·exact l14.mp z
 ·rw[l80 (by rw[h.len];exact h.le)]
def ClAt.bar {t:List Nat}{p n:Nat}{pre:List Int}(h:ClAt t p n pre)(hp:p < t.length)(hk:ax (t.drop p)=false)(hx:t.getD p 0=93):∃pre',ClAt t (p+1) p pre'/\pre'.take p=pre.take n++List.replicate (p - n) (p:Int):=by
 have hd:=l25 hp;have hg:t.getD p 0=t[p]:=by rw[l22,List.getElem?_eq_getElem hp];rfl
 rw[hg] at hx;rw[hd] at hk;refine⟨pre++[ck (p+1) (nxtC (t.drop (p+1)))],⟨?_,by rw[l8,h.len];rfl,by omega,λv hv=>?_⟩,?_⟩
 ·rw[h.eq,hd,k5 hk,l23];rfl
 ·rw[l60 (by rw[h.len];exact l5 _),l32 (by rw[h.len];exact l5 _)] at hv;exact l14.mp hv
 ·rw[l80 (by rw[h.len];exact l5 _),l35 (by rw[h.len];exact l5 _)];have hw:pre.drop n=List.replicate (p - n) (p:Int):=by
   rw[List.eq_replicate_iff];refine⟨by rw[l9,h.len],λv hv=>?_⟩;rw[h.wait v hv,hd,hx,kf];rfl
  rw[<- hw,l53]
def ClAt.fin {t:List Nat}{n:Nat}{pre:List Int}(h:ClAt t t.length n pre):clGo 0 t=pre.take n++List.replicate (t.length - n) (-1):=by
 have e:clGo 0 t=pre:=by rw[h.eq,l46];exact l29 pre
 have hw:pre.drop n=List.replicate (t.length - n) (-1):=by
  rw[List.eq_replicate_iff];refine⟨by rw[l9,h.len],λv hv=>?_⟩;rw[h.wait v hv,l46];rfl
 rw[e,<- hw,l53]
end Lw
namespace L2
open PySem PySem.Spec PyProof.Rows
open Builtin Builtin.Str
def uB (x y:Str)(lo hi:Nat):
  (occurrences x y lo hi 1=[]/\∀i,lo<=i->¬ StrLaws.At x y hi i) ∨
  ∃i r,occurrences x y lo hi 1=i::r/\lo<=i/\StrLaws.At x y hi i/\∀k,lo<=k->k < i->¬ StrLaws.At x y hi k:=by
 rw[StrLaws.occ_eq];rcases StrLaws.occ_first x y hi 1 (l5 1) (List.range' lo (hi+1 - lo)) lo (λi hi=>by have:=List.mem_range'_1.mp hi;omega) with ⟨h0,hn⟩ |⟨pre,a,post,e,h0,ha,hn⟩
 ·refine .inl ⟨by rw[h0],λi hlo hi=>?_⟩;exact hn i (by have:=hi.1;rw[List.mem_range'_1];omega) hi
 ·have hs:=StrLaws.range'_split_from e;refine .inr ⟨a,((forIn (List.range' lo (hi+1 - lo)) ((#[]:Array Nat),lo) (StrLaws.occBody x y hi 1)).run.fst.toList).tail,?_,hs.1,ha,λk hk0 hk=>hn k (hs.2 k hk0 hk)⟩;generalize (forIn (List.range' lo (hi+1 - lo)) ((#[]:Array Nat),lo) (StrLaws.occBody x y hi 1)).run.fst=arr at h0;have h1:arr.toList[0]? = some a:=by simpa using h0
  cases hL:arr.toList with
  |nil=>rw[hL] at h1;cases h1
  |cons b t=>rw[hL] at h1;simp at h1;rw[h1];rfl
def kg (x y:Str)(i j:Int)(t u v v':Tok):Gives («str.find» ⟨[.str x t, .str y u, .int i v, .int j v'],[]⟩) (.int (match occurrences x y (fromIndex x.length i) (min (fromIndex x.length j) x.length) 1 with |k::_=>(k:Int) | [] => -1)):=by
 show Gives (match occurrences x y (fromIndex x.length i) (min (fromIndex x.length j) x.length) 1 with |k::_=>retInt k | []=>(do rule "str.find.not-found";retInt (-1))) _;cases occurrences x y (fromIndex x.length i) (min (fromIndex x.length j) x.length) 1 with
 |nil=>exact .rule (.of_eq rfl)
 |cons k _=>exact .of_eq rfl
end L2
namespace Lm
open PySem L2 Lw Builtin Builtin.Str
def fndC (c:Nat)(l:List Nat)(lo hi:Nat):Int:=match Lw.cutAt c ((l.take hi).drop lo) with
 |some (a,_)=>((lo+a.length:Nat):Int)
 |none => -1
def np (l:List Nat)(c hi i:Nat)(hh:hi<=l.length):StrLaws.At (S l) (S [c]) hi i ↔ (l.take hi)[i]? = some c:=by
 unfold StrLaws.At;rw[fE,aH,decide_eq_true_eq,List.getElem?_take];show i+1<=hi/\(l.drop i).take 1=[c] ↔ _;constructor
 ·rintro⟨h1,h2⟩;rw[if_pos nofun];have:(l.drop i)[0]? = some c:=by
   have h3:=congrArg (λz:List Nat=>z[0]?) h2;simpa[List.getElem?_take] using h3
  rw[List.getElem?_drop] at this;exact this
 ·intro h;split at h
  ·rename_i hlt;refine⟨by omega,?_⟩;have hl:i < l.length:=by omega
   rw[l25 hl];rw[List.getElem?_eq_getElem hl] at h;rw[Option.some.inj h];rfl
  ·cases h
def nr (l:List Nat)(c lo hi:Nat)(hh:hi<=l.length):(match occurrences (S l) (S [c]) lo hi 1 with |k::_=>(k:Int) | [] => -1)=fndC c l lo hi:=by
 have hg:∀i,lo<=i->((l.take hi)[i]? = ((l.take hi).drop lo)[i - lo]?):=λi h=>by
  rw[List.getElem?_drop];congr 1;omega
 unfold fndC;rcases uB (S l) (S [c]) lo hi with ⟨e,hn⟩ |⟨i,r,e,hlo,hi',hn⟩
 ·rw[e];have:Lw.cutAt c ((l.take hi).drop lo)=none:=by
   rw[Lw.cutAt_none];intro z;obtain⟨k,hk⟩:=List.mem_iff_getElem?.mp z;rw[List.getElem?_drop] at hk;exact hn (lo+k) nofun ((np l c hi _ hh).mpr hk)
  rw[this]
 ·rw[e];have h1:=(np l c hi i hh).mp hi';rw[hg i hlo] at h1;cases hc:Lw.cutAt c ((l.take hi).drop lo) with
  |none=>exact absurd (l15 h1) (Lw.cutAt_none.mp hc)
  |some p=>
   obtain⟨a,b⟩:=p;obtain⟨he,ha⟩:=Lw.cutAt_eq hc;show (i:Int)=((lo+a.length:Nat):Int);congr 1;rw[he] at h1;rcases Nat.lt_trichotomy (i - lo) a.length with q |q |q
   ·rw[List.getElem?_append_left q] at h1;exact absurd (l15 h1) ha
   ·omega
   ·exfalso;refine hn (lo+a.length) nofun nofun ((np l c hi _ hh).mpr ?_);rw[hg _ nofun,he,show lo+a.length - lo=a.length by omega,List.getElem?_append_right (l5 _),l62];rfl
def fg (n k:Nat):fromIndex n (k:Int)=k:=by
 unfold fromIndex;rw[if_neg nofun];omega
section
variable {X:Cx}
inductive rFind3 (x:V)(vs:List V)(H:Hp)(Q:VK):Prop
 |mk (l:List Nat)(c lo:Nat)(_:x=vS l)(_:vs=[vS [c], .int (lo:Int)])(_:Q (.int (fndC c l lo l.length)) H)
inductive rFind4 (x:V)(vs:List V)(H:Hp)(Q:VK):Prop
 |mk (l:List Nat)(c lo hi:Nat)(_:x=vS l)(_:vs=[vS [c], .int (lo:Int), .int (hi:Int)])(_:Q (.int (fndC c l lo (min hi l.length))) H)
inductive rStartsAt (x:V)(vs:List V)(H:Hp)(Q:VK):Prop
 |mk (l y:List Nat)(i:Nat)(_:x=vS l)(_:vs=[vS y, .int (i:Int)])(_:y≠[])(_:Q (.bl (y.isPrefixOf (l.drop i))) H)
def pI:MtR X "str.find" rFind3:=by
 intro w9 s σ H x vs v us Q I rx rv h;obtain⟨l,c,lo,rfl,rfl,q⟩:=h;obtain⟨t,rfl⟩:=rx;cases rv with |cons r1 rv=>
 cases rv with |cons r2 rv=>
 cases rv;obtain⟨t1,rfl⟩:=r1;obtain⟨t2,rfl⟩:=r2;refine SC.find3 ?_;have e:Txt.find3 (S l) (S [c]) (lo:Int)=fndC c l lo l.length:=by
  unfold Txt.find3;rw[fg,aH];exact nr l c lo l.length (l5 _)
 rw[e];exact⟨.int _,H,I.tok _,⟨_,rfl⟩,q⟩
def k7:MtR X "str.find" rFind4:=by
 intro w9 s σ H x vs v us Q I rx rv h;obtain⟨l,c,lo,hi,rfl,rfl,q⟩:=h;obtain⟨t,rfl⟩:=rx;cases rv with |cons r1 rv=>
 cases rv with |cons r2 rv=>
 cases rv with |cons r3 rv=>
 cases rv;obtain⟨t1,rfl⟩:=r1;obtain⟨t2,rfl⟩:=r2;obtain⟨t3,rfl⟩:=r3;refine call_gives F.slot_str_find (typeIs_str _ _ _) F.entry_str_find (F.args_str_find_4 _ _ _ _) (kg _ _ _ _ _ _ _ _) ?_;rw[fg,fg,aH,nr l c lo (min hi l.length) (Nat.min_le_right _ _)];exact⟨.int _,H,I.tok _,⟨_,rfl⟩,q⟩
def fS:MtR X "str.startswith" rStartsAt:=by
 intro w9 s σ H x vs v us Q I rx rv h;obtain⟨l,y,i,rfl,rfl,hy,q⟩:=h;obtain⟨t,rfl⟩:=rx;cases rv with |cons r1 rv=>
 cases rv with |cons r2 rv=>
 cases rv;obtain⟨t1,rfl⟩:=r1;obtain⟨t2,rfl⟩:=r2;refine SC.startswith3 ?_;have e:Txt.startswith3 (S l) (S y) (i:Int)=y.isPrefixOf (l.drop i):=by
  unfold Txt.startswith3;rw[fg,fE,aH,aH,Bool.eq_iff_iff];simp only[Bool.and_eq_true,decide_eq_true_eq,l59];constructor
  ·rintro⟨_,h⟩;exact l78.mpr h.symm
  ·intro h;have h1:=h.length_le;rw[l9] at h1;have h2:0 < y.length:=by cases y with |nil=>exact absurd rfl hy |cons _ _=>simp
   exact⟨by omega,(l78.mp h).symm⟩
 rw[e];exact⟨.bl _,H,I,rfl,q⟩
end
end Lm
namespace Lw
open PySem L2 Lm
def PcAt (c:Cp)(H:Hp)(v:V):Pc->Prop
 | .sign x=>v=vS [x]
 | .star=>v = .non
 | .code l=>∃a,v = .ref a/\P1At c H a (.code (S l))
 | .note n=>∃a,v = .ref a/\P1At c H a (.note (S n))
 | .link w n=>∃a,v = .ref a/\P1At c H a (.link (S w) (S n))
theorem PcAt.same {c:Cp}{H H':Hp}{v:V}(s:Same H H'):∀{p:Pc},PcAt c H v p->PcAt c H' v p
 | .sign _,h=>h
 | .star,h=>h
 | .code _,⟨a,e,h⟩=>⟨a,e,h.same s⟩
 | .note _,⟨a,e,h⟩=>⟨a,e,h.same s⟩
 | .link _ _,⟨a,e,h⟩=>⟨a,e,h.same s⟩
def PcsAt (c:Cp)(H:Hp):List V->List Pc->Prop
 | [],[]=>True
 |v::vs,p::ps=>PcAt c H v p/\PcsAt c H vs ps
 |_,_=>False
theorem PcsAt.same {c:Cp}{H H':Hp}(s:Same H H'):∀{vs:List V} {ps:List Pc},PcsAt c H vs ps->PcsAt c H' vs ps
 | [],[],_=>trivial
 |_::_,_::_,⟨a,b⟩=>⟨a.same s,b.same s⟩
theorem PcsAt.len {c:Cp}{H:Hp}:∀{vs:List V} {ps:List Pc},PcsAt c H vs ps->vs.length=ps.length
 | [],[],_=>rfl
 |_::_,_::_,⟨_,b⟩=>by rw[l4,l4,b.len]
def PcsAt.snoc {c:Cp}{H:Hp}{vs:List V}{ps:List Pc}{v:V}{p:Pc}(h:PcsAt c H vs ps)(k:PcAt c H v p):PcsAt c H (vs++[v]) (ps++[p]):=by
 induction vs generalizing ps with
 |nil=>
  cases ps with
  |nil=>exact⟨k,trivial⟩
  |cons _ _=>exact h.elim
 |cons _ _ ih=>
  cases ps with
  |nil=>exact h.elim
  |cons _ _=>exact⟨h.1,ih h.2⟩
theorem PcsAt.get {c:Cp}{H:Hp}:∀{vs:List V} {ps:List Pc} {i:Nat} {v:V},PcsAt c H vs ps->vs[i]? = some v->∃p,ps[i]? = some p/\PcAt c H v p
 | [],[],_,_,_,e=>by simp at e
 |_::_,_::_,0,_,⟨h,_⟩,e=>by cases e;exact⟨_,rfl,h⟩
 |_::_,_::_,i+1,_,⟨_,b⟩,e=>by
  obtain⟨p,h1,h2⟩:=b.get (i:=i) (by simpa using e);exact⟨p,by simpa using h1,h2⟩
def Fnd (c:Cp)(n:Nat)(H:Hp)(Q:VK):Option (Pc×List Nat)->Prop
 |none=>∀H',Same H H'->Q .non H'
 |some (pc,r)=>∀tp v H',Same H H'->H' tp=some (.tup [v, .int ((n - r.length:Nat):Int)])->PcAt c (dif H H') v pc->Q (.ref tp) H'
def fT {c:Nat}{l n r:List Nat}(h:nameAt c l=some (n,r)):∃a b,cutAt c (l.take 13)=some (a,b)/\l=a++c::r/\aE a=true/\n=aX a:=by
 unfold nameAt at h;split at h
 ·rename_i a b hc;split at h
  ·rename_i hn;cases h;refine⟨a,b,hc,?_,hn,rfl⟩;obtain⟨h1,_⟩:=cutAt_eq hc;have h2:l=a++c::(b++l.drop 13):=by
    conv=>lhs;rw[<- l53 13 l,h1]
    rw[l23];rfl
   have h3:l.drop (a.length+1)=b++l.drop 13:=by
    conv=>lhs;rw[h2]
    rw[<- l18,l48];rfl
   rw[h3];exact h2
  ·cases h
 ·cases h
theorem gL:∀{r:List Nat} {k:Nat},nxtC r=some k->∃u v,r=u++93::v/\u.length=k
 | [],k,h=>by cases h
 | [x],k,h=>by
  have h:(if x=93 then some 0 else none)=some k:=h;split at h
  ·rename_i e;cases h;subst e;exact⟨[],[],rfl,rfl⟩
  ·cases h
 |x::y::r,k,h=>by
  have h:(if x=92/\takenC.contains y=true then (nxtC r).map (· + 2) else if x=93 then some 0 else (nxtC (y::r)).map (· + 1))=some k:=h;split at h
  ·cases hr:nxtC r with
   |none=>rw[hr] at h;cases h
   |some j=>
    rw[hr] at h;cases h;obtain⟨u,v,e,hl⟩:=gL hr;exact⟨x::y::u,v,by rw[e];rfl,by rw[l4,l4,hl]⟩
  ·split at h
   ·rename_i e;cases h;subst e;exact⟨[],_,rfl,rfl⟩
   ·cases hr:nxtC (y::r) with
    |none=>rw[hr] at h;cases h
    |some j=>
     rw[hr] at h;cases h;obtain⟨u,v,e,hl⟩:=gL hr;exact⟨x::u,v,by rw[e];rfl,by rw[l4,hl]⟩
def Al (t:List Nat)(p:Nat):Prop:=∃pre,clGo 0 t=pre++clGo p (t.drop p)/\pre.length=p
def Al.zero (t:List Nat):Al t 0:=⟨[],rfl,rfl⟩
def bp {s:List Nat}(h:ax s=true):∃y r,s=92::y::r:=by
 unfold ax at h;split at h
 ·exact⟨_,_,rfl⟩
 ·cases h
def Al.take {t:List Nat}{p:Nat}(h:Al t p)(hk:ax (t.drop p)=true):Al t (p+2):=by
 obtain⟨pre,e,hl⟩:=h;obtain⟨y,r,hy⟩:=bp hk;have hr:t.drop (p+2)=r:=by rw[<- l18,hy];rfl
 rw[hy] at hk;refine⟨pre++[ck (p+2) (nxtC r),ck (p+2) (nxtC r)],?_,by rw[l8,hl];rfl⟩;rw[e,hy,nl hk,hr,l23];rfl
def Al.one {t:List Nat}{p:Nat}(h:Al t p)(hp:p < t.length)(hk:ax (t.drop p)=false):Al t (p+1):=by
 obtain⟨pre,e,hl⟩:=h;have hd:=l25 hp;rw[hd] at hk;refine⟨pre++[ck (p+1) (nxtC (t.drop (p+1)))],?_,by rw[l8,hl];rfl⟩;rw[e,hd,k5 hk,l23];rfl
def Al.get {t r:List Nat}{p:Nat}(h:Al t p)(hr:t.drop p=91::r):(clGo 0 t)[p]? = some (ck (p+1) (nxtC r)):=by
 obtain⟨pre,e,hl⟩:=h;rw[e,hr,k5 (by rfl),List.getElem?_append_right nofun,hl,l62];rfl
def Al.to {t:List Nat}{q:Nat}(hq:q<=t.length)(hz:t.getD (q - 1) 0≠92):∀(m p:Nat),q - p<=m->p<=q->Al t p->Al t q
 |m,p,hm,hpq,h=>by
  by_cases e:p=q
  ·subst e;exact h
  ·have hp:p < t.length:=by omega
   cases hk:ax (t.drop p) with
   |true=>
    have hne:p+1≠q:=λz=>by
     obtain⟨y,r,hy⟩:=bp hk;have:(t.drop p)[0]? = some 92:=by rw[hy];rfl
     rw[List.getElem?_drop,Nat.add_zero] at this;exact hz (by rw[<- z,Nat.add_sub_cancel,l22,this];rfl)
    match m,hm with
    |m+1,hm=>exact Al.to hq hz m (p+2) nofun nofun (h.take hk)
    |0,hm=>omega
   |false=>
    match m,hm with
    |m+1,hm=>exact Al.to hq hz m (p+1) nofun nofun (h.one hp hk)
    |0,hm=>omega
def jm {s r:List Nat}{p:Pc}(h:gm s=some (p,r)):(ax s=true/\∃x y,s=x::y::r) ∨ (ax s=false/\∃x,s=x::r) ∨ ∃u z,s=u++z::r/\z≠92:=by
 cases s with
 |nil=>cases h
 |cons x t=>
  have h:(if ax (x::t) then some (Pc.sign (t.headD 0),t.tail) else if x=42 then some (Pc.star,t) else if x=96 then some ((bH t).getD (.sign 96,t)) else if x=91 then some (((bL t).or (bj t)).getD (.sign 91,t)) else some (Pc.sign x,t))=some (p,r):=h;split at h
  ·rename_i hk;cases h;obtain⟨y,r,e⟩:=bp hk;cases e;exact .inl ⟨hk,_,_,rfl⟩
  ·rename_i hk;have hk:=Bool.eq_false_iff.mpr hk;split at h
   ·cases h;exact .inr (.inl ⟨hk,_,rfl⟩)
   ·split at h
    ·cases hc:bH t with
     |none=>rw[hc] at h;cases h;exact .inr (.inl ⟨hk,_,rfl⟩)
     |some q=>
      rw[hc] at h;cases h;unfold bH at hc;split at hc
      ·rename_i y a b he;cases hc;exact .inr (.inr ⟨x::y::a,96,by rw[(cutAt_eq he).1];rfl,by decide⟩)
      ·cases hc
    ·split at h
     ·cases hm:bL t with
      |some q=>
       rw[hm] at h;cases h;unfold bL at hm;split at hm
       ·cases hn:nameAt 93 _ with
        |none=>rw[hn] at hm;cases hm
        |some q=>
         rw[hn] at hm;cases hm;obtain⟨a,_,_,e,_⟩:=fT hn;exact .inr (.inr ⟨x::94::a,93,by rw[e];rfl,by decide⟩)
       ·cases hm
      |none=>
       rw[hm] at h;cases hl:bj t with
       |none=>rw[hl] at h;cases h;exact .inr (.inl ⟨hk,_,rfl⟩)
       |some q=>
        rw[hl] at h;cases h;unfold bj at hl;split at hl
        ·rename_i k hx;split at hl
         ·rename_i r2 hd;cases hn:nameAt 41 r2 with
          |none=>rw[hn] at hl;cases hl
          |some q=>
           rw[hn] at hl;cases hl;obtain⟨a,_,_,e,_⟩:=fT hn;refine .inr (.inr ⟨x::(t.take (k+2)++40::a),41,?_,by decide⟩);rw[l71,l23,l71,<- e,<- hd,l53]
         ·cases hl
        ·cases hl
     ·cases h;exact .inr (.inl ⟨hk,_,rfl⟩)
def Al.step {t r:List Nat}{p:Nat}{pc:Pc}(h:Al t p)(hp:p < t.length)(hs:gm (t.drop p)=some (pc,r)):∃q,q=t.length - r.length/\p < q/\q<=t.length/\t.drop q=r/\Al t q:=by
 have w6:(t.drop p).length=t.length - p:=l9;rcases jm hs with ⟨hk,x,y,e⟩ |⟨hk,x,e⟩ |⟨u,z,e,hz⟩
 ·have hl:=congrArg List.length e;rw[w6,l4,l4] at hl;refine⟨p+2,by omega,by omega,by omega,?_,h.take hk⟩;rw[<- l18,e];rfl
 ·have hl:=congrArg List.length e;rw[w6,l4] at hl;refine⟨p+1,by omega,by omega,by omega,?_,h.one hp hk⟩;rw[<- l18,e];rfl
 ·have hl:=congrArg List.length e;rw[w6,l8,l4] at hl;have hd:t.drop (p+(u.length+1))=r:=by
   rw[<- l18,e,<- l18,l48];rfl
  refine⟨p+(u.length+1),by omega,by omega,by omega,hd,Al.to nofun ?_ _ p (l5 _) nofun h⟩;have:(t.drop p)[u.length]? = some z:=by rw[e,List.getElem?_append_right (l5 _),l62];rfl
  rw[List.getElem?_drop] at this;rw[show p+(u.length+1) - 1=p+u.length by omega,l22,this];exact hz
def dC {s:List Nat}(h:s≠[]):∃p r,gm s=some (p,r):=by
 cases s with
 |nil=>exact absurd rfl h
 |cons x t=>
  show ∃p r,(if ax (x::t) then some (Pc.sign (t.headD 0),t.tail) else if x=42 then some (Pc.star,t) else if x=96 then some ((bH t).getD (.sign 96,t)) else if x=91 then some (((bL t).or (bj t)).getD (.sign 91,t)) else some (Pc.sign x,t))=some (p,r);split
  ·exact⟨_,_,rfl⟩
  ·split
   ·exact⟨_,_,rfl⟩
   ·split
    ·exact⟨_,_,rfl⟩
    ·split <;> exact⟨_,_,rfl⟩
def ek:∀(n:Nat) (s:List Nat),s.length<=n->(aB s).length<=s.length
 |n,[],_=>by rw[cH];exact l5 0
 |0,x::s,h=>by simp at h
 |n+1,x::s,h=>by
  obtain⟨p,r,e⟩:=dC (s:=x::s) (by simp);rw[cj e,l4];have h1:=ig e;have h2:=ek n r nofun;omega
inductive Qc where
 |txt (l:List Nat)
 |part (p:PC)
def toQ:Pc->Qc
 | .sign x => .txt [x]
 | .star => .txt [42]
 | .code l => .part (.one (.code (S l)))
 | .note n => .part (.one (.note (S n)))
 | .link w n => .part (.one (.link (S w) (S n)))
def bm (sg:List (List Nat)):List PC:=if sg.isEmpty then [] else [.one (.plain (S sg.flatten))]
def mgGo (sg:List (List Nat)):List Qc->List PC
 | []=>bm sg
 | .txt l::r=>mgGo (sg++[l]) r
 | .part p::r=>bm sg++p::mgGo [] r
def aY (inn:List Qc):Qc:=if inn.isEmpty then .txt [42,42] else .part (.strong (ones (mgGo [] inn)))
def wsGo:Option (List Qc)->List Pc->List Qc
 |none,[]=>[]
 |some inn,[] => .txt [42]::inn
 |none, .star::r=>wsGo (some []) r
 |some inn, .star::r=>aY inn::wsGo none r
 |none,p::r=>toQ p::wsGo none r
 |some inn,p::r=>wsGo (some (inn++[toQ p])) r
def bn (t:List Nat):List PC:=mgGo [] (wsGo none (aB t))
def QAt (c:Cp)(H:Hp)(v:V):Qc->Prop
 | .txt l=>v=vS l
 | .part p=>∃a,v = .ref a/\PCAt c H a p
theorem QAt.same {c:Cp}{H H':Hp}{v:V}(s:Same H H'):∀{p:Qc},QAt c H v p->QAt c H' v p
 | .txt _,h=>h
 | .part _,⟨a,e,h⟩=>⟨a,e,h.same s⟩
def QsAt (c:Cp)(H:Hp):List V->List Qc->Prop
 | [],[]=>True
 |v::vs,p::ps=>QAt c H v p/\QsAt c H vs ps
 |_,_=>False
theorem QsAt.same {c:Cp}{H H':Hp}(s:Same H H'):∀{vs:List V} {ps:List Qc},QsAt c H vs ps->QsAt c H' vs ps
 | [],[],_=>trivial
 |_::_,_::_,⟨a,b⟩=>⟨a.same s,b.same s⟩
theorem QsAt.len {c:Cp}{H:Hp}:∀{vs:List V} {ps:List Qc},QsAt c H vs ps->vs.length=ps.length
 | [],[],_=>rfl
 |_::_,_::_,⟨_,b⟩=>by rw[l4,l4,b.len]
def QsAt.snoc {c:Cp}{H:Hp}{vs:List V}{ps:List Qc}{v:V}{p:Qc}(h:QsAt c H vs ps)(k:QAt c H v p):QsAt c H (vs++[v]) (ps++[p]):=by
 induction vs generalizing ps with
 |nil=>
  cases ps with
  |nil=>exact⟨k,trivial⟩
  |cons _ _=>exact h.elim
 |cons _ _ ih=>
  cases ps with
  |nil=>exact h.elim
  |cons _ _=>exact⟨h.1,ih h.2⟩
theorem QsAt.app {c:Cp}{H:Hp}:∀{vs us:List V} {ps qs:List Qc},QsAt c H vs ps->QsAt c H us qs->QsAt c H (vs++us) (ps++qs)
 | [],_,[],_,_,h=>h
 |_::_,_,_::_,_,⟨a,b⟩,h=>⟨a,b.app h⟩
theorem QsAt.get {c:Cp}{H:Hp}:∀{vs:List V} {ps:List Qc} {i:Nat} {v:V},QsAt c H vs ps->vs[i]? = some v->∃p,ps[i]? = some p/\QAt c H v p
 | [],[],_,_,_,e=>by simp at e
 |_::_,_::_,0,_,⟨h,_⟩,e=>by cases e;exact⟨_,rfl,h⟩
 |_::_,_::_,i+1,_,⟨_,b⟩,e=>by
  obtain⟨p,h1,h2⟩:=b.get (i:=i) (by simpa using e);exact⟨p,by simpa using h1,h2⟩
theorem PcAt.toQ {c:Cp}{H:Hp}{v:V}:∀{p:Pc},PcAt c H v p->p ≠ .star->QAt c H v (toQ p)
 | .sign _,h,_=>h
 | .star,_,z=>absurd rfl z
 | .code _,h,_=>h
 | .note _,h,_=>h
 | .link _ _,h,_=>h
def lenQ:List Qc->Nat
 | []=>0
 | .txt l::r=>l.length+lenQ r
 | .part _::r=>lenQ r
theorem cI:∀(a b:List Qc),lenQ (a++b)=lenQ a+lenQ b
 | [],b=>by rw[l68];show _=0+_;omega
 | .txt l::a,b=>by rw[l71];show l.length+lenQ (a++b)=l.length+lenQ a+lenQ b;rw[cI a b];omega
 | .part _::a,b=>by rw[l71];show lenQ (a++b)=lenQ a+lenQ b;exact cI a b
def QOk (qs:List Qc):Prop:=∀l,Qc.txt l∈qs->Asc l/\l≠[]
def PcOk (ps:List Pc):Prop:=∀x,Pc.sign x∈ps->x < 128
def ii (p:Pc):lenQ [toQ p]<=1:=by cases p <;> simp[toQ,lenQ]
def ij {p:Pc}(hp:p ≠ .star){r:List Pc}(h:lenQ (wsGo none r)<=r.length+0/\(wsGo none r).length<=r.length+0):lenQ (wsGo none (p::r))<=(p::r).length+0/\(wsGo none (p::r)).length<=(p::r).length+0:=by
 obtain⟨h1,h2⟩:=h;have e:wsGo none (p::r)=[toQ p]++wsGo none r:=by cases p <;> first |rfl |exact absurd rfl hp
 have h3:=ii p;rw[e,cI,l8,l4,l4,l27];omega
def ik {p:Pc}(hp:p ≠ .star){r:List Pc}{inn:List Qc}(h:lenQ (wsGo (some (inn++[toQ p])) r)<=r.length+(lenQ (inn++[toQ p])+1)/\(wsGo (some (inn++[toQ p])) r).length<=r.length+((inn++[toQ p]).length+1)):lenQ (wsGo (some inn) (p::r))<=(p::r).length+(lenQ inn+1)/\(wsGo (some inn) (p::r)).length<=(p::r).length+(inn.length+1):=by
 obtain⟨h1,h2⟩:=h;have e:wsGo (some inn) (p::r)=wsGo (some (inn++[toQ p])) r:=by cases p <;> first |rfl |exact absurd rfl hp
 have h3:=ii p;rw[cI] at h1;rw[l8,l4,l27] at h2;rw[e,l4];omega
theorem bx:∀(ps:List Pc) (o:Option (List Qc)),lenQ (wsGo o ps)<=ps.length+(match o with |none=>0 |some inn=>lenQ inn+1)/\(wsGo o ps).length<=ps.length+(match o with |none=>0 |some inn=>inn.length+1)
 | [],none=>⟨l5 _,l5 _⟩
 | [],some inn=>by
  show 1+lenQ inn<=0+(lenQ inn+1)/\inn.length+1<=0+(inn.length+1);omega
 | .star::r,none=>by
  have h:=bx r (some []);have h1:lenQ (wsGo (some []) r)<=r.length+(0+1):=h.1;have h2:(wsGo (some []) r).length<=r.length+(0+1):=h.2;show lenQ (wsGo (some []) r)<=(r.length+1)+0/\(wsGo (some []) r).length<=(r.length+1)+0;omega
 | .star::r,some inn=>by
  have h:=bx r none;have h1:lenQ (wsGo none r)<=r.length+0:=h.1;have h2:(wsGo none r).length<=r.length+0:=h.2;have h3:lenQ (aY inn::wsGo none r)<=2+lenQ (wsGo none r):=by
   unfold aY;split
   ·show 2+_<=_;exact l5 _
   ·show lenQ (wsGo none r)<=2+lenQ (wsGo none r);omega
  show lenQ (aY inn::wsGo none r)<=(r.length+1)+(lenQ inn+1)/\(wsGo none r).length+1<=(r.length+1)+(inn.length+1);omega
 | .sign x::r,none=>ij (by rintro⟨⟩) (bx r none)
 | .code l::r,none=>ij (by rintro⟨⟩) (bx r none)
 | .note l::r,none=>ij (by rintro⟨⟩) (bx r none)
 | .link a b::r,none=>ij (by rintro⟨⟩) (bx r none)
 | .sign x::r,some inn=>ik (by rintro⟨⟩) (bx r (some (inn++[_])))
 | .code l::r,some inn=>ik (by rintro⟨⟩) (bx r (some (inn++[_])))
 | .note l::r,some inn=>ik (by rintro⟨⟩) (bx r (some (inn++[_])))
 | .link a b::r,some inn=>ik (by rintro⟨⟩) (bx r (some (inn++[_])))
def il {c lo hi:Nat}{l:List Nat}(h:cutAt c ((l.take hi).drop lo)=none):fndC c l lo hi = -1:=by
 unfold fndC;rw[h]
def im {c lo hi:Nat}{l a b:List Nat}(h:cutAt c ((l.take hi).drop lo)=some (a,b)):fndC c l lo hi=((lo+a.length:Nat):Int):=by
 unfold fndC;rw[h]
def win (t:List Nat)(m k:Nat):(t.take (min (m+k) t.length)).drop m=(t.drop m).take k:=by
 refine l73 λi=>?_;rw[List.getElem?_drop,List.getElem?_take,List.getElem?_take,List.getElem?_drop];by_cases h:i < k
 ·rw[if_pos h];by_cases h2:m+i < t.length
  ·rw[if_pos nofun]
  ·rw[if_neg nofun,List.getElem?_eq_none nofun]
 ·rw[if_neg h,if_neg nofun]
def gM {K:Frag}{te ti:TE}{σ:St}{H:Hp}{y:Str}{l z:List Nat}{i:Nat}(ey:y=S z)(hz:z≠[])(he:Ev te σ H (vS l))(hi:Ev ti σ H (.int (i:Int))):
  Tells (tB (tBM K "str" rStartsAt te (tCons (tC (.str y)) (tCons ti tNil)))) σ H (z.isPrefixOf (l.drop i)):=by
 intro R k;subst ey;exact he _ ⟨rfl,hi _ ⟨l,z,i,rfl,rfl,hz,_,rfl,k H (Same.refl H)⟩⟩
theorem fh:∀{t:List Nat} {c:Nat},c∈freeC t->c∈t
 | [],_,h=>h
 | [_],_,h=>h
 |x::y::r,c,h=>by
  have h:c∈(if x=92/\takenC.contains y=true then y::freeC r else x::freeC (y::r)):=h;split at h
  ·rcases l6.mp h with e |e
   ·rw[e];exact l7 _ l10
   ·exact l7 _ (l7 _ (fh e))
  ·rcases l6.mp h with e |e
   ·rw[e];exact l10
   ·exact l7 _ (fh e)
def gN {l:List Nat}(h:Asc l)(hl:l.length<=100000):StrG (S l):=⟨rQ h,by rw[aH];exact hl⟩
def sD {H H1:Hp}{x dx C:Addr}{o:HO}(s:Same H H1)(hx:H1 x=none)(hdx:H1 dx=none):Same H (upd (upd (upd H1 dx (.own x)) x (.ins C dx [])) x o)/\dif H (upd (upd (upd H1 dx (.own x)) x (.ins C dx [])) x o) x=some o:=
 ⟨ak (s.free hx) (ak (s.free hx) (ak (s.free hdx) s)),by rw[ao (s.free hx)];exact aa⟩
def uC {H H1:Hp}{x dx C:Addr}{o1 o:HO}(s:Same H H1)(hx:H1 x=none)(hdx:H1 dx=none):Same H (upd (upd (upd (upd H1 dx (.own x)) x (.ins C dx [])) x o1) x o)/\dif H (upd (upd (upd (upd H1 dx (.own x)) x (.ins C dx [])) x o1) x o) x=some o:=
 ⟨ak (s.free hx) (ak (s.free hx) (ak (s.free hx) (ak (s.free hdx) s))),by rw[ao (s.free hx)];exact aa⟩
def io {H H2:Hp}{tp:Addr}(h:H2 tp=none)(o:HO):Same (dif H H2) (dif H (upd H2 tp o)):=ar (Same.refl _) (ac h o)
def Mo (R:Hp->Prop):Prop:=∀G G',Same G G'->R G->R G'
inductive NewQ (H:Hp)(W:List Addr)(H':Hp)(R:Hp->Prop):Prop
 |mk (G)(_:Same G H')(_:∀b∈W,G b=none)(_:∀b,H b≠none->G b=none)(_:R G)
section
variable {H H' H3 H4:Hp}{W:List Addr}{R R2 R':Hp->Prop}
def NewQ.same (h:NewQ H W H' R)(s:Same H' H4):NewQ H W H4 R:=let ⟨G,a,b,d,e⟩:=h;⟨G,a.trans s,b,d,e⟩
def NewQ.upd {p:Addr}{o:HO}(h:NewQ H W H' R)(hp:p∈W):NewQ H W (L2.upd H' p o) R:=
 let ⟨G,a,b,d,e⟩:=h
 ⟨G,λx u z=>(af (nq (b p hp) z)).trans (a x u z),b,d,e⟩
def NewQ.wide {p:Addr}(h:NewQ H W H' R)(hp:H' p=none):NewQ H (p::W) H' R:=
 let ⟨G,a,b,d,e⟩:=h
 ⟨G,a,λx hx=>by
  rcases l6.mp hx with z |z
  ·rw[z];exact a.free hp
  ·exact b x z,d,e⟩
def NewQ.less {W':List Addr}(h:NewQ H W H' R)(k:∀b∈W',b∈W):NewQ H W' H' R:=let ⟨G,a,b,d,e⟩:=h;⟨G,a,λx hx=>b x (k x hx),d,e⟩
def NewQ.dif (h:NewQ H W H' R)(m:Mo R):R (dif H H'):=
 let ⟨G,a,_,d,e⟩:=h
 m G _ (λx u z=>by
  have hx:H x=none:=by
   cases q:H x with
   |none=>rfl
   |some o=>rw[d x (by rw[q];simp)] at z;cases z
  rw[ao hx];exact a x u z) e
def NewQ.join (h:NewQ H W H' R)(h2:NewQ H W H' R2)(m:Mo R)(m2:Mo R2)(k:∀G,R G->R2 G->R' G):NewQ H W H' R':=
 let ⟨G,a,b,d,e⟩:=h
 let ⟨G2,a2,b2,d2,e2⟩:=h2
 ⟨both G G2,na a a2,λx hx=>by unfold both;rw[b x hx];exact b2 x hx,λx hx=>by unfold both;rw[d x hx];exact d2 x hx,k _ (m _ _ qD e) (m2 _ _ (qE a a2) e2)⟩
def NewQ.of (s:Same H H3)(hW:∀b∈W,H3 b≠none)(h:R (L2.dif H3 H4)):NewQ H W H4 R:=⟨L2.dif H3 H4,dif_same,λb hb=>dk (hW b hb),λb hb=>dk (λz=>hb (s.free z)),h⟩
def NewQ.old (s:Same H3 H4)(hs:Same H H3)(hW:∀b∈W,H3 b=none)(h:R (L2.dif H H3)):NewQ H W H4 R:=⟨L2.dif H H3,dif_same.trans s,λb hb=>by rw[ao (hs.free (hW b hb))];exact hW b hb,λb hb=>dk hb,h⟩
def NewQ.triv (h:R λ_=>none):NewQ H W H' R:=⟨λ_=>none,(λ_ _ z=>nomatch z),(λ_ _=>rfl),(λ_ _=>rfl),h⟩
end
def vk {c:Cp}{v:V}{p:Pc}:Mo λG=>PcAt c G v p:=λ_ _ s h=>h.same s
def qH {c:Cp}{vs:List V}{ps:List Pc}:Mo λG=>PcsAt c G vs ps:=λ_ _ s h=>h.same s
def mo_Q {c:Cp}{v:V}{p:Qc}:Mo λG=>QAt c G v p:=λ_ _ s h=>h.same s
def vm {c:Cp}{vs:List V}{ps:List Qc}:Mo λG=>QsAt c G vs ps:=λ_ _ s h=>h.same s
def uD {c:Cp}{a:Addr}{p:PC}:Mo λG=>PCAt c G a p:=λ_ _ s h=>h.same s
def k8 {c:Cp}{as:List Addr}{ps:List PC}:Mo λG=>PCs c G as ps:=λ_ _ s h=>h.same s
def NewQ.map {H H':Hp}{W:List Addr}{R R':Hp->Prop}(h:NewQ H W H' R)(k:∀G,R G->R' G):NewQ H W H' R':=let ⟨G,a,b,d,e⟩:=h;⟨G,a,b,d,k G e⟩
def nt {s r:List Nat}{x:Nat}(h:gm s=some (.sign x,r)):x∈s:=by
 cases s with
 |nil=>cases h
 |cons y t=>
  have h:(if ax (y::t) then some (Pc.sign (t.headD 0),t.tail) else if y=42 then some (Pc.star,t) else if y=96 then some ((bH t).getD (.sign 96,t)) else if y=91 then some (((bL t).or (bj t)).getD (.sign 91,t)) else some (Pc.sign y,t))=some (.sign x,r):=h;split at h
  ·rename_i hk;cases h;obtain⟨z,r',e⟩:=bp hk;cases e;exact l7 _ l10
  ·split at h
   ·cases h
   ·split at h
    ·rename_i e;cases hc:bH t with
     |none=>rw[hc] at h;cases h;rw[e];exact l10
     |some q=>
      rw[hc] at h;cases h;unfold bH at hc;split at hc <;> cases hc
    ·split at h
     ·rename_i e;cases hm:bL t with
      |some q=>
       rw[hm] at h;cases h;unfold bL at hm;split at hm
       ·cases hn:nameAt 93 _ with
        |none=>rw[hn] at hm;cases hm
        |some q=>rw[hn] at hm;cases hm
       ·cases hm
      |none=>
       rw[hm] at h;cases hl:bj t with
       |none=>rw[hl] at h;cases h;rw[e];exact l10
       |some q=>
        rw[hl] at h;cases h;unfold bj at hl;split at hl
        ·split at hl
         ·cases hn:nameAt 41 _ with
          |none=>rw[hn] at hl;cases hl
          |some q=>rw[hn] at hl;cases hl
         ·cases hl
        ·cases hl
     ·cases h;exact l10
def nu {s r:List Nat}{p:Pc}(h:gm s=some (p,r)):∀c∈r,c∈s:=by
 rcases jm h with ⟨_,x,y,e⟩ |⟨_,x,e⟩ |⟨u,z,e,_⟩ <;> intro c hc <;> rw[e]
 ·exact l7 _ (l7 _ hc)
 ·exact l7 _ hc
 ·exact l31 _ (l7 _ hc)
def jn:∀(n:Nat) (s:List Nat),s.length<=n->Asc s->PcOk (aB s)
 |n,[],_,_=>by rw[cH];exact λ_ z=>nomatch z
 |0,x::s,h,_=>by simp at h
 |n+1,x::s,h,ha=>by
  obtain⟨p,r,e⟩:=dC (s:=x::s) (by simp);rw[cj e];have h1:=ig e;intro y hy;rcases l6.mp hy with z |z
  ·subst z;exact ha y (nt e)
  ·exact jn n r nofun (ha.sub (nu e)) y z
def nv {p:Pc}{l:List Nat}(hp:∀x,p = .sign x->x < 128)(h:Qc.txt l=toQ p):Asc l/\l≠[]:=by
 cases p with
 |sign x=>cases h;exact⟨λc hc=>by rw[l14.mp hc];exact hp x rfl,by simp⟩
 |star=>cases h;exact⟨by unfold Asc;decide,by simp⟩
 |code l=>cases h
 |note l=>cases h
 |link a b=>cases h
def QOk.app {a b:List Qc}(h:QOk a)(k:QOk b):QOk (a++b):=λl hl=>by
 rcases l20.mp hl with z |z
 ·exact h l z
 ·exact k l z
def QOk.cons {a:Qc}{b:List Qc}(h:∀l,Qc.txt l=a->Asc l/\l≠[])(k:QOk b):QOk (a::b):=λl hl=>by
 rcases l6.mp hl with z |z
 ·exact h l z
 ·exact k l z
def QOk.nil:QOk []:=λ_ z=>nomatch z
def lS (inn:List Qc):∀l,Qc.txt l=aY inn->Asc l/\l≠[]:=λl h=>by
 unfold aY at h;split at h
 ·cases h;exact⟨by unfold Asc;decide,by simp⟩
 ·cases h
theorem fU:∀(ps:List Pc) (o:Option (List Qc)),PcOk ps->(∀inn,o=some inn->QOk inn)->QOk (wsGo o ps)
 | [],none,_,_=>QOk.nil
 | [],some inn,_,h=>QOk.cons (λl z=>by cases z;exact⟨by unfold Asc;decide,by simp⟩) (h inn rfl)
 | .star::r,none,hp,h=>fU r (some []) (λx hx=>hp x (l7 _ hx)) λinn e=>by cases e;exact QOk.nil
 | .star::r,some inn,hp,h=>QOk.cons (lS inn) (fU r none (λx hx=>hp x (l7 _ hx)) λinn e=>nomatch e)
 | .sign x::r,none,hp,h=>QOk.cons (λl z=>nv (p := .sign x) (λy e=>by cases e;exact hp x l10) z) (fU r none (λx hx=>hp x (l7 _ hx)) λinn e=>nomatch e)
 | .code x::r,none,hp,h=>QOk.cons (λl z=>nomatch z) (fU r none (λx hx=>hp x (l7 _ hx)) λinn e=>nomatch e)
 | .note x::r,none,hp,h=>QOk.cons (λl z=>nomatch z) (fU r none (λx hx=>hp x (l7 _ hx)) λinn e=>nomatch e)
 | .link x y::r,none,hp,h=>QOk.cons (λl z=>nomatch z) (fU r none (λx hx=>hp x (l7 _ hx)) λinn e=>nomatch e)
 | .sign x::r,some inn,hp,h=>fU r (some (inn++[toQ (.sign x)])) (λx hx=>hp x (l7 _ hx)) λ_ e=>by cases e;exact(h inn rfl).app (QOk.cons (λl z=>nv (p := .sign x) (λy e=>by cases e;exact hp x l10) z) QOk.nil)
 | .code x::r,some inn,hp,h=>fU r (some (inn++[toQ (.code x)])) (λx hx=>hp x (l7 _ hx)) λ_ e=>by cases e;exact(h inn rfl).app (QOk.cons (λl z=>nomatch z) QOk.nil)
 | .note x::r,some inn,hp,h=>fU r (some (inn++[toQ (.note x)])) (λx hx=>hp x (l7 _ hx)) λ_ e=>by cases e;exact(h inn rfl).app (QOk.cons (λl z=>nomatch z) QOk.nil)
 | .link x y::r,some inn,hp,h=>fU r (some (inn++[toQ (.link x y)])) (λx hx=>hp x (l7 _ hx)) λ_ e=>by cases e;exact(h inn rfl).app (QOk.cons (λl z=>nomatch z) QOk.nil)
def fV {p:Pc}(hp:p ≠ .star)(r:List Pc):wsGo none (p::r)=toQ p::wsGo none r:=by cases p <;> first |rfl |exact absurd rfl hp
def fW {p:Pc}(hp:p ≠ .star)(r:List Pc)(inn:List Qc):wsGo (some inn) (p::r)=wsGo (some (inn++[toQ p])) r:=by cases p <;> first |rfl |exact absurd rfl hp
def OneQ (qs:List Qc):Prop:=∀p,Qc.part p∈qs->one? p≠none
def OneQ.snoc {qs:List Qc}(h:OneQ qs)(p:Pc):OneQ (qs++[toQ p]):=λq hq=>by
 rcases l20.mp hq with z |z
 ·exact h q z
 ·have z:=l14.mp z;cases p <;> cases z <;> exact λe=>nomatch e
def gO (sg:List (List Nat)):∀p∈bm sg,one? p≠none:=λp hp=>by
 unfold bm at hp;split at hp
 ·cases hp
 ·rw[l14.mp hp];exact λe=>nomatch e
theorem kh:∀(qs:List Qc) (sg:List (List Nat)),OneQ qs->∀p∈mgGo sg qs,one? p≠none
 | [],sg,_,p,hp=>gO sg p hp
 | .txt l::r,sg,h,p,hp=>kh r (sg++[l]) (λq hq=>h q (l7 _ hq)) p hp
 | .part q::r,sg,h,p,hp=>by
  have hp:p∈bm sg++q::mgGo [] r:=hp;rcases l20.mp hp with z |z
  ·exact gO sg p z
  ·rcases l6.mp z with z |z
   ·rw[z];exact h q l10
   ·exact kh r [] (λq hq=>h q (l7 _ hq)) p z
theorem fX:∀l:List (List Nat),aF [] l=l.flatten
 | []=>rfl
 | [c]=>by show c=c++[];rw[l29]
 |c::d::r=>by
  have ih:=fX (d::r);rw[cE _ _ _ (by simp),ih,l29];simp
def k9 (l:List (List Nat))(h:l.flatten.length<=100000):(((l.map S).map (·.length)).sum+(l.map S).length * (S []).length)<=sizeLine:=by
 have e:((l.map S).map (·.length)).sum=l.flatten.length:=by
  clear h
  induction l with
  |nil=>rfl
  |cons x l ih=>rw[l13,l13,l19,ih,aH,l56,l8]
 rw[e,aH,sizeLine_eq];simp only[l27,Nat.mul_zero];omega
def nw {qs:List Qc}{i:Nat}{q:Qc}(h:qs[i]? = some q):lenQ (qs.drop i)=lenQ [q]+lenQ (qs.drop (i+1)):=by
 obtain⟨hi,he⟩:=List.getElem?_eq_some_iff.mp h;rw[l25 hi,he,<- cI];rfl
def ny {v:V}{i:Nat}{u:TS}{D:Ends}{σ:St}{H:Hp}(h:u D (σ.set i (some v)) H):tSeq (tAsg (tC v) (al i)) u D σ H:=h
end Lw
namespace K14
open PySem L2 Lm Lw
structure TxI (K:Frag)(mg:Str->Option Value)(c:Cp)(BT:Addr):Prop extends TxP K mg c BT where
 g14:∃t,mg "TAKEN"=some (.str (S takenC) t)
 z51:kitOne K (.ref c.Plain) (.type "str")=some false
 q51:kitOne K (.ref c.Code) (.type "str")=some false
 u52:kitOne K (.ref c.Strong) (.type "str")=some false
 g52:kitOne K (.ref c.Link) (.type "str")=some false
 z52:kitOne K (.ref c.Mark) (.type "str")=some false
theorem TxI.noStr {K:Frag}{mg:Str->Option Value}{c:Cp}{BT:Addr}(T:TxI K mg c BT){H:Hp}{a:Addr}:∀{p:PC},PCAt c H a p->∃t,TyOf K H (.ref a) t/\kitOne K t (.type "str")=some false
 | .one (.plain _),⟨_,_,e⟩=>⟨_,T.g27.ty e,T.z51⟩
 | .one (.code _),⟨_,_,e⟩=>⟨_,T.z27.ty e,T.q51⟩
 | .one (.link _ _),⟨_,_,_,e⟩=>⟨_,T.z16.ty e,T.g52⟩
 | .one (.note _),⟨_,_,e⟩=>⟨_,T.u28.ty e,T.z52⟩
 | .strong _,⟨_,_,_,e,_⟩=>⟨_,T.q27.ty e,T.u52⟩
def la {t:List Nat}{i:Nat}(h:i < t.length):ax (t.drop i)=(decide (t.getD i 0=92)&&decide (i+1 < t.length)&&takenC.contains (t.getD (i+1) 0)):=by
 rw[l25 h];have e:t.getD i 0=t[i]:=by rw[l22,List.getElem?_eq_getElem h];rfl
 rw[e];by_cases h2:i+1 < t.length
 ·rw[l25 h2];have e2:t.getD (i+1) 0=t[i+1]:=by rw[l22,List.getElem?_eq_getElem h2];rfl
  rw[e2,decide_eq_true h2,Bool.and_true];by_cases h3:t[i]=92
  ·rw[h3];rfl
  ·rw[decide_eq_false h3,Bool.false_and];unfold ax;split
   ·rename_i z;exact absurd (List.cons.inj z).1 h3
   ·rfl
 ·rw[decide_eq_false h2,Bool.and_false,Bool.false_and,l32 nofun];unfold ax;split
  ·rename_i z;exact absurd (List.cons.inj z).2 (λy=>nomatch y)
  ·rfl
section
variable {c:Cp}{BT:Addr}
abbrev nA:Stmt:=top 58
inductive spTakes (vs:List V)(H:Hp)(Q:VK)(u3:XK):Prop
 |mk (t:List Nat)(i:Nat)(_:vs=[vS t, .int (i:Int)])(_:i < t.length)(_:t.length<=1000000)(_:∀H',Same H H'->Q (.bl (ax (t.drop i))) H')
def pJ (F:Fun K "takes_next" "takes_next" nA f fd)(T:TxI K mg c BT):FnOk P w K mg base CX0 1 f fd p4 spTakes:=by
 have sc:FnScope p4 p4 (ad nA):=mkS;refine F.oks sc λH Q hr h=>?_;obtain⟨t,i,rfl,hi,hl,q⟩:=h;refine am (xbc (xif (xor (az jM (xix de (xv 0) (xv 1) (λ_ _=>rfl)) xstr (ai _)) (xor1 (az be (xop av (xv 1) xint) (xcB ap T.u10 PySem.boot_len (xac (xv 0) xa0)) (ai _)))).xt (xb1 (xret xbl)) xb0)
  (xb1 (xret (xcmp fu (xix de (xv 0) (xop av (xv 1) xint) (λ_ _=>rfl)) (xgS T.g14) (by with_unfolding_all rfl))))) ?_
 rw[u0];have hix:∀H',Ev (tOp rIxS (tVar 0) (tVar 1)) [some (vS t),some (V.int (i:Int))] H' (vS [t.getD i 0]):=λH'=>by
  have:=ut (σ:=[some (vS t),some (V.int (i:Int))]) (H:=H') (ta:=tVar 0) (tb:=tVar 1) (l:=t) (i:=(i:Int)) hl (ev_v rfl) (ev_v rfl) nofun nofun;rw[l45] at this;exact this
 have hT:Tells (tOr (tTest (tOp rNe (tOp rIxS (tVar 0) (tVar 1)) (tC (.str "\\")))) (tTest (tOp rEq (tOp (rI0 λi j=>V.int (i+j)) (tVar 1) (tC (.int 1))) (tCB R_call_len_str (tCons (tVar 0) tNil))))) [some (vS t),some (V.int (i:Int))] H (decide ([t.getD i 0]≠[92])||decide (i+1=t.length)):=by
  refine t_or _ _ (t_ne _ [92] rfl (hix H)) λ_ H' _ R k=>⟨_,rfl,_,_,rfl,rfl,_,rfl,_,rfl,bigS hl,rfl,_,rfl,?_⟩;rw[aH,show decide (V.int ((i:Int)+1)=V.int (t.length:Nat))=decide (i+1=t.length) by rw[decide_eq_decide];exact⟨λz=>by have:=V.int.inj z;omega,λz=>by rw[<- z];rfl⟩];exact k _ (Same.refl _)
 by_cases hc:t.getD i 0=92/\i+1 < t.length
 ·obtain⟨h1,h2⟩:=hc;refine aM (hT.eq ?_) λH1 s1=>?_
  ·rw[h1,Bool.or_eq_false_iff];exact⟨decide_eq_false (λz=>z rfl),decide_eq_false nofun⟩
  ·refine⟨_,rfl,_,rfl,_,_,rfl,rfl,lP hl nofun nofun ⟨S [t.getD (i+1) 0],S takenC,?_,rfl,?_⟩⟩
   ·rw[show ((i:Int)+1).toNat=i+1 by omega]
   ·have hq:=q H1 s1;rw[la hi,decide_eq_true h1,decide_eq_true h2,Bool.true_and,Bool.true_and] at hq;rw[dZ];exact hq
 ·refine bF (hT.eq ?_) λH1 s1=>?_
  ·rw[Bool.or_eq_true];by_cases h1:t.getD i 0=92
   ·exact .inr (decide_eq_true (by have:¬ i+1 < t.length:=λz=>hc ⟨h1,z⟩;omega))
   ·exact .inl (decide_eq_true λz=>h1 (List.cons.inj z).1)
  ·have hq:=q H1 s1;rw[la hi] at hq;have:(decide (t.getD i 0=92)&&decide (i+1 < t.length))=false:=by
    rw[Bool.and_eq_false_iff];by_cases h1:t.getD i 0=92
    ·exact .inr (decide_eq_false λz=>hc ⟨h1,z⟩)
    ·exact .inl (decide_eq_false h1)
   rw[this,Bool.false_and] at hq;exact hq
def nB {x y:Nat}{r:List Nat}(h:ax (x::y::r)=true):freeC (x::y::r)=y::freeC r:=by
 have hx:x=92/\takenC.contains y=true:=by
  by_cases e:x=92
  ·subst e;exact⟨rfl,h⟩
  ·exfalso;unfold ax at h;split at h
   ·rename_i z;exact e (List.cons.inj z).1
   ·cases h
 show (if x=92/\takenC.contains y=true then y::freeC r else x::freeC (y::r))=_;rw[if_pos hx]
def pK {x:Nat}{r:List Nat}(h:ax (x::r)=false):freeC (x::r)=x::freeC r:=by
 cases r with
 |nil=>rfl
 |cons y r=>
  show (if x=92/\takenC.contains y=true then y::freeC r else x::freeC (y::r))=_;rw[if_neg];rintro⟨rfl,hy⟩;rw[show ax (92::y::r)=takenC.contains y from rfl,hy] at h;cases h
def nC {s:List Nat}(h:ax s=true):∃y r,s=92::y::r:=by
 unfold ax at h;split at h
 ·exact⟨_,_,rfl⟩
 ·cases h
theorem jo:∀l:List Nat,aF [] (l.map λc=>[c])=l
 | []=>rfl
 | [c]=>rfl
 |c::d::r=>by
  have ih:=jo (d::r);rw[l13,cE _ _ _ (by simp),ih];rfl
theorem dF:∀t:List Nat,(freeC t).length<=t.length
 | []=>l5 0
 | [x]=>l5 1
 |x::y::r=>by
  show (if x=92/\takenC.contains y=true then y::freeC r else x::freeC (y::r)).length<=_;have h1:=dF r;have h2:=dF (y::r);split <;> simp only[l4] at * <;> omega
def pL {l:List Nat}(h:l.length<=1000000):((((l.map λc=>[c]).map S).map (·.length)).sum+((l.map λc=>[c]).map S).length * (S []).length)<=sizeLine:=by
 have e:(((l.map λc=>[c]).map S).map (·.length)).sum=l.length:=by
  clear h
  induction l with
  |nil=>rfl
  |cons x l ih=>rw[l13,l13,l13,l19,ih,aH];simp only[l4,l27];omega
 rw[e,aH,sizeLine_eq];simp only[l27,Nat.mul_zero];omega
abbrev nE:Stmt:=top 63
inductive spFreed (vs:List V)(H:Hp)(Q:VK)(u3:XK):Prop
 |mk (t:List Nat)(_:vs=[vS t])(_:t.length<=100000)(_:∀H',Same H H'->Q (vS (freeC t)) H')
def pM (F:Fun K "freed" "freed" nE f fd)(T:TxI K mg c BT)(Di:Def P w K mg base 1 "takes_next" p4 spTakes):FnOk P w K mg base CX0 2 f fd ["text"] spFreed:=by
 have sc:FnScope ["text","signs","place"] ["text"] (ad nE):=mkS;refine F.oks sc λH Q hr h=>?_;obtain⟨t,rfl,hl,q⟩:=h;refine am (xbc (xst (i:=1) sc.nd (xlst xa0))
  (xbc (xst (i:=2) sc.nd xint)
  (xbc (cx PassesOwn.never (az db (xv 2) (xcB ap T.u10 PySem.boot_len (xac (xv 0) xa0)) (ai _))
  (xbc (xif (aZ (xcd Di hr (xac (xv 0) (xac (xv 2) xa0)))) (xb1 (xaug (i:=2) sc.nd rfl (Or.inl rfl) xint fq)) xb0)
  (xbc (bw (xmA (xv 1) (xac (xix de (xv 0) (xv 2) (λ_ _=>rfl)) xa0)))
  (xb1 (xaug (i:=2) sc.nd rfl (Or.inl rfl) xint fq)))))
  (xb1 (xret (xm plainAttrs_str slot_str_join type_str_join b8 xstr (xac (xv 1) xa0))))))) ?_
 have hs:=sizeLine_eq;rw[rB];refine⟨bg0,λl hl0=>?_⟩;have s1:=ac hl0 (.lst []);have e1:upd H l (.lst []) l=some (.lst []):=aa;dsimp only[tAsg.K0,tDrop.K0,Ends.to_nx,Ends.to_rt,al,sA,sB];generalize upd H l (.lst [])=H1 at s1 e1 ⊢;show tSeq (tWhile _ _) _ _ [some (vS t),some (.ref l),some (.int ((0:Nat):Int))] H1;refine bG (λσ' H'=>σ'=[some (vS t),some (.ref l),some (.int (t.length:Nat))]/\Same H H'/\H' l=some (.lst ((freeC t).map λc=>vS [c]))) (λN hN=>?_) ?_
 ·refine ce (λm σ' H'=>∃(p:Nat) (dn:List Nat),σ'=[some (vS t),some (.ref l),some (.int (p:Nat))]/\Same H H'/\H' l=some (.lst (dn.map λc=>vS [c]))/\p<=t.length/\m=t.length - p/\dn++freeC (t.drop p)=freeC t) t.length ⟨0,[],rfl,s1,e1,l12 _,rfl,rfl⟩ ?_;rintro m σ' H2 ⟨p,dn,rfl,s2,e2,hp,rfl,hd⟩;refine⟨decide (p < t.length),λR k=>⟨_,rfl,_,rfl,_,rfl,bigS nofun,_,_,rfl,rfl,_,rfl,?_⟩,λhc H3 s3=>?_,λhc H3 s3=>?_⟩
  ·rw[aH,show decide ((p:Int) < ((t.length:Nat):Int))=decide (p < t.length) by rw[decide_eq_decide];omega];exact k _ (Same.refl _)
  ·have hpl:p < t.length:=of_decide_eq_true hc;have hdl:(freeC t).length<=t.length:=dF t;have dl:dn.length<=t.length:=by
    have:=congrArg List.length hd;rw[l8] at this;omega
   have e3:=s3 _ _ e2;have s23:=s2.trans s3;refine⟨_,rfl,_,rfl,t,p,rfl,hpl,by omega,λH4 s4=>⟨_,rfl,?_⟩⟩;have e4:=s4 _ _ e3;have s24:=s23.trans s4;have fit:(dn.map λc=>vS [c]).length < sizeLine:=by rw[l0,hs];omega
   have new:∀j:Nat,j < t.length->(upd H4 l (.lst ((dn.map λc=>vS [c])++[vS [t.getD j 0]]))) l=some (.lst ((dn++[t.getD j 0]).map λc=>vS [c])):=λj _=>by rw[aa,l17];rfl
   have sG:∀o,Same H (upd H4 l o):=λo=>ak hl0 s24;by_cases hk:ax (t.drop p)=true
   ·rw[hk];refine iteT ?_;obtain⟨y,r,hy⟩:=nC hk;have hp1:p+1 < t.length:=by
     have:=congrArg List.length hy;rw[l9,l4,l4] at this;omega
    have hg:t.getD (p+1) 0=y:=by
     have:(t.drop p)[1]? = some y:=by rw[hy];rfl
     rw[List.getElem?_drop] at this;rw[l22,this];rfl
    have hr2:t.drop (p+2)=r:=by
     rw[show p+2=p+2 from rfl,<- l18,hy];rfl
    rw[hy] at hk;have hf:freeC (t.drop p)=y::freeC (t.drop (p+2)):=by rw[hy,nB hk,hr2]
    refine⟨_,rfl,_,_,rfl,rfl,?_⟩;dsimp only[sA,sB];refine⟨_,rfl, .inl ⟨rfl,_,SqL.of e4⟩,_,rfl,_,rfl,lP nofun nofun nofun ⟨l,_,_,rfl,rfl,e4,fit,_,rfl,_,_,rfl,rfl,?_⟩⟩;dsimp only[sA,sB];rw[show ((p:Int)+1).toNat=p+1 by omega,show ((p:Int)+1+1)=((p+2:Nat):Int) by omega];refine⟨t.length - (p+2),by omega,p+2,dn++[t.getD (p+1) 0],rfl,sG _,new (p+1) hp1,by omega,rfl,?_⟩;rw[l23,<- hd,hf,hg];rfl
   ·have hk':ax (t.drop p)=false:=Bool.eq_false_iff.mpr hk;rw[hk'];refine iteF ?_;have hdr:=l25 hpl;rw[hdr] at hk';have hg:t.getD p 0=t[p]:=by rw[l22,List.getElem?_eq_getElem hpl];rfl
    have hf:freeC (t.drop p)=t[p]::freeC (t.drop (p+1)):=by rw[hdr,pK hk']
    refine⟨_,rfl, .inl ⟨rfl,_,SqL.of e4⟩,_,rfl,_,rfl,lP nofun nofun nofun ⟨l,_,_,rfl,rfl,e4,fit,_,rfl,_,_,rfl,rfl,?_⟩⟩;dsimp only[sA,sB];rw[l45,show ((p:Int)+1)=((p+1:Nat):Int) by omega];refine⟨t.length - (p+1),by omega,p+1,dn++[t.getD p 0],rfl,sG _,new p hpl,by omega,rfl,?_⟩;rw[l23,<- hd,hf,hg];rfl
  ·have hpl:p=t.length:=by have:=of_decide_eq_false hc;omega
   subst hpl;rw[l46] at hd;refine hN _ _ ⟨rfl,s2.trans s3,?_⟩;rw[<- hd,show freeC []=[] from rfl,l29];exact s3 _ _ e2
 ·rintro σ' H2 ⟨rfl,s2,e2⟩;have hdl:=dF t;have em:((freeC t).map λc=>[c]).map S=(freeC t).map λc=>S [c]:=by rw[l26];rfl
  refine⟨rfl,_,rfl,S [],l,((freeC t).map λc=>[c]).map S,rfl,rfl,SqL.of ?_,pL nofun,?_⟩
  ·rw[e2,l26,l26];rfl
  ·rw[ca,jo];exact q H2 s2
abbrev fY:Stmt:=top 59
inductive spClosings (vs:List V)(H:Hp)(Q:VK)(u3:XK):Prop
 |mk (t:List Nat)(_:vs=[vS t])(_:t.length<=100000)(_:∀r H',Same H H'->H r=none->H' r=some (.lst ((clGo 0 t).map V.int))->Q (.ref r) H')
theorem ip {α:Type}(x:α):∀k:Nat,(List.replicate k [x]).flatten=List.replicate k x
 |0=>rfl
 |k+1=>by rw[l55,l56,ip x k];rfl
def ki (F:Fun K "closings_of" "closings_of" fY f fd)(T:TxI K mg c BT)(Di:Def P w K mg base 1 "takes_next" p4 spTakes):FnOk P w K mg base CX0 2 f fd ["text"] spClosings:=by
 have sc:FnScope ["text","closings","place"] ["text"] (ad fY):=mkS;refine F.oks sc λH Q hr h=>?_;obtain⟨t,rfl,hl,q⟩:=h;refine am (xbc (xst (i:=1) sc.nd (xlst xa0))
  (xbc (xst (i:=2) sc.nd xint)
  (xbc (cx PassesOwn.never (az db (xv 2) (xcB ap T.u10 PySem.boot_len (xac (xv 0) xa0)) (ai _))
  (xbc (xif (aZ (xcd Di hr (xac (xv 0) (xac (xv 2) xa0)))) (xbc (xaug (i:=2) sc.nd rfl (Or.inl rfl) xint fq)
  (xb1 rT)) xb0)
  (xbc (xif (az be (xix de (xv 0) (xv 2) (λ_ _=>rfl)) xstr (ai _)) (xb1 (bw (xm PySem.F.plainAttrs_list PySem.F.slot_list_extend PySem.F.type_list_extend mG (xv 1) (xac (xop kM (xlst (xac (xv 2) xa0)) (xop bM (xv 2) (xcB aj T.u10 PySem.boot_len (xac (xv 1) xa0)))) xa0)))) xb0)
  (xb1 (xaug (i:=2) sc.nd rfl (Or.inl rfl) xint fq)))))
  (xb1 (xret (xop bN (xv 1) (xop kM (xlst (xac (xun gw xint) xa0)) (xop bM (xcB ap T.u10 PySem.boot_len (xac (xv 0) xa0)) (xcB aj T.u10 PySem.boot_len (xac (xv 1) xa0)))))))))) ?_
 have hs:=sizeLine_eq;rw[rB];refine⟨bg0,λl hl0=>?_⟩;have s1:=ac hl0 (.lst []);have e1:upd H l (.lst []) l=some (.lst []):=aa;dsimp only[tAsg.K0,tDrop.K0,Ends.to_nx,Ends.to_rt,al,sA,sB];generalize upd H l (.lst [])=H1 at s1 e1 ⊢;show tSeq (tWhile _ _) _ _ [some (vS t),some (.ref l),some (.int ((0:Nat):Int))] H1;refine bG (λσ' H'=>σ'=[some (vS t),some (.ref l),some (.int (t.length:Nat))]/\Same H H'/\∃n pre,ClAt t t.length n pre/\H' l=some (.lst ((pre.take n).map V.int))) (λN hN=>?_) ?_
 ·refine ce (λm σ' H'=>∃(p n:Nat) (pre:List Int),σ'=[some (vS t),some (.ref l),some (.int (p:Nat))]/\Same H H'/\H' l=some (.lst ((pre.take n).map V.int))/\p<=t.length/\m=t.length - p/\ClAt t p n pre) t.length ⟨0,0,[],rfl,s1,e1,l12 _,rfl, .start t⟩ ?_;rintro m σ' H2 ⟨p,n,pre,rfl,s2,e2,hp,rfl,hA⟩;refine⟨decide (p < t.length),λR k=>⟨_,rfl,_,rfl,_,rfl,bigS nofun,_,_,rfl,rfl,_,rfl,?_⟩,λhc H3 s3=>?_,λhc H3 s3=>?_⟩
  ·rw[aH,show decide ((p:Int) < ((t.length:Nat):Int))=decide (p < t.length) by rw[decide_eq_decide];omega];exact k _ (Same.refl _)
  ·have hpl:p < t.length:=of_decide_eq_true hc;have e3:=s3 _ _ e2;have s23:=s2.trans s3;have hn:=hA.le;have hpn:(pre.take n).length=n:=by rw[l21,hA.len];omega
   refine⟨_,rfl,_,rfl,t,p,rfl,hpl,by omega,λH4 s4=>⟨_,rfl,?_⟩⟩;have e4:=s4 _ _ e3;have s24:=s23.trans s4;by_cases hk:ax (t.drop p)=true
   ·rw[hk];refine iteT ?_;obtain⟨pre',hA',hpre,hle⟩:=hA.take hk;refine⟨_,rfl,_,_,rfl,rfl,?_⟩;dsimp only[sA,sB];refine⟨t.length - (p+2),by omega,p+2,n,pre',?_,s24,by rw[hpre];exact e4,hle,rfl,hA'⟩;rw[show ((p:Int)+2)=((p+2:Nat):Int) by omega]
   ·have hk':ax (t.drop p)=false:=Bool.eq_false_iff.mpr hk;rw[hk'];refine iteF ?_;have hT:Tells (tTest (tOp rEq (tOp rIxS (tVar 0) (tVar 2)) (tC (.str "]")))) [some (vS t),some (V.ref l),some (V.int (p:Int))] H4 (decide ([t.getD p 0]=[93])):=t_eq _ [93] rfl λR' r=>by
     have:=ut (σ:=[some (vS t),some (V.ref l),some (V.int (p:Int))]) (H:=H4) (ta:=tVar 0) (tb:=tVar 2) (l:=t) (i:=(p:Int)) nofun (ev_v rfl) (ev_v rfl) nofun nofun;rw[l45] at this;exact this R' r
    by_cases hx:t.getD p 0=93
    ·obtain⟨pre',hA',hpre⟩:=hA.bar hpl hk' hx;refine bF (hT.eq (decide_eq_true (by rw[hx]))) λH5 s5=>?_;have e5:=s5 _ _ e4;refine⟨_,rfl, .inl ⟨rfl,_,SqL.of e5⟩,_,rfl,bg1,λu hu=>?_⟩;have s6:=ac hu (.lst [.int (p:Int)]);have e6:upd H5 u (.lst [V.int (p:Int)]) u=some (.lst [.int (p:Int)]):=aa;generalize upd H5 u (.lst [V.int (p:Int)])=H6 at s6 e6 ⊢;refine⟨_,rfl,_,rfl,l,_,rfl, .inl (SqL.of (s6 _ _ e5)),_,_,rfl,rfl,u,(p:Int) - (n:Int),_,rfl,?_,e6,by omega,by omega,?_,λv hv=>?_⟩
     ·rw[l0,hpn]
     ·rw[hs];show 1 * _<=_;omega
     have tn:((p:Int) - (n:Int)).toNat=p - n:=by omega
     rw[tn,ip];have s7:=ac hv (.lst (List.replicate (p - n) (V.int (p:Int))));have e7:upd H6 v (.lst (List.replicate (p - n) (V.int (p:Int)))) v=some (.lst (List.replicate (p - n) (V.int (p:Int)))):=aa;generalize upd H6 v (.lst (List.replicate (p - n) (V.int (p:Int))))=H7 at s7 e7 ⊢;have s57:=s6.trans s7;refine⟨l,v,_,_,rfl,rfl,s57 _ _ e5,e7,?_,?_⟩
     ·rw[l0,hpn,l36,hs];omega
     refine⟨_,rfl,_,_,rfl,rfl,?_⟩;dsimp only[sA,sB];refine⟨t.length - (p+1),by omega,p+1,p,pre',?_,ak hl0 ((s24.trans s5).trans s57),?_,by omega,rfl,hA'⟩
     ·rw[show ((p:Int)+1)=((p+1:Nat):Int) by omega]
     ·rw[aa,hpre,l17,l82]
    ·obtain⟨pre',hA',hpre⟩:=hA.one hpl hk' hx;refine aM (hT.eq (decide_eq_false λz=>hx (List.cons.inj z).1)) λH5 s5=>?_;refine⟨_,rfl,_,_,rfl,rfl,?_⟩;dsimp only[sA,sB];refine⟨t.length - (p+1),by omega,p+1,n,pre',?_,s24.trans s5,by rw[hpre];exact s5 _ _ e4,by omega,rfl,hA'⟩;rw[show ((p:Int)+1)=((p+1:Nat):Int) by omega]
  ·have hpl:p=t.length:=by have:=of_decide_eq_false hc;omega
   subst hpl;exact hN _ _ ⟨rfl,s2.trans s3,n,pre,hA,s3 _ _ e2⟩
 ·rintro σ' H2 ⟨rfl,s2,n,pre,hA,e2⟩;have hn:=hA.le;have hpn:(pre.take n).length=n:=by rw[l21,hA.len];omega
  refine⟨_,rfl,1,rfl,bg1,λu hu=>?_⟩;have s3:=ac hu (.lst [.int (-1)]);have e3:upd H2 u (.lst [V.int (-1)]) u=some (.lst [.int (-1)]):=aa;generalize upd H2 u (.lst [V.int (-1)])=H3 at s3 e3 ⊢;refine⟨_,rfl,_,rfl,bigS nofun,_,rfl,l,_,rfl, .inl (SqL.of (s3 _ _ e2)),_,_,rfl,rfl,u,(t.length:Int) - (n:Int),_,rfl,?_,e3,by omega,by omega,?_,λv hv=>?_⟩
  ·rw[l0,hpn,aH]
  ·rw[hs];show 1 * _<=_;omega
  have tn:((t.length:Int) - (n:Int)).toNat=t.length - n:=by omega
  rw[tn,ip];have s4:=ac hv (.lst (List.replicate (t.length - n) (V.int (-1))));have e4:upd H3 v (.lst (List.replicate (t.length - n) (V.int (-1)))) v=some (.lst (List.replicate (t.length - n) (V.int (-1)))):=aa;generalize upd H3 v (.lst (List.replicate (t.length - n) (V.int (-1))))=H4 at s4 e4 ⊢;have s24:=(s2.trans s3).trans s4;refine⟨l,v,_,_,rfl,rfl,(s3.trans s4) _ _ e2,e4,?_,λr hr2=>?_⟩
  ·rw[l0,hpn,l36,hs];omega
  refine q r _ (s24.trans (ac hr2 _)) (s24.free hr2) ?_;rw[aa,hA.fin,l17,l82]
end
end K14
namespace Lw
open PySem L2 Lm
def sE {r r2:List Nat}{k:Nat}(h:nxtC r=some (k+1))(h2:r.drop (k+2)=40::r2):bj r=(nameAt 41 r2).map λ(n,r3)=>(Pc.link (freeC (r.take (k+1))) n,r3):=by
 unfold bj;rw[h]
 try dsimp only
 rw[h2];rfl
def free_one' {x:Nat}{r:List Nat}(h:ax (x::r)=false):freeC (x::r)=x::freeC r:=by
 cases r with
 |nil=>rfl
 |cons y r=>
  show (if x=92/\takenC.contains y=true then y::freeC r else x::freeC (y::r))=_;rw[if_neg λz=>by rw[takes_iff.mpr z] at h;cases h]
def free_take' {x y:Nat}{r:List Nat}(h:ax (x::y::r)=true):freeC (x::y::r)=y::freeC r:=by
 show (if x=92/\takenC.contains y=true then y::freeC r else x::freeC (y::r))=_;rw[if_pos (takes_iff.mp h)]
end Lw
namespace K14
open PySem L2 Lm Lw
section
variable {c:Cp}{BT:Addr}
abbrev kj:Stmt:=top 60
inductive spCodeAt (c:Cp)(vs:List V)(H:Hp)(Q:VK)(u3:XK):Prop
 |mk (t:List Nat)(p:Nat)(_:vs=[vS t, .int (p:Int)])(_:p < t.length)(_:t.length<=100000)(_:Asc t)(_:Fnd c t.length H Q (bH (t.drop (p+1))))
def nF (F:Fun K "code_at" "code_at" kj f fd)(T:TxI K mg c BT)(DO:New P w K mg base 1 "Code" c.Code p7 (spInit1 c.Code "signs")):FnOk P w K mg base CX0 3 f fd p4 (spCodeAt c):=by
 have sc:FnScope ["text","place","end"] p4 (ad kj):=mkS;refine F.oks sc λH Q hr h=>?_;obtain⟨t,p,rfl,hp,hl,ha,q⟩:=h;refine am (xbc (xst (i:=2) sc.nd (xm plainAttrs_str slot_str_find type_str_find pI (xv 0) (xac xstr (xac (xop av (xv 1) xint) xa0))))
  (xbc (xif (xor (az db (xv 2) xint (ai _)) (xor1 (az be (xv 2) (xop av (xv 1) xint) (ai _)))).xt (xb1 (xret xnon)) xb0)
  (xb1 (xret (xtup (xac (xnew DO hr.mono (xac (xsl bh (xv 0) (xo1 (xop av (xv 1) xint)) (xo1 (xv 2))) xa0)) (xac (xop av (xv 2) xint) xa0))))))) ?_
 rw[u1];refine⟨_,rfl,rfl,_,rfl,_,_,rfl,rfl,t,96,p+1,rfl,rfl,?_⟩;dsimp only[tAsg.K0,tDrop.K0,Ends.to_nx,Ends.to_rt,al,sA,sB];have tt:∀e:Int,Tells (tOr (tTest (tOp (rI0 λi j => .bl (decide (i < j))) (tVar 2) (tC (.int 0)))) (tTest (tOp rEq (tVar 2) (tOp (rI0 λi j => .int (i+j)) (tVar 1) (tC (.int 1)))))) [some (vS t),some (V.int (p:Int)),some (V.int e)] H (decide (e < 0)||decide (e=(p:Int)+1)):=λe=>t_or _ _ (cS (ev_v rfl) ev_c rfl) λ_ H1 _=>uu (ev_v rfl) (m8 (ev_v rfl) ev_c rfl);have hw:(t.take t.length).drop (p+1)=t.drop (p+1):=by rw[List.take_length]
 cases hc:cutAt 96 (t.drop (p+1)) with
 |none=>
  rw[il (by rw[hw];exact hc)];have e0:bH (t.drop (p+1))=none:=by unfold bH;rw[hc]
  rw[e0] at q;exact bF ((tt _).eq (by rw[decide_eq_true ∅];rfl)) λH1 s1=>q H1 s1
 |some ab=>
  obtain⟨a,b⟩:=ab;rw[im (by rw[hw];exact hc)];obtain⟨he,_⟩:=cutAt_eq hc;have w6:=congrArg List.length he;rw[l9,l8,l4] at w6;cases a with
  |nil=>
   have e0:bH (t.drop (p+1))=none:=by unfold bH;rw[hc]
   rw[e0] at q;refine bF ((tt _).eq ?_) λH1 s1=>q H1 s1;rw[Bool.or_eq_true];exact .inr (decide_eq_true (by rw[l27];omega))
  |cons x a=>
   have e0:bH (t.drop (p+1))=some (.code (x::a),b):=by unfold bH;rw[hc]
   rw[e0] at q;have hal:0 < (x::a).length:=by rw[l4];omega
   have has:Asc (x::a):=((ha.drop (p+1)).sub λc hc=>by rw[he];exact l47 _ hc);generalize x::a=a at *;refine aM ((tt _).eq ?_) λH1 s1=>?_
   ·rw[decide_eq_false nofun,decide_eq_false nofun];rfl
   refine m9 (l:=t) (a:=a) nofun (ev_v rfl) (hE (i:=((p+1:Nat):Int)) (m8 (ev_v rfl) ev_c rfl)) (hE (i:=((p+1+a.length:Nat):Int)) (ev_v rfl)) ?_ _ ?_
   ·rw[fQ,he,show p+1+a.length - (p+1)=a.length by omega,l52]
   intro y dx hy hdx hne;refine⟨y,dx,_,rfl,aa,rfl,_,rfl,_,_,rfl,rfl,bg2,λtp htp=>?_⟩;obtain⟨m1,m2⟩:=sD (C:=c.Code) (o := .ins c.Code dx [("signs",vS a)]) s1 hy hdx;refine q tp (.ref y) _ (m1.trans (ac htp _)) ?_ ⟨y,rfl,gN has nofun,dx,io htp _ _ _ m2⟩;rw[aa];show some (HO.tup [V.ref y,V.int (((p+1+a.length:Nat):Int)+1)])=_;rw[show ((p+1+a.length:Nat):Int)+1=((t.length - b.length:Nat):Int) by omega]
abbrev kl:Stmt:=top 61
inductive spMarkAt (c:Cp)(vs:List V)(H:Hp)(Q:VK)(u3:XK):Prop
 |mk (t:List Nat)(p:Nat)(r:List Nat)(_:vs=[vS t, .int (p:Int)])(_:t.drop p=91::r)(_:t.length<=100000)(_:Asc t)(_:Fnd c t.length H Q (bL r))
def nG (F:Fun K "mark_at" "mark_at" kl f fd)(T:TxI K mg c BT)(DP:New P w K mg base 1 "Mark" c.Mark p12 (spInit1 c.Mark "name"))
  (Df:Def P w K mg base 1 "is_name" ["thing"] spName)(Dh:Def P w K mg base 2 "name_of" ["thing"] spNameOf):FnOk P w K mg base CX0 3 f fd p4 (spMarkAt c):=by
 have sc:FnScope ["text","place","begin","end"] p4 (ad kl):=mkS;refine F.oks sc λH Q hr h=>?_;obtain⟨t,p,r,rfl,hd,hl,ha,q⟩:=h;refine am (xbc (xif (cQ (aZ (xm plainAttrs_str slot_str_startswith type_str_startswith fS (xv 0) (xac xstr (xac (xv 1) xa0))))) (xb1 (xret xnon)) xb0)
  (xbc (xst (i:=2) sc.nd (xop av (xv 1) xint))
  (xbc (xst (i:=3) sc.nd (xm plainAttrs_str slot_str_find type_str_find k7 (xv 0) (xac xstr (xac (xv 2) (xac (xop av (xop av (xv 2) (xgI T.g11)) xint) xa0)))))
  (xbc (xif (xor (az db (xv 3) xint (ai _)) (xor1 (cQ (aZ (xcd Df hr (xac (xsl bh (xv 0) (xo1 (xv 2)) (xo1 (xv 3))) xa0)))))).xt (xb1 (xret xnon)) xb0)
  (xb1 (xret (xtup (xac (xnew DP hr.mono (xac (xcd Dh hr (xac (xsl bh (xv 0) (xo1 (xv 2)) (xo1 (xv 3))) xa0)) xa0)) (xac (xop av (xv 3) xint) xa0))))))))) ?_
 rw[ue];have tS:Tells (tNot (tB (tBM K "str" rStartsAt (tVar 0) (tCons (tC (.str "[^")) (tCons (tVar 1) tNil))))) [some (vS t),some (V.int (p:Int)),none,none] H (!([91,94]:List Nat).isPrefixOf (t.drop p)):=gk _ (gM (z:=[91,94]) rfl (by simp) (ev_v rfl) (ev_v rfl));rw[hd] at tS;by_cases hr:∃r',r=94::r';rotate_left
 ·have e0:bL r=none:=by
   unfold bL;split
   ·exact absurd ⟨_,rfl⟩ hr
   ·rfl
  have e1:([91,94]:List Nat).isPrefixOf (91::r)=false:=by
   cases r with
   |nil=>rfl
   |cons y r'=>
    rw[Bool.eq_false_iff];intro z;simp[List.isPrefixOf] at z;exact hr ⟨r',by rw[<- z]⟩
  rw[e0] at q;exact bF (tS.eq (by rw[e1];rfl)) λH1 s1=>q H1 s1
 obtain⟨r,rfl⟩:=hr;have hd2:t.drop (p+2)=r:=by rw[<- l18,hd];rfl
 have w6:=congrArg List.length hd;rw[l9,l4,l4] at w6;refine aM (tS.eq rfl) λH1 s1=>?_;refine⟨_,rfl,_,_,rfl,rfl,?_⟩;dsimp only[tAsg.K0,tDrop.K0,Ends.to_nx,Ends.to_rt,al,sA,sB];refine⟨_,rfl,rfl,_,rfl,_,rfl,_,_,rfl,rfl,_,_,rfl,rfl,t,93,p+2,p+2+13,rfl,rfl,?_⟩;dsimp only[tAsg.K0,tDrop.K0,Ends.to_nx,Ends.to_rt,al,sA,sB];have hw:cutAt 93 ((t.take (min (p+2+13) t.length)).drop (p+2))=cutAt 93 (r.take 13):=by rw[win,hd2]
 cases hc:cutAt 93 (r.take 13) with
 |none=>
  rw[il (hw.trans hc)];have e0:bL (94::r)=none:=by
   show (Lw.nameAt 93 r).map _=none;unfold Lw.nameAt;rw[hc];rfl
  rw[e0] at q;exact bF (t_or true false (cS (ev_v rfl) ev_c (by rfl)) (λz=>Bool.noConfusion z)) λH2 s2=>q H2 (s1.trans s2)
 |some ab=>
  obtain⟨a,b⟩:=ab;rw[im (hw.trans hc)];obtain⟨he,_⟩:=cutAt_eq hc;have hal:a.length+1<=r.length/\a.length<=12:=by
   have:=congrArg List.length he;rw[l21,l8,l4] at this;omega
  have hta:r.take a.length=a:=by
   have:=congrArg (List.take a.length) he;rw[List.take_take,l52,l39 nofun] at this;exact this
  have has:Asc a:=((ha.drop (p+2)).take a.length).sub λc hc=>by rw[hd2,hta];exact hc
  have esl:∀H2,Ev (tSl rSlS (tVar 0) (tPart (tVar 2)) (tPart (tVar 3))) [some (vS t),some (V.int (p:Int)),some (V.int ((p:Int)+2)),some (V.int ((p+2+a.length:Nat):Int))] H2 (vS a):=λH2=>by
   refine m9 (l:=t) (a:=a) nofun (ev_v rfl) (hE (i:=((p+2:Nat):Int)) (ev_v rfl)) (hE (i:=((p+2+a.length:Nat):Int)) (ev_v rfl)) ?_;rw[fQ,hd2,show p+2+a.length - (p+2)=a.length by omega,hta]
  have tt:Tells (tOr (tTest (tOp (rI0 λi j => .bl (decide (i < j))) (tVar 3) (tC (.int 0)))) (tNot (tB (tCall spName [] E0 (tCons (tSl rSlS (tVar 0) (tPart (tVar 2)) (tPart (tVar 3))) tNil))))) [some (vS t),some (V.int (p:Int)),some (V.int ((p:Int)+2)),some (V.int ((p+2+a.length:Nat):Int))] H1 (false || !aE a):=by
   refine t_or false _ (cS (ev_v rfl) ev_c ?_) λ_ H2 s2=>gk _ λR k=>esl H2 _ ⟨_,rfl,nofun,λH3 s3=>⟨_,rfl,?_⟩⟩
   ·rw[decide_eq_false nofun]
   ·exact k H3 s3
  by_cases hn:aE a=true;rotate_left
  ·have hn:=Bool.eq_false_iff.mpr hn;have e0:bL (94::r)=none:=by
    show (Lw.nameAt 93 r).map _=none;unfold Lw.nameAt;rw[hc];show (if aE a=true then _ else none).map _=none;rw[hn];rfl
   rw[e0] at q;exact bF (tt.eq (by rw[hn];rfl)) λH2 s2=>q H2 (s1.trans s2)
  have e0:bL (94::r)=some (.note (aX a),r.drop (a.length+1)):=by
   show (Lw.nameAt 93 r).map _=_;unfold Lw.nameAt;rw[hc];show (if aE a=true then _ else none).map _=_;rw[if_pos hn];rfl
  rw[e0] at q;refine aM (tt.eq (by rw[hn];rfl)) λH2 s2=>?_;refine esl H2 _ ⟨a,rfl,by omega,hn,λH3 s3 y dx hy hdx hne=>?_⟩;refine⟨y,dx,_,rfl,aa,rfl,_,rfl,_,_,rfl,rfl,bg2,λtp htp=>?_⟩;obtain⟨m1,m2⟩:=sD (C:=c.Mark) (o := .ins c.Mark dx [("name",vS (aX a))]) ((s1.trans s2).trans s3) hy hdx;refine q tp (.ref y) _ (m1.trans (ac htp _)) ?_ ⟨y,rfl,gN has.small (by unfold aX;rw[l0];omega),dx,io htp _ _ _ m2⟩;rw[aa,l9];show some (HO.tup [V.ref y,V.int (((p+2+a.length:Nat):Int)+1)])=_;rw[show ((p+2+a.length:Nat):Int)+1=((t.length - (r.length - (a.length+1)):Nat):Int) by omega]
abbrev km:Stmt:=top 62
inductive spLinkAt (c:Cp)(vs:List V)(H:Hp)(Q:VK)(u3:XK):Prop
 |mk (t:List Nat)(p:Nat)(r:List Nat)(_:vs=[vS t, .int (p:Int), .int (ck (p+1) (nxtC r))])(_:t.drop p=91::r)(_:t.length<=100000)(_:Asc t)(_:Fnd c t.length H Q (bj r))
def nH (F:Fun K "link_at" "link_at" km f fd)(T:TxI K mg c BT)(DQ:New P w K mg base 1 "Link" c.Link p13 (spInit2 c.Link "words" "name"))
  (DR:Def P w K mg base 2 "freed" ["text"] spFreed)(Df:Def P w K mg base 1 "is_name" ["thing"] spName)(Dh:Def P w K mg base 2 "name_of" ["thing"] spNameOf):FnOk P w K mg base CX0 3 f fd p24 (spLinkAt c):=by
 have sc:FnScope ["text","place","closing","begin","end"] p24 (ad km):=mkS;refine F.oks sc λH Q hr h=>?_;obtain⟨t,p,r,rfl,hd,hl,ha,q⟩:=h;refine am (xbc (xif (xor (az rj (xv 2) (xop av (xv 1) xint) (ai _)) (xor1 (cQ (aZ (xm plainAttrs_str slot_str_startswith type_str_startswith fS (xv 0) (xac xstr (xac (xv 2) xa0))))))).xt (xb1 (xret xnon)) xb0)
  (xbc (xst (i:=3) sc.nd (xop av (xv 2) xint))
  (xbc (xst (i:=4) sc.nd (xm plainAttrs_str slot_str_find type_str_find k7 (xv 0) (xac xstr (xac (xv 3) (xac (xop av (xop av (xv 3) (xgI T.g11)) xint) xa0)))))
  (xbc (xif (xor (az db (xv 4) xint (ai _)) (xor1 (cQ (aZ (xcd Df hr (xac (xsl bh (xv 0) (xo1 (xv 3)) (xo1 (xv 4))) xa0)))))).xt (xb1 (xret xnon)) xb0)
  (xb1 (xret (xtup (xac (xnew DQ hr.mono (xac (xcd DR hr (xac (xsl bh (xv 0) (xo1 (xop av (xv 1) xint)) (xo1 (xv 2))) xa0)) (xac (xcd Dh hr (xac (xsl bh (xv 0) (xo1 (xv 3)) (xo1 (xv 4))) xa0)) xa0))) (xac (xop av (xv 4) xint) xa0))))))))) ?_
 rw[oV];have hd1:t.drop (p+1)=r:=by rw[<- l18,hd];rfl
 have w6:=congrArg List.length hd;rw[l9,l4] at w6;have early:∀v:Int,v<=(p:Int)+1->Tells (tOr (tTest (tOp (rI0 λi j => .bl (decide (i<=j))) (tVar 2) (tOp (rI0 λi j => .int (i+j)) (tVar 1) (tC (.int 1))))) (tNot (tB (tBM K "str" rStartsAt (tVar 0) (tCons (tC (.str "](")) (tCons (tVar 2) tNil)))))) [some (vS t),some (V.int (p:Int)),some (V.int v),none,none] H true:=λv hv=>t_or true false (cS (ev_v rfl) (m8 (ev_v rfl) ev_c rfl) (by rw[decide_eq_true hv])) (λz=>Bool.noConfusion z);cases hx:nxtC r with
 |none=>
  have e0:bj r=none:=by unfold bj;rw[hx]
  rw[e0] at q;exact bF (early (-1) nofun) λH1 s1=>q H1 s1
 |some k=>
 show (tSeq _ _:TS) _ [some (vS t),some (V.int (p:Int)),some (V.int ((p+1+k:Nat):Int)),none,none] H;cases k with
 |zero=>
  have e0:bj r=none:=by unfold bj;rw[hx]
  rw[e0] at q;exact bF (early _ nofun) λH1 s1=>q H1 s1
 |succ k=>
 obtain⟨u,v,hu,hul⟩:=gL hx;have hrl:=congrArg List.length hu;rw[l8,l4] at hrl;have hdk:t.drop (p+1+(k+1))=93::v:=by
  rw[<- l18,hd1,hu,<- hul,l48]
 have hdv:r.drop (k+2)=v:=by
  rw[show k+2=k+1+1 by omega,<- l18,hu,<- hul,l48];rfl
 have tS:Tells (tOr (tTest (tOp (rI0 λi j => .bl (decide (i<=j))) (tVar 2) (tOp (rI0 λi j => .int (i+j)) (tVar 1) (tC (.int 1))))) (tNot (tB (tBM K "str" rStartsAt (tVar 0) (tCons (tC (.str "](")) (tCons (tVar 2) tNil)))))) [some (vS t),some (V.int (p:Int)),some (V.int ((p+1+(k+1):Nat):Int)),none,none] H (false || !([93,40]:List Nat).isPrefixOf (t.drop (p+1+(k+1)))):=
  t_or false _ (cS (ev_v rfl) (m8 (ev_v rfl) ev_c rfl) (by rw[decide_eq_false nofun])) λ_ H1 s1=>gk _ (gM (z:=[93,40]) rfl (by simp) (ev_v rfl) (ev_v rfl))
 rw[hdk] at tS;by_cases hr:∃r2,v=40::r2;rotate_left
 ·have e0:bj r=none:=by
   unfold bj;rw[hx];show (match r.drop (k+2) with |40::r2=>(Lw.nameAt 41 r2).map λ(n,r3)=>(Pc.link (freeC (r.take (k+1))) n,r3) |_=>none)=none;rw[hdv];split
   ·exact absurd ⟨_,rfl⟩ hr
   ·rfl
  have e1:([93,40]:List Nat).isPrefixOf (93::v)=false:=by
   cases v with
   |nil=>rfl
   |cons y r'=>
    rw[Bool.eq_false_iff];intro z;simp[List.isPrefixOf] at z;exact hr ⟨r',by rw[<- z]⟩
  rw[e0] at q;exact bF (tS.eq (by rw[e1];rfl)) λH1 s1=>q H1 s1
 obtain⟨r2,rfl⟩:=hr;rw[l4] at hrl;have hd2:t.drop (p+1+(k+1)+2)=r2:=by rw[<- l18,hdk];rfl
 refine aM (tS.eq rfl) λH1 s1=>?_;refine⟨_,rfl,_,_,rfl,rfl,?_⟩;dsimp only[tAsg.K0,tDrop.K0,Ends.to_nx,Ends.to_rt,al,sA,sB];have hpos:((p+1+(k+1):Nat):Int)+2=((p+1+(k+1)+2:Nat):Int):=rfl;rw[hpos];have eL:=sE hx hdv;rw[eL] at q;clear eL tS early;generalize hb:p+1+(k+1)+2=bg at *;refine⟨_,rfl,rfl,_,rfl,_,rfl,_,_,rfl,rfl,_,_,rfl,rfl,t,41,bg,bg+13,rfl,rfl,?_⟩;dsimp only[tAsg.K0,tDrop.K0,Ends.to_nx,Ends.to_rt,al,sA,sB];have hw:cutAt 41 ((t.take (min (bg+13) t.length)).drop bg)=cutAt 41 (r2.take 13):=by rw[win,hd2]
 cases hc:cutAt 41 (r2.take 13) with
 |none=>
  rw[il (hw.trans hc)];have e0:Lw.nameAt 41 r2=none:=by unfold Lw.nameAt;rw[hc]
  rw[e0] at q;exact bF (t_or true false (cS (ev_v rfl) ev_c (by rfl)) (λz=>Bool.noConfusion z)) λH2 s2=>q H2 (s1.trans s2)
 |some ab=>
  obtain⟨a,b⟩:=ab;rw[im (hw.trans hc)];obtain⟨he,_⟩:=cutAt_eq hc;have hal:a.length+1<=r2.length/\a.length<=12:=by
   have:=congrArg List.length he;rw[l21,l8,l4] at this;omega
  have hta:r2.take a.length=a:=by
   have:=congrArg (List.take a.length) he;rw[List.take_take,l52,l39 nofun] at this;exact this
  have has:Asc a:=((ha.drop bg).take a.length).sub λc hc=>by rw[hd2,hta];exact hc
  have esl:∀H2,Ev (tSl rSlS (tVar 0) (tPart (tVar 3)) (tPart (tVar 4))) [some (vS t),some (V.int (p:Int)),some (V.int ((p+1+(k+1):Nat):Int)),some (V.int (bg:Int)),some (V.int ((bg+a.length:Nat):Int))] H2 (vS a):=λH2=>by
   refine m9 (l:=t) (a:=a) nofun (ev_v rfl) (hE (i:=(bg:Int)) (ev_v rfl)) (hE (i:=((bg+a.length:Nat):Int)) (ev_v rfl)) ?_;rw[fQ,hd2,show bg+a.length - bg=a.length by omega,hta]
  have tt:Tells (tOr (tTest (tOp (rI0 λi j => .bl (decide (i < j))) (tVar 4) (tC (.int 0)))) (tNot (tB (tCall spName [] E0 (tCons (tSl rSlS (tVar 0) (tPart (tVar 3)) (tPart (tVar 4))) tNil))))) [some (vS t),some (V.int (p:Int)),some (V.int ((p+1+(k+1):Nat):Int)),some (V.int (bg:Int)),some (V.int ((bg+a.length:Nat):Int))] H1 (false || !aE a):=by
   refine t_or false _ (cS (ev_v rfl) ev_c ?_) λ_ H2 s2=>gk _ λR k=>esl H2 _ ⟨_,rfl,nofun,λH3 s3=>⟨_,rfl,?_⟩⟩
   ·rw[decide_eq_false nofun]
   ·exact k H3 s3
  by_cases hn:aE a=true;rotate_left
  ·have hn:=Bool.eq_false_iff.mpr hn;have e0:Lw.nameAt 41 r2=none:=by
    unfold Lw.nameAt;rw[hc];show (if aE a=true then _ else none)=none;rw[hn];rfl
   rw[e0] at q;exact bF (tt.eq (by rw[hn];rfl)) λH2 s2=>q H2 (s1.trans s2)
  have e0:Lw.nameAt 41 r2=some (aX a,r2.drop (a.length+1)):=by
   unfold Lw.nameAt;rw[hc];show (if aE a=true then _ else none)=_;rw[if_pos hn]
  rw[e0] at q;refine aM (tt.eq (by rw[hn];rfl)) λH2 s2=>?_;have hwl:(r.take (k+1)).length<=100000:=by rw[l21];omega
  have haw:Asc (r.take (k+1)):=((ha.drop (p+1)).sub λc hc=>by rw[hd1];exact l72 hc);refine m9 (l:=t) (a:=r.take (k+1)) nofun (ev_v rfl) (hE (i:=((p+1:Nat):Int)) (m8 (ev_v rfl) ev_c rfl)) (hE (i:=((p+1+(k+1):Nat):Int)) (ev_v rfl)) ?_ _ ⟨_,rfl,hwl,λH3 s3=>?_⟩
  ·rw[fQ,hd1,show p+1+(k+1) - (p+1)=k+1 by omega]
  refine esl H3 _ ⟨a,rfl,by omega,hn,λH4 s4 y dx hy hdx hne=>?_⟩;refine⟨y,dx,_,_,rfl,aa,rfl,_,rfl,_,_,rfl,rfl,bg2,λtp htp=>?_⟩;have hfl:=dF (r.take (k+1));obtain⟨m1,m2⟩:=uC (C:=c.Link) (o1 := .ins c.Link dx [("words",vS (freeC (r.take (k+1))))]) (o := .ins c.Link dx [("words",vS (freeC (r.take (k+1)))),("name",vS (aX a))]) (((s1.trans s2).trans s3).trans s4) hy hdx;refine q tp (.ref y) _ (m1.trans (ac htp _)) ?_ ⟨y,rfl,gN (haw.sub λc hc=>fh hc) nofun,gN has.small (by unfold aX;rw[l0];omega),dx,io htp _ _ _ m2⟩;rw[aa,l9];show some (HO.tup [V.ref y,V.int (((bg+a.length:Nat):Int)+1)])=_;rw[show ((bg+a.length:Nat):Int)+1=((t.length - (r2.length - (a.length+1)):Nat):Int) by omega]
abbrev iu:Stmt:=top 57
inductive spPieceAt (c:Cp)(vs:List V)(H:Hp)(Q:VK)(u3:XK):Prop
 |mk (t:List Nat)(p:Nat)(cl:Addr)(pc:Pc)(r:List Nat)(_:vs=[vS t, .int (p:Int), .ref cl])(_:H cl=some (.lst ((clGo 0 t).map V.int)))(_:p < t.length)(_:t.length<=100000)(_:Asc t)(_:Al t p)(_:gm (t.drop p)=some (pc,r))(_:Fnd c t.length H Q (some (pc,r)))
def lT (F:Fun K "piece_at" "piece_at" iu f fd)(T:TxI K mg c BT)(Di:Def P w K mg base 1 "takes_next" p4 spTakes)
  (DS:Def P w K mg base 3 "code_at" p4 (spCodeAt c))(DT:Def P w K mg base 3 "mark_at" p4 (spMarkAt c))(DU:Def P w K mg base 3 "link_at" p24 (spLinkAt c)):FnOk P w K mg base CX0 4 f fd p25 (spPieceAt c):=by
 have sc:FnScope ["text","place","closings","sign","found"] p25 (ad iu):=mkS;refine F.oks sc λH Q hr h=>?_;obtain⟨t,p,cl,pc,r,rfl,ecl,hp,hl,ha,hal,hst,q⟩:=h;refine am (xbc (xst (i:=3) sc.nd (xix de (xv 0) (xv 1) (λ_ _=>rfl)))
  (xbc (xif (aZ (xcd Di hr (xac (xv 0) (xac (xv 1) xa0)))) (xb1 (xret (xtup (xac (xix de (xv 0) (xop av (xv 1) xint) (λ_ _=>rfl)) (xac (xop av (xv 1) xint) xa0))))) xb0)
  (xbc (xif (az be (xv 3) xstr (ai _)) (xb1 (xret (xtup (xac xnon (xac (xop av (xv 1) xint) xa0))))) xb0)
  (xbc (xst (i:=4) sc.nd xnon)
  (xbc (xif (az be (xv 3) xstr (ai _)) (xb1 (xst (i:=4) sc.nd (xcd DS hr (xac (xv 0) (xac (xv 1) xa0))))) xb0)
  (xbc (xif (az be (xv 3) xstr (ai _)) (xbc (xst (i:=4) sc.nd (xcd DT hr (xac (xv 0) (xac (xv 1) xa0))))
  (xb1 (xif (az qu (xv 4) xnon (ai _)) (xb1 (xst (i:=4) sc.nd (xcd DU hr (xac (xv 0) (xac (xv 1) (xac (xix aT (xv 2) (xv 1) (λ_ _=>rfl)) xa0)))))) xb0))) xb0)
  (xb1 (xret (xifE (az qu (xv 4) xnon (ai _)) (xtup (xac (xv 3) (xac (xop av (xv 1) xint) xa0))) (xv 4)))))))))) ?_
 rw[oV];obtain⟨x,r0,hd⟩:∃x r0,t.drop p=x::r0:=⟨_,_,l25 hp⟩;have w6:=congrArg List.length hd;rw[l9,l4] at w6;have hgx:t.getD p 0=x:=by
  have:(t.drop p)[0]? = some x:=by rw[hd];rfl
  rw[List.getElem?_drop,Nat.add_zero] at this;rw[l22,this];rfl
 refine⟨_,rfl,_,rfl,lP nofun nofun nofun ?_⟩;rw[l45,hgx];dsimp only[tAsg.K0,tDrop.K0,Ends.to_nx,Ends.to_rt,al,sA,sB];refine⟨_,rfl,_,rfl,t,p,rfl,hp,by omega,λH1 s1=>⟨_,rfl,?_⟩⟩;have hst':(if ax (x::r0) then some (Pc.sign (r0.headD 0),r0.tail) else if x=42 then some (Pc.star,r0) else if x=96 then some ((bH r0).getD (.sign 96,r0)) else if x=91 then some (((bL r0).or (bj r0)).getD (.sign 91,r0)) else some (Pc.sign x,r0))=some (pc,r):=by rw[hd] at hst;exact hst
 have num:∀k:Nat,p+k<=t.length->∀r':List Nat,r'.length+(p+k)=t.length->(p:Int)+(k:Int)=((t.length - r'.length:Nat):Int):=λk _ r' _=>by omega
 by_cases hk:ax (t.drop p)=true
 ·rw[hk];refine iteT ?_;obtain⟨y,r2,hy⟩:=bp hk;rw[hd] at hy hk;cases hy;rw[if_pos hk] at hst';cases hst';rw[l4] at w6;have hg1:t.getD (p+1) 0=y:=by
   have:(t.drop p)[1]? = some y:=by rw[hd];rfl
   rw[List.getElem?_drop] at this;rw[l22,this];rfl
  refine⟨_,rfl,_,rfl,_,_,rfl,rfl,lP nofun nofun nofun ⟨_,rfl,_,_,rfl,rfl,bg2,λtp htp=>?_⟩⟩;refine q tp (vS [y]) _ (s1.trans (ac htp _)) ?_ rfl;rw[aa,show ((p:Int)+1).toNat=p+1 by omega,hg1];show some (HO.tup [vS [y],V.int ((p:Int)+2)])=some (HO.tup [vS [y],V.int ((t.length - r2.length:Nat):Int)]);rw[show (p:Int)+2=((t.length - r2.length:Nat):Int) by omega]
 have hk':ax (t.drop p)=false:=Bool.eq_false_iff.mpr hk;rw[hk'];refine iteF ?_;rw[hd] at hk';rw[if_neg (by rw[hk'];simp)] at hst';have tE:∀(y:Str) (z:Nat) (fv:Option V) (H':Hp),y=S [z]->Tells (tTest (tOp rEq (tVar 3) (tC (.str y)))) [some (vS t),some (V.int (p:Int)),some (V.ref cl),some (vS [x]),fv] H' (decide ([x]=[z])):=λy z fv H' e=>t_eq [x] [z] e (ev_v rfl);have sg:∀z:Nat,[x]=[z] ↔ x=z:=λz=>⟨λh=>(List.cons.inj h).1,λh=>by rw[h]⟩;by_cases h42:x=42
 ·rw[if_pos h42] at hst';cases hst';refine bF ((tE "*" 42 none H1 rfl).eq (decide_eq_true ((sg _).mpr h42))) λH2 s2=>?_;refine⟨_,rfl,_,_,rfl,rfl,bg2,λtp htp=>?_⟩;refine q tp .non _ ((s1.trans s2).trans (ac htp _)) ?_ rfl;rw[aa];show some (HO.tup [V.non,V.int ((p:Int)+1)])=_;rw[show (p:Int)+1=((t.length - r.length:Nat):Int) by omega]
 rw[if_neg h42] at hst';refine aM ((tE "*" 42 none H1 rfl).eq (decide_eq_false λz=>h42 ((sg _).mp z))) λH2 s2=>?_;refine ny ?_;dsimp only[sA,sB];have s12:=s1.trans s2;have fin:∀(v:V) (H3:Hp),Same H H3->((v = .non/\pc = .sign x/\r=r0) ∨ ∃tp u,v = .ref tp/\H3 tp=some (.tup [u, .int ((t.length - r.length:Nat):Int)])/\PcAt c (dif H H3) u pc)->∀Q',(∀v' H',Q v' H'->Q' v' H') →
   tIf (tTest (tOp R_op_isN (tVar 4) (tC .non))) (tTup (tCons (tVar 3) (tCons (tOp (rI0 λi j => .int (i+j)) (tVar 1) (tC (.int 1))) tNil))) (tVar 4) [some (vS t),some (V.int (p:Int)),some (V.ref cl),some (vS [x]),some v] H3 Q':=by
  intro v H3 s3 h Q' kQ;refine⟨_,rfl,rfl,_,rfl,?_⟩;rcases h with ⟨rfl,rfl,rfl⟩ |⟨tp,u,rfl,e3,hu⟩
  ·refine ite2 (λ_=>?_) (λz=>absurd (decide_eq_true rfl) z);refine⟨_,rfl,_,rfl,_,_,rfl,rfl,bg2,λtp htp=>kQ _ _ (q tp (vS [x]) _ (s3.trans (ac htp _)) ?_ rfl)⟩;rw[aa];show some (HO.tup [vS [x],V.int ((p:Int)+1)])=_;rw[show (p:Int)+1=((t.length - r.length:Nat):Int) by omega]
  ·refine ite2 (λz=>nomatch of_decide_eq_true z) (λ_=>⟨_,rfl,kQ _ _ (q tp u H3 s3 e3 hu)⟩)
 by_cases h96:x=96
 ·subst h96;rw[if_pos rfl] at hst';refine bF ((tE "`" 96 _ H2 rfl).eq (decide_eq_true rfl)) λH3 s3=>?_;have s13:=s12.trans s3;have hdr:t.drop (p+1)=r0:=by rw[<- l18,hd];rfl
  refine⟨_,rfl,_,rfl,t,p,rfl,hp,hl,ha,?_⟩;rw[hdr];cases hc:bH r0 with
  |none=>
   intro H4 s4;rw[hc] at hst';cases hst';dsimp only[tAsg.K0,tDrop.K0,Ends.to_nx,Ends.to_rt,al,sA,sB];refine aM ((tE "[" 91 _ H4 rfl).eq (decide_eq_false ∅)) λH5 s5=>?_;exact fin .non H5 ((s13.trans s4).trans s5) (.inl ⟨rfl,rfl,rfl⟩) _ λv' H' h=>h
  |some qq=>
   obtain⟨pc',r'⟩:=qq;intro tp v H4 s4 e4 hv;rw[hc] at hst';cases hst';dsimp only[tAsg.K0,tDrop.K0,Ends.to_nx,Ends.to_rt,al,sA,sB];refine aM ((tE "[" 91 _ H4 rfl).eq (decide_eq_false ∅)) λH5 s5=>?_;exact fin (.ref tp) H5 ((s13.trans s4).trans s5) (.inr ⟨tp,v,rfl,s5 _ _ e4,hv.same (ar s13 s5)⟩) _ λv' H' h=>h
 rw[if_neg h96] at hst';refine aM ((tE "`" 96 _ H2 rfl).eq (decide_eq_false λz=>h96 ((sg _).mp z))) λH3 s3=>?_;have s13:=s12.trans s3;by_cases h91:x=91
 ·subst h91;rw[if_pos rfl] at hst';refine bF ((tE "[" 91 _ H3 rfl).eq (decide_eq_true rfl)) λH4 s4=>?_;have s14:=s13.trans s4;refine⟨_,rfl,_,rfl,t,p,r0,rfl,hd,hl,ha,?_⟩;cases hm:bL r0 with
  |some qq=>
   obtain⟨pc',r'⟩:=qq;intro tp v H5 s5 e5 hv;rw[hm] at hst';cases hst';dsimp only[tAsg.K0,tDrop.K0,Ends.to_nx,Ends.to_rt,al,sA,sB];refine⟨_,rfl,rfl,_,rfl,ite2 (λz=>nomatch of_decide_eq_true z) (λ_=>?_)⟩;exact fin (.ref tp) H5 (s14.trans s5) (.inr ⟨tp,v,rfl,e5,hv.same (ar s14 (Same.refl _))⟩) _ λv' H' h=>h
  |none=>
   intro H5 s5;rw[hm] at hst';have s15:=s14.trans s5;dsimp only[tAsg.K0,tDrop.K0,Ends.to_nx,Ends.to_rt,al,sA,sB];refine⟨_,rfl,rfl,_,rfl,ite2 (λ_=>?_) (λz=>absurd (decide_eq_true rfl) z)⟩;have hcl:=hal.get hd;refine⟨_,rfl,_,rfl,_,rfl,_,rfl,cl,_,(p:Int), .int (ck (p+1) (nxtC r0)),rfl,rfl,SqL.of (s15 _ _ ecl),ag (by rw[List.getElem?_map,hcl];rfl),t,p,r0,rfl,hd,hl,ha,?_⟩;cases hk2:bj r0 with
   |none=>
    intro H6 s6;rw[hk2] at hst';cases hst';dsimp only[tAsg.K0,tDrop.K0,Ends.to_nx,Ends.to_rt,al,sA,sB];exact fin .non H6 (s15.trans s6) (.inl ⟨rfl,rfl,rfl⟩) _ λv' H' h=>h
   |some qq=>
    obtain⟨pc',r'⟩:=qq;intro tp v H6 s6 e6 hv;rw[hk2] at hst';cases hst';dsimp only[tAsg.K0,tDrop.K0,Ends.to_nx,Ends.to_rt,al,sA,sB];exact fin (.ref tp) H6 (s15.trans s6) (.inr ⟨tp,v,rfl,e6,hv.same (ar s15 (Same.refl _))⟩) _ λv' H' h=>h
 ·rw[if_neg h91] at hst';cases hst';refine aM ((tE "[" 91 _ H3 rfl).eq (decide_eq_false λz=>h91 ((sg _).mp z))) λH4 s4=>?_;exact fin .non H4 (s13.trans s4) (.inl ⟨rfl,rfl,rfl⟩) _ λv' H' h=>h
abbrev kn:Stmt:=top 56
inductive spPieces (c:Cp)(vs:List V)(H:Hp)(Q:VK)(u3:XK):Prop
 |mk (t:List Nat)(_:vs=[vS t])(_:t.length<=100000)(_:Asc t)(_:∀r us H',Same H H'->H r=none->H' r=some (.lst us)->PcsAt c (dif H H') us (aB t)->Q (.ref r) H')
def nI (F:Fun K "pieces_of" "pieces_of" kn f fd)(T:TxI K mg c BT)(DV:Def P w K mg base 2 "closings_of" ["text"] spClosings)
  (DW:Def P w K mg base 4 "piece_at" p25 (spPieceAt c)):FnOk P w K mg base CX0 5 f fd ["text"] (spPieces c):=by
 have sc:FnScope ["text","closings","pieces","place","found"] ["text"] (ad kn):=mkS;refine F.oks sc λ{_ _ _ s _ _}H Q hr h=>?_;obtain⟨t,rfl,hl,ha,q⟩:=h;refine am (xbc (xst (i:=1) sc.nd (xcd DV hr (xac (xv 0) xa0)))
  (xbc (xst (i:=2) sc.nd (xlst xa0))
  (xbc (xst (i:=3) sc.nd xint)
  (xbc (cx PassesOwn.never (az db (xv 3) (xcB ap T.u10 PySem.boot_len (xac (xv 0) xa0)) (ai _))
  (xbc (xst (i:=4) sc.nd (xcd DW hr (xac (xv 0) (xac (xv 3) (xac (xv 1) xa0)))))
  (xbc (bw (xmA (xv 2) (xac (xix aw (xv 4) xint (λ_ _=>rfl)) xa0)))
  (xb1 (xst (i:=3) sc.nd (xix aw (xv 4) xint (λ_ _=>rfl)))))))
  (xb1 (xret (xv 2))))))) ?_
 have hs:=sizeLine_eq;rw[ug];refine⟨_,rfl,t,rfl,hl,λcl H1 s1 hcl e1=>?_⟩;dsimp only[tAsg.K0,tDrop.K0,Ends.to_nx,Ends.to_rt,al,sA,sB];refine⟨bg0,λl hl0=>?_⟩;have hl00:H l=none:=s1.free hl0;have s2:=s1.trans (ac hl0 (.lst []));have e2:upd H1 l (.lst []) l=some (.lst []):=aa;have ec2:=ac hl0 (.lst []) _ _ e1;have hne:cl≠l:=(nq hl0 e1);dsimp only[tAsg.K0,tDrop.K0,Ends.to_nx,Ends.to_rt,al,sA,sB];generalize upd H1 l (.lst [])=H2 at s2 e2 ec2 ⊢;show tSeq (tWhile _ _) _ _ [some (vS t),some (.ref cl),some (.ref l),some (.int ((0:Nat):Int)),none] H2;refine bG (λσ' H'=>∃us x4,σ'=[some (vS t),some (.ref cl),some (.ref l),some (.int (t.length:Nat)),x4]/\Same H H'/\H' l=some (.lst us)/\NewQ H [l] H' λG=>PcsAt c G us (aB t)) (λN hN=>?_) ?_
 ·refine ce (λm σ' H'=>∃(p:Nat) (us:List V) (dn:List Pc) (x4:Option V),σ'=[some (vS t),some (.ref cl),some (.ref l),some (.int (p:Nat)),x4]/\Same H H'/\H' cl=some (.lst ((clGo 0 t).map V.int))/\H' l=some (.lst us)/\(NewQ H [l] H' λG=>PcsAt c G us dn)/\p<=t.length/\m=t.length - p/\Al t p/\us.length<=p/\dn++aB (t.drop p)=aB t) t.length ⟨0,[],[],none,rfl,s2,ec2,e2,NewQ.triv trivial,l12 _,rfl, .zero t,l12 _,rfl⟩ ?_;rintro m σ' H3 ⟨p,us,dn,x4,rfl,s3,ec3,e3,hn3,hp,rfl,hA,hul,hd⟩;refine⟨decide (p < t.length),λR k=>⟨_,rfl,_,rfl,_,rfl,bigS nofun,_,_,rfl,rfl,_,rfl,?_⟩,λhc H4 s4=>?_,λhc H4 s4=>?_⟩
  ·rw[aH,show decide ((p:Int) < ((t.length:Nat):Int))=decide (p < t.length) by rw[decide_eq_decide];omega];exact k _ (Same.refl _)
  ·have hpl:p < t.length:=of_decide_eq_true hc;obtain⟨pc,r,hst⟩:=dC (s:=t.drop p) (λz=>by have:=congrArg List.length z;rw[l9,l27] at this;omega);obtain⟨p',hp',hlt,hle,hdr,hA'⟩:=hA.step hpl hst;have s34:=s3.trans s4;have e4:=s4 _ _ e3;refine⟨_,rfl,_,rfl,_,rfl,t,p,cl,pc,r,rfl,s4 _ _ ec3,hpl,hl,ha,hA,hst,λtp v H5 s5 e5 hv=>?_⟩;rw[<- hp'] at e5;dsimp only[tAsg.K0,tDrop.K0,Ends.to_nx,Ends.to_rt,al,sA,sB];have e5l:=s5 _ _ e4;refine⟨_,rfl, .inl ⟨rfl,_,SqL.of e5l⟩,?_⟩;refine qF (ev_v rfl) ev_c (SqT.of e5) (ag (j:=0) rfl) _ ⟨l,_,_,rfl,rfl,e5l,by rw[hs];omega,?_⟩;have htl:tp≠l:=(nq e5l e5);refine qF (ev_v rfl) ev_c (SqT.of ((af htl).trans e5)) (ag (j:=1) rfl) _ ?_;dsimp only[tAsg.K0,tDrop.K0,Ends.to_nx,Ends.to_rt,al,sA,sB];refine⟨t.length - p',by omega,p',us++[v],dn++[pc],_,rfl,ak hl00 (s34.trans s5),(af hne).trans (s5 _ _ (s4 _ _ ec3)),aa,?_,hle,rfl,hA',by rw[l8,l4,l27];omega,?_⟩
   ·refine NewQ.upd ?_ l10;refine NewQ.join ((hn3.same s4).same s5) (NewQ.of (R:=λG=>PcAt c G v pc) s34 (λb hb=>by rw[l14.mp hb,e4];simp) hv) qH vk λG h1 h2=>h1.snoc h2
   ·rw[l23,<- hd,cj hst,hdr];rfl
  ·have hpl:p=t.length:=by have:=of_decide_eq_false hc;omega
   subst hpl;rw[l46,cH,l29] at hd;subst hd;exact hN _ _ ⟨us,x4,rfl,s3.trans s4,s4 _ _ e3,hn3.same s4⟩
 ·rintro σ' H3 ⟨us,x4,rfl,s3,e3,hn3⟩;exact⟨_,rfl,q l us H3 s3 hl00 e3 (hn3.dif qH)⟩
abbrev iv:Stmt:=top 65
inductive spMerged (c:Cp)(vs:List V)(H:Hp)(Q:VK)(u3:XK):Prop
 |mk (G0:Hp)(W:List Addr)(l:Addr)(us:List V)(qs:List Qc)(_:vs=[.ref l])(_:Same G0 H)(_:∀b∈W,H b≠none)(_:H l=some (.lst us))(_:NewQ G0 W H λG=>QsAt c G us qs)(_:QOk qs)(_:lenQ qs<=100000)(_:qs.length<=100000)(_:∀r as H',Same H H'->H r=none->H' r=some (.lst (as.map V.ref))->(NewQ G0 W H' λG=>PCs c G as (mgGo [] qs))->Q (.ref r) H')
def nJ (F:Fun K "merged" "merged" iv f fd)(T:TxI K mg c BT)(DF:New P w K mg base 1 "Plain" c.Plain p7 (spInit1 c.Plain "signs")):FnOk P w K mg base CX0 3 f fd ["pieces"] (spMerged c):=by
 have sc:FnScope ["pieces","parts","signs","piece"] ["pieces"] (ad iv):=mkS;refine F.oks sc λ{cdv A _ s _ _}H Q hr h=>?_;obtain⟨G0,W,l,us,qs,rfl,s0,hW,el,hin,hok,hlq,hql,q⟩:=h;have hu:(A.deeper (PyProof.Rows.envOfC "merged" (ad iv) s.heap.objs.size f cdv)).units+64 < cLine:=by
  have:=hr.un;omega
 refine am (xbc (xst (i:=1) sc.nd (xlst xa0))
  (xbc (xst (i:=2) sc.nd (xlst xa0))
  (xbc (xfor PassesOwn.never rfl (xil (xv 0)) (xgm (i:=3) sc.nd)
  (xbc (xif (aZ (xcB gV T.q10 rfl (xac (xv 3) (xac (xty (T:="str") T.u11 rfl) xa0)))) (xbc (bw (xmA (xv 2) (xac (xv 3) xa0)))
  (xb1 rT)) xb0)
  (xbc (xif (az (gJ hu) (xv 2) (xlst xa0) (ai _)) (xbc (bw (xmA (xv 1) (xac (xnew DF hr.mono (xac (xm plainAttrs_str slot_str_join type_str_join b8 xstr (xac (xv 2) xa0)) xa0)) xa0)))
  (xb1 (xst (i:=2) sc.nd (xlst xa0)))) xb0)
  (xb1 (bw (xmA (xv 1) (xac (xv 3) xa0)))))))
  (xbc (xif (az (gJ hu) (xv 2) (xlst xa0) (ai _)) (xb1 (bw (xmA (xv 1) (xac (xnew DF hr.mono (xac (xm plainAttrs_str slot_str_join type_str_join b8 xstr (xac (xv 2) xa0)) xa0)) xa0)))) xb0)
  (xb1 (xret (xv 1))))))) ?_
 have hs:=sizeLine_eq;have hulen:us.length=qs.length:=let ⟨_,_,_,_,e⟩:=hin;e.len
 rw[ud];refine⟨bg0,λpr hpr=>?_⟩;have s1:=ac hpr (.lst []);have e1:upd H pr (.lst []) pr=some (.lst []):=aa;dsimp only[tAsg.K0,tDrop.K0,Ends.to_nx,Ends.to_rt,al,sA,sB];generalize upd H pr (.lst [])=H1 at s1 e1 ⊢;refine⟨bg0,λsg0 hsg0=>?_⟩;have s2:=s1.trans (ac hsg0 (.lst []));have e2p:=ac hsg0 (.lst []) _ _ e1;have e2s:upd H1 sg0 (.lst []) sg0=some (.lst []):=aa;have hsg00:H sg0=none:=s1.free hsg0;have hne0:sg0≠pr:=(nq e1 hsg0);dsimp only[tAsg.K0,tDrop.K0,Ends.to_nx,Ends.to_rt,al,sA,sB];generalize upd H1 sg0 (.lst [])=H2 at s2 e2p e2s ⊢;refine⟨_,rfl,l,rfl,⟨_,SqL.of (s2 _ _ el)⟩,?_⟩;have mk:∀{H3:Hp} {sg:Addr} {sgs:List (List Nat)} {as:List Addr} {dn:List PC},Same H H3->H3 pr=some (.lst (as.map V.ref))->H3 sg=some (.lst (sgs.map vS))->sg≠pr->Asc sgs.flatten->sgs.flatten.length<=100000->sgs≠[]->as.length<=300000->(NewQ G0 (pr::sg::W) H3 λG=>PCs c G as dn) →
   ∀{y dx:Addr},H3 y=none->H3 dx=none->dx≠y->∀H4,H4=upd (upd (upd H3 dx (.own y)) y (.ins c.Plain dx [])) y (.ins c.Plain dx [("signs",vS sgs.flatten)]) →
   Same H (upd H4 pr (.lst (as.map V.ref++[.ref y])))/\H4 pr=some (.lst (as.map V.ref))/\(upd H4 pr (.lst (as.map V.ref++[.ref y]))) pr=some (.lst ((as++[y]).map V.ref))/\(NewQ G0 (pr::sg::W) (upd H4 pr (.lst (as.map V.ref++[.ref y]))) λG=>PCs c G (as++[y]) (dn++bm sgs)):=by
  intro H3 sg sgs as dn s3 ep es hne hasc hfl hne2 hal hn y dx hy hdx hyd H4 e4;obtain⟨m1,m2⟩:=sD (H:=H3) (C:=c.Plain) (o := .ins c.Plain dx [("signs",vS sgs.flatten)]) (Same.refl H3) hy hdx;rw[<- e4] at m1 m2;refine⟨ak hpr (s3.trans m1),m1 _ _ ep,by rw[aa,l17];rfl,?_⟩;refine NewQ.upd ?_ l10;refine NewQ.join (hn.same m1) (NewQ.of (H3:=H3) (R:=λG=>PCAt c G y (.one (.plain (S sgs.flatten)))) (s0.trans s3) (λb hb=>?_) ⟨gN hasc hfl,dx,m2⟩) k8 uD λG h1 h2=>?_
  ·rcases l6.mp hb with z |hb
   ·rw[z,ep];simp
   ·rcases l6.mp hb with z |hb
    ·rw[z,es];simp
    ·intro z;exact hW b hb (s3.free z)
  ·have:bm sgs=[.one (.plain (S sgs.flatten))]:=by
    unfold bm;rw[if_neg (by simp[hne2])]
   rw[this];exact h1.snoc h2
 refine cC (xs:=us) (λi σ H'=>∃(as:List Addr) (dn:List PC) (sg:Addr) (sgs:List (List Nat)) (x3:Option V),σ=[some (.ref l),some (.ref pr),some (.ref sg),x3]/\Same H H'/\H' pr=some (.lst (as.map V.ref))/\H' sg=some (.lst (sgs.map vS))/\H sg=none/\sg≠pr/\(NewQ G0 (pr::sg::W) H' λG=>PCs c G as dn)/\as.length<=2 * i/\sgs.length<=i/\Asc sgs.flatten/\sgs.flatten.length+lenQ (qs.drop i)<=100000/\dn++mgGo sgs (qs.drop i)=mgGo [] qs)
  ⟨[],[],sg0,[],none,rfl,s2,e2p,e2s,hsg00,hne0,NewQ.triv trivial,l12 _,l12 _,(λ_ z=>nomatch z),by show 0+lenQ qs<=_;omega,rfl⟩ ?_ ?_ ?_
 ·rintro i σ H3 _ ⟨as,dn,sg,sgs,x3,_,s3,_⟩;exact SqL.of (s3 _ _ el)
 ·rintro i x σ H3 hx ⟨as,dn,sg,sgs,x3,rfl,s3,ep,es,hsg,hne,hn,hal,hsl,hasc,hfl,hrun⟩;obtain⟨hil,_⟩:=List.getElem?_eq_some_iff.mp hx;obtain⟨qc,hqc⟩:∃qc,qs[i]? = some qc:=⟨_,List.getElem?_eq_getElem nofun⟩;have hqi:=(List.getElem?_eq_some_iff.mp hqc);have hin3:NewQ G0 (pr::sg::W) H3 λG=>QAt c G x qc:=(((hin.wide hsg).wide hpr).same s3).map λG h=>by
   obtain⟨q',h1,h2⟩:=h.get hx;rw[hqc] at h1;cases h1;exact h2
  have hqd:qs.drop i=qc::qs.drop (i+1):=by rw[l25 hqi.1,hqi.2]
  have hqd2:=nw hqc;rw[hqd] at hrun;dsimp only[tAsg.K0,tDrop.K0,Ends.to_nx,Ends.to_rt,al,sA,sB];cases qc with
  |txt y=>
   obtain⟨_,_,_,_,hxy⟩:=hin3;have hxy:x=vS y:=hxy;subst hxy;have hy:=hok y (l15 hqc);have hqd2:lenQ (qs.drop i)=(y.length+0)+lenQ (qs.drop (i+1)):=hqd2;refine bF (λR k=>⟨_,rfl,_,_,_,_,rfl, .str _,gW _ _,_,rfl,k _ (Same.refl _)⟩) λH4 s4=>?_;have es4:=s4 _ _ es;refine⟨_,rfl, .inl ⟨rfl,_,SqL.of es4⟩,_,rfl,sg,_,_,rfl,rfl,es4,by rw[l0,hs];omega,?_⟩;refine⟨as,dn,sg,sgs++[y],_,rfl,ak hsg (s3.trans s4),(af (Ne.symm hne)).trans (s4 _ _ ep),by rw[aa,l17];rfl,hsg,hne,((hn.same s4).upd (l7 _ l10)),by omega,by rw[l8,l4,l27];omega,?_,?_,hrun⟩
   ·rw[List.flatten_append];exact jX hasc (by show Asc (y++[]);rw[l29];exact hy.1)
   ·rw[List.flatten_append,l8];show _+(y++[]).length+_<=_;rw[l29];omega
  |part p=>
   obtain⟨a,hxa⟩:∃a,x = .ref a:=let ⟨_,_,_,_,h⟩:=hin3;⟨h.choose,h.choose_spec.1⟩
   subst hxa;have hin3:NewQ G0 (pr::sg::W) H3 λG=>PCAt c G a p:=hin3.map λG h=>by
    obtain⟨a',e,h⟩:=h;cases e;exact h
   have hqd2:lenQ (qs.drop i)=0+lenQ (qs.drop (i+1)):=hqd2;have hpa:PCAt c H3 a p:=let ⟨_,sG,_,_,h⟩:=hin3;h.same sG
   obtain⟨ty,hty,hkt⟩:=T.noStr hpa;refine aM (λR k=>⟨_,rfl,_,_,_,_,rfl,hty,hkt,_,rfl,k _ (Same.refl _)⟩) λH4 s4=>?_;have s34:=s3.trans s4;refine bG (λσ' H'=>∃(as':List Addr) (dn':List PC) (sg':Addr),σ'=[some (.ref l),some (.ref pr),some (.ref sg'),some (.ref a)]/\Same H H'/\H' pr=some (.lst (as'.map V.ref))/\H' sg'=some (.lst [])/\H sg'=none/\sg'≠pr/\(NewQ G0 (pr::sg'::W) H' λG=>PCs c G as' dn')/\as'.length<=2 * i+1/\dn'++p::mgGo [] (qs.drop (i+1))=mgGo [] qs) (λN hN=>?_) ?_
   ·have tN:=uv (K:=K) (σ:=[some (.ref l),some (.ref pr),some (.ref sg),some (.ref a)]) (ta:=tVar 2) (ev_v rfl) (SqL.of (s4 _ _ es));refine s_if _ tN (λH5 s5 hc=>?_) (λH5 s5 hc=>?_)
    ·have hz:sgs≠[]:=λz=>by rw[z] at hc;cases hc
     have s35:=s34.trans s5;have ep5:=s5 _ _ (s4 _ _ ep);have es5:=s5 _ _ (s4 _ _ es);refine⟨_,rfl, .inl ⟨rfl,_,SqL.of ep5⟩,rfl,_,rfl,S [],sg,sgs.map S,rfl,rfl,SqL.of (by rw[es5,l26];rfl),k9 sgs nofun,?_⟩;rw[ca,fX];intro y dx hy hdx hyd;obtain⟨k1,k2,k3,k4⟩:=mk s35 ep5 es5 hne hasc nofun hz nofun ((hn.same s4).same s5) hy hdx hyd _ rfl;refine⟨y,dx,_,rfl,aa,rfl,pr,_,_,rfl,rfl,k2,by rw[l0,hs];omega,?_⟩;refine⟨bg0,λsg2 hsg2=>?_⟩;dsimp only[tAsg.K0,tDrop.K0,Ends.to_nx,Ends.to_rt,al,sA,sB];have hsgH:H sg2=none:=k1.free hsg2;have hne3:sg2≠pr:=(nq k3 hsg2);refine hN _ _ ⟨as++[y],dn++bm sgs,sg2,rfl,k1.trans (ac hsg2 _),ac hsg2 _ _ _ k3,aa,hsgH,hne3,?_,by rw[l8,l4,l27];omega,by rw[l23];exact hrun⟩;exact (((k4.less (W':=pr::W) λb hb=>by
      rcases l6.mp hb with z |z
      ·rw[z];exact l10
      ·exact l7 _ (l7 _ z)).wide hsg2).less λb hb=>by
      rcases l6.mp hb with z |z
      ·rw[z];exact l7 _ l10
      ·rcases l6.mp z with z |z
       ·rw[z];exact l10
       ·exact l7 _ (l7 _ z)).same (ac hsg2 _)
    ·have hz:sgs=[]:=by
      cases sgs with
      |nil=>rfl
      |cons _ _=>cases hc
     subst hz;exact hN _ _ ⟨as,dn,sg,rfl,s34.trans s5,s5 _ _ (s4 _ _ ep),s5 _ _ (s4 _ _ es),hsg,hne,(hn.same s4).same s5,by omega,hrun⟩
   ·rintro σ' H5 ⟨as',dn',sg',rfl,s5,ep5,es5,hsg',hne',hn5,hal',hrun'⟩;refine⟨_,rfl, .inl ⟨rfl,_,SqL.of ep5⟩,_,rfl,pr,_,_,rfl,rfl,ep5,by rw[l0,hs];omega,?_⟩;refine⟨as'++[a],dn'++[p],sg',[],_,rfl,ak hpr s5,by rw[aa,l17];rfl,(af hne').trans es5,hsg',hne',?_,by rw[l8,l4,l27];omega,l12 _,(λ_ z=>nomatch z),by show 0+_<=_;omega,by rw[l23];exact hrun'⟩;refine NewQ.upd ?_ l10;have hin5:NewQ G0 (pr::sg'::W) H5 λG=>PCAt c G a p:=(((hin.wide hsg').wide hpr).same s5).map λG h=>by
     obtain⟨q',h1,h2⟩:=h.get hx;rw[hqc] at h1;cases h1;obtain⟨a',e,h2⟩:=h2;cases e;exact h2
    exact NewQ.join hn5 hin5 k8 uD λG h1 h2=>h1.snoc h2
 ·rintro σ H3 ⟨as,dn,sg,sgs,x3,rfl,s3,ep,es,hsg,hne,hn,hal,hsl,hasc,hfl,hrun⟩;rw[hulen,l46] at hrun hfl;have fin:∀{as':List Addr} {H5:Hp},Same H H5->H5 pr=some (.lst (as'.map V.ref))->(NewQ G0 (pr::sg::W) H5 λG=>PCs c G as' (mgGo [] qs))->Q (.ref pr) H5:=λs5 ep5 hn5=>q pr _ _ s5 hpr ep5 (hn5.less λb hb=>l7 _ (l7 _ hb));have tN:=uv (K:=K) (σ:=[some (.ref l),some (.ref pr),some (.ref sg),x3]) (ta:=tVar 2) (ev_v rfl) (SqL.of es);refine s_if _ tN (λH5 s5 hc=>?_) (λH5 s5 hc=>?_)
  ·have hz:sgs≠[]:=λz=>by rw[z] at hc;cases hc
   have s35:=s3.trans s5;have ep5:=s5 _ _ ep;have es5:=s5 _ _ es;refine⟨_,rfl, .inl ⟨rfl,_,SqL.of ep5⟩,rfl,_,rfl,S [],sg,sgs.map S,rfl,rfl,SqL.of (by rw[es5,l26];rfl),k9 sgs nofun,?_⟩;rw[ca,fX];intro y dx hy hdx hyd;obtain⟨k1,k2,k3,k4⟩:=mk s35 ep5 es5 hne hasc nofun hz nofun (hn.same s5) hy hdx hyd _ rfl;refine⟨y,dx,_,rfl,aa,rfl,pr,_,_,rfl,rfl,k2,by rw[l0,hs];omega,?_⟩;refine⟨_,rfl,fin k1 k3 (k4.map λG h=>?_)⟩;rw[<- hrun];exact h
  ·have hz:sgs=[]:=by
    cases sgs with
    |nil=>rfl
    |cons _ _=>cases hc
   subst hz;refine⟨_,rfl,fin (s3.trans s5) (s5 _ _ ep) ((hn.same s5).map λG h=>?_)⟩;rw[<- hrun];show PCs c G as (dn++[]);rw[l29];exact h
abbrev fj:Stmt:=top 64
inductive spStrongs (c:Cp)(vs:List V)(H:Hp)(Q:VK)(u3:XK):Prop
 |mk (G0:Hp)(l:Addr)(us:List V)(ps:List Pc)(_:vs=[.ref l])(_:Same G0 H)(_:H l=some (.lst us))(_:PcsAt c (dif G0 H) us ps)(_:PcOk ps)(_:ps.length<=100000)(_:∀r ws H',Same H H'->H r=none->H' r=some (.lst ws)->QsAt c (dif G0 H') ws (wsGo none ps)->Q (.ref r) H')
def lU (F:Fun K "with_strong" "with_strong" fj f fd)(T:TxI K mg c BT)(DX:New P w K mg base 1 "Strong" c.Strong p8 (spInitS c.Strong))(Dz:Def P w K mg base 3 "merged" ["pieces"] (spMerged c)):FnOk P w K mg base CX0 4 f fd ["pieces"] (spStrongs c):=by
 have sc:FnScope ["pieces","outer","inner","begun","piece"] ["pieces"] (ad fj):=mkS;refine F.oks sc λ{cdv A _ s _ _}H Q hr h=>?_;obtain⟨G0,l,us,ps,rfl,s0,el,hin,hok,hpl,q⟩:=h;have hu:(A.deeper (PyProof.Rows.envOfC "with_strong" (ad fj) s.heap.objs.size f cdv)).units+64 < cLine:=by
  have:=hr.un;omega
 refine am (xbc (xst (i:=1) sc.nd (xlst xa0))
  (xbc (xst (i:=2) sc.nd (xlst xa0))
  (xbc (xst (i:=3) sc.nd xbl)
  (xbc (xfor PassesOwn.never rfl (xil (xv 0)) (xgm (i:=4) sc.nd)
  (xb1 (xif (xand (az jN (xv 4) xnon (ai _)) (jR (aZ (xv 3)))).xt (xb1 (bw (xmA (xv 2) (xac (xv 4) xa0)))) (xb1 (xif (az jN (xv 4) xnon (ai _)) (xb1 (bw (xmA (xv 1) (xac (xv 4) xa0)))) (xb1 (xif (cQ (aZ (xv 3))) (xb1 (xst (i:=3) sc.nd xbl)) (xbc (bw (xmA (xv 1) (xac (xifE (az (qC hu) (xv 2) (xlst xa0) (ai _)) xstr (xnew DX hr.mono (xac (xcd Dz hr (xac (xv 2) xa0)) xa0))) xa0)))
  (xbc (xst (i:=2) sc.nd (xlst xa0))
  (xb1 (xst (i:=3) sc.nd xbl)))))))))))
  (xbc (xif (aZ (xv 3)) (xb1 (bw (xmA (xv 1) (xac xstr xa0)))) xb0)
  (xb1 (xret (xop bN (xv 1) (xv 2))))))))) ?_
 have hs:=sizeLine_eq;have hulen:us.length=ps.length:=hin.len;rw[ug];refine⟨bg0,λou hou=>?_⟩;have s1:=ac hou (.lst []);have e1:upd H ou (.lst []) ou=some (.lst []):=aa;dsimp only[tAsg.K0,tDrop.K0,Ends.to_nx,Ends.to_rt,al,sA,sB];generalize upd H ou (.lst [])=H1 at s1 e1 ⊢;refine⟨bg0,λin0 hin0=>?_⟩;have s2:=s1.trans (ac hin0 (.lst []));have e2o:=ac hin0 (.lst []) _ _ e1;have e2i:upd H1 in0 (.lst []) in0=some (.lst []):=aa;have hin00:H in0=none:=s1.free hin0;have hne0:in0≠ou:=(nq e1 hin0);dsimp only[tAsg.K0,tDrop.K0,Ends.to_nx,Ends.to_rt,al,sA,sB];generalize upd H1 in0 (.lst [])=H2 at s2 e2o e2i ⊢;refine⟨_,rfl,l,rfl,⟨_,SqL.of (s2 _ _ el)⟩,?_⟩;refine cC (xs:=us) (λi σ H'=>∃(ws ys:List V) (dn iq:List Qc) (nn:Addr) (bg:Bool) (x4:Option V),σ=[some (.ref l),some (.ref ou),some (.ref nn),some (.bl bg),x4]/\Same H H'/\H' ou=some (.lst ws)/\H' nn=some (.lst ys)/\H nn=none/\nn≠ou/\(NewQ G0 [ou,nn] H' λG=>QsAt c G ws dn/\QsAt c G ys iq)/\ws.length<=i/\ys.length<=i/\lenQ iq<=i/\QOk iq/\OneQ iq/\(bg=false->iq=[])/\dn++wsGo (if bg then some iq else none) (ps.drop i)=wsGo none ps)
  ⟨[],[],[],[],in0,false,none,rfl,s2,e2o,e2i,hin00,hne0,NewQ.triv ⟨trivial,trivial⟩,l12 _,l12 _,l12 _,QOk.nil,(λ_ z=>nomatch z),λ_=>rfl,rfl⟩ ?_ ?_ ?_
 ·rintro i σ H3 _ ⟨ws,ys,dn,iq,nn,bg,x4,_,s3,_⟩;exact SqL.of (s3 _ _ el)
 ·rintro i x σ H3 hx ⟨ws,ys,dn,iq,nn,bg,x4,rfl,s3,eo,en,hnn,hne,hn,hwl,hyl,hiq,hqo,hone,hbg,hrun⟩;obtain⟨hil,_⟩:=List.getElem?_eq_some_iff.mp hx;obtain⟨pc,hpc⟩:∃pc,ps[i]? = some pc:=⟨_,List.getElem?_eq_getElem nofun⟩;have hpi:=(List.getElem?_eq_some_iff.mp hpc);have hpa:PcAt c (dif G0 H) x pc:=by
   obtain⟨p',h1,h2⟩:=hin.get hx;rw[hpc] at h1;cases h1;exact h2
  have hpd:ps.drop i=pc::ps.drop (i+1):=by rw[l25 hpi.1,hpi.2]
  rw[hpd] at hrun;dsimp only[tAsg.K0,tDrop.K0,Ends.to_nx,Ends.to_rt,al,sA,sB];by_cases hstar:pc = .star
  ·subst hstar;have hxn:x = .non:=hpa;subst hxn;have tN:∀H',Tells (tTest (tOp R_op_notN (tVar 4) (tC .non))) [some (.ref l),some (.ref ou),some (.ref nn),some (.bl bg),some V.non] H' false:=λH' R k=>⟨_,rfl,rfl,_,rfl,by rw[show (!decide (V.non=V.non))=false from rfl];exact k H' (Same.refl _)⟩;refine s_if false (eZ false false (tN H3) λz=>Bool.noConfusion z) (λ_ _ z=>Bool.noConfusion z) λH4 s4 _=>?_;refine s_if false (tN H4) (λ_ _ z=>Bool.noConfusion z) λH5 s5 _=>?_;have s35:=(s3.trans s4).trans s5;have eo5:=s5 _ _ (s4 _ _ eo);have en5:=s5 _ _ (s4 _ _ en);have hn5:=(hn.same s4).same s5;cases bg with
   |false=>
    have hz:=hbg rfl;subst hz;have hyz:ys=[]:=by
     obtain⟨_,_,_,_,_,h⟩:=hn;exact l49 h.len
    subst hyz;refine s_if true (gk false (t_bv (ev_v rfl))) (λH6 s6 _=>?_) λ_ _ z=>Bool.noConfusion z;exact⟨ws,[],dn,[],nn,true,_,rfl,s35.trans s6,s6 _ _ eo5,s6 _ _ en5,hnn,hne,hn5.same s6,by omega,l12 _,l12 _,QOk.nil,hone,λz=>Bool.noConfusion z,hrun⟩
   |true=>
    refine s_if false (gk true (t_bv (ev_v rfl))) (λ_ _ z=>Bool.noConfusion z) λH6 s6 _=>?_;have s36:=s35.trans s6;have eo6:=s6 _ _ eo5;have en6:=s6 _ _ en5;have hn6:=hn5.same s6;have hylen:ys.length=iq.length:=let ⟨_,_,_,_,_,h⟩:=hn;h.len
    have rest:∀{H7:Hp} {v:V},Same H H7->H7 ou=some (.lst ws)->H7 nn=some (.lst ys)->(NewQ G0 [ou,nn] H7 λG=>QsAt c G ws dn)->(NewQ G0 [ou,nn] H7 λG=>QAt c G v (aY iq))->∀{in2:Addr},upd H7 ou (.lst (ws++[v])) in2=none →
      ∃(ws' ys':List V) (dn' iq':List Qc) (nn':Addr) (bg':Bool) (x4':Option V),[some (V.ref l),some (V.ref ou),some (V.ref in2),some (V.bl false),some V.non]=[some (V.ref l),some (V.ref ou),some (V.ref nn'),some (V.bl bg'),x4']/\Same H (upd (upd H7 ou (.lst (ws++[v]))) in2 (.lst []))/\upd (upd H7 ou (.lst (ws++[v]))) in2 (.lst []) ou=some (.lst ws')/\upd (upd H7 ou (.lst (ws++[v]))) in2 (.lst []) nn'=some (.lst ys')/\H nn'=none/\nn'≠ou/\(NewQ G0 [ou,nn'] (upd (upd H7 ou (.lst (ws++[v]))) in2 (.lst [])) λG=>QsAt c G ws' dn'/\QsAt c G ys' iq')/\ws'.length<=i+1/\ys'.length<=i+1/\lenQ iq'<=i+1/\QOk iq'/\OneQ iq'/\(bg'=false->iq'=[])/\dn'++wsGo (if bg' then some iq' else none) (ps.drop (i+1))=wsGo none ps:=by
     intro H7 v s7 eo7 en7 hd7 hv7 in2 hin2;have s8:Same H (upd H7 ou (.lst (ws++[v]))):=ak hou s7;have e8:upd H7 ou (.lst (ws++[v])) ou=some (.lst (ws++[v])):=aa;have hne2:in2≠ou:=(nq e8 hin2);refine⟨ws++[v],[],dn++[aY iq],[],in2,false,_,rfl,s8.trans (ac hin2 _),ac hin2 _ _ _ e8,aa,s8.free hin2,hne2,?_,by rw[l8,l4,l27];omega,l12 _,l12 _,QOk.nil,(λ_ z=>nomatch z),λ_=>rfl,by rw[l23];exact hrun⟩;have j:NewQ G0 [ou,nn] (upd H7 ou (.lst (ws++[v]))) λG=>QsAt c G (ws++[v]) (dn++[aY iq])/\QsAt c G [] []:=NewQ.upd (NewQ.join hd7 hv7 vm mo_Q λG h1 h2=>⟨h1.snoc h2,trivial⟩) l10;exact (((j.less (W':=[ou]) λb hb=>by rw[l14.mp hb];exact l10).wide hin2).less λb hb=>by
      rcases l6.mp hb with z |z
      ·rw[z];exact l7 _ l10
      ·rw[l14.mp z];exact l10).same (ac hin2 _)
    refine⟨_,rfl, .inl ⟨rfl,_,SqL.of eo6⟩,?_⟩;refine vd (K:=K) (ta:=tVar 2) (ev_v rfl) (SqL.of en6) _ λH7 s7=>?_;have s37:=s36.trans s7;have eo7:=s7 _ _ eo6;have en7:=s7 _ _ en6;have hn7:=hn6.same s7;by_cases hyz:ys=[]
    ·subst hyz;have hiz:iq=[]:=l49 hylen.symm;refine ite2 (λ_=>?_) (λz=>absurd rfl z);refine⟨ou,_,_,rfl,rfl,eo7,by rw[hs];omega,bg0,λin2 hin2=>?_⟩;dsimp only[tAsg.K0,tDrop.K0,Ends.to_nx,Ends.to_rt,al,sA,sB];refine rest s37 eo7 en7 (hn7.map λG h=>h.1) (NewQ.triv ?_) hin2;subst hiz;rfl
    ·refine ite2 (λz=>absurd (List.isEmpty_iff.mp z) hyz) (λ_=>?_);refine⟨_,rfl,G0,[ou,nn],nn,ys,iq,rfl,s0.trans s37,λb hb=>?_,en7,hn7.map λG h=>h.2,hqo,by omega,by omega,λr as H8 s8 hr0 er hPC=>?_⟩
     ·rcases l6.mp hb with z |z
      ·rw[z,eo7];simp
      ·rw[l14.mp z,en7];simp
     intro y dx hy hdx hyd;have s38:=s37.trans s8;have hry:r≠y:=(nq hy er);have hrd:r≠dx:=(nq hdx er);refine⟨y,dx,r,_,rfl,aa,by rw[af hry,af hrd];exact er,λp hp=>⟨rfl,?_⟩⟩;have hpy:p≠y:=(nq aa hp);have s9:Same H8 (upd (upd H8 dx (.own y)) y (.ins c.Strong dx [])):=ak hy (ac hdx _);have hp8:H8 p=none:=s9.free hp;generalize hH9:upd (upd (upd (upd H8 dx (.own y)) y (.ins c.Strong dx [])) p (.lst (as.map V.ref))) y (.ins c.Strong dx [("parts", .ref p)])=H9;have s89:Same H8 H9:=by rw[<- hH9];exact ak hy (s9.trans (ac hp _))
     have e9y:H9 y=some (.ins c.Strong dx [("parts", .ref p)]):=by rw[<- hH9];exact aa
     have e9p:H9 p=some (.lst (as.map V.ref)):=by rw[<- hH9,af hpy];exact aa
     refine⟨ou,_,_,rfl,rfl,s89 _ _ (s8 _ _ eo7),by rw[hs];omega,bg0,λin2 hin2=>?_⟩;dsimp only[tAsg.K0,tDrop.K0,Ends.to_nx,Ends.to_rt,al,sA,sB];refine rest (s38.trans s89) (s89 _ _ (s8 _ _ eo7)) (s89 _ _ (s8 _ _ en7)) (((hn7.same s8).same s89).map λG h=>h.1) ?_ hin2;refine NewQ.join (hPC.same s89) (NewQ.of (H3:=H8) (R:=λG=>G y=some (.ins c.Strong dx [("parts", .ref p)])/\G p=some (.lst (as.map V.ref))) (s0.trans s38) (λb hb z=>?_) ⟨by rw[ao hy];exact e9y,by rw[ao hp8];exact e9p⟩) k8 (λG G' s h=>⟨s _ _ h.1,s _ _ h.2⟩) λG h1 h2=>?_
     ·rcases l6.mp hb with z2 |z2
      ·rw[z2,s8 _ _ eo7] at z;cases z
      ·rw[l14.mp z2,s8 _ _ en7] at z;cases z
     ·have hiz:iq≠[]:=λz=>hyz (l49 (by rw[hylen,z];rfl));have:aY iq = .part (.strong (ones (mgGo [] iq))):=by
       unfold aY;rw[if_neg (by simp[hiz])]
      rw[this];exact⟨y,rfl,dx,p,as,h2.1,h2.2,h1.ones (kh iq [] hone)⟩
  ·have hxn:x ≠ .non:=by
    intro z;subst z;cases pc with
    |star=>exact hstar rfl
    |sign _=>exact nomatch hpa
    |code _=>obtain⟨_,e,_⟩:=hpa;exact nomatch e
    |note _=>obtain⟨_,e,_⟩:=hpa;exact nomatch e
    |link _ _=>obtain⟨_,e,_⟩:=hpa;exact nomatch e
   have tN:∀H',Tells (tTest (tOp R_op_notN (tVar 4) (tC .non))) [some (.ref l),some (.ref ou),some (.ref nn),some (.bl bg),some x] H' true:=λH' R k=>⟨_,rfl,rfl,_,rfl,by rw[decide_eq_false hxn];exact k H' (Same.refl _)⟩;have hq3 : ∀ {H' : Hp}, Same H H' -> NewQ G0 [ou, nn] H' fun G => QAt c G x (toQ pc) := fun s' => (NewQ.old (H3 := H) (R := fun G => PcAt c G x pc) s' s0 (λb hb=>by
    rcases l6.mp hb with z |z
    ·rw[z];exact hou
    ·rw[l14.mp z];exact hnn) hpa).map λG h=>h.toQ hstar
   cases bg with
   |true=>
    refine s_if true (eZ true true (tN H3) λ_ H4 s4=>t_bv (ev_v rfl)) (λH4 s4 _=>?_) λ_ _ z=>Bool.noConfusion z;have en4:=s4 _ _ en;have s34:=s3.trans s4;refine⟨_,rfl, .inl ⟨rfl,_,SqL.of en4⟩,_,rfl,nn,_,_,rfl,rfl,en4,by rw[hs];omega,?_⟩;have hrun:dn++wsGo (some iq) (pc::ps.drop (i+1))=wsGo none ps:=hrun;rw[fW hstar] at hrun;refine⟨ws,ys++[x],dn,iq++[toQ pc],nn,true,_,rfl,ak hnn s34,(af (Ne.symm hne)).trans (s4 _ _ eo),aa,hnn,hne,?_,by omega,by rw[l8,l4,l27];omega,?_,?_,hone.snoc pc,λz=>Bool.noConfusion z,hrun⟩
    ·refine NewQ.upd ?_ (l7 _ l10);exact NewQ.join (hn.same s4) (hq3 s34) (λG G' s h=>⟨h.1.same s,h.2.same s⟩) mo_Q λG h1 h2=>⟨h1.1,h1.2.snoc h2⟩
    ·have:=ii pc;rw[cI];omega
    ·exact hqo.app (QOk.cons (λl z=>nv (λy e=>by subst e;exact hok y (l15 hpc)) z) QOk.nil)
   |false=>
    refine s_if false (eZ true false (tN H3) λ_ H4 s4=>t_bv (ev_v rfl)) (λ_ _ z=>Bool.noConfusion z) λH4 s4 _=>?_;refine s_if true (tN H4) (λH5 s5 _=>?_) λ_ _ z=>Bool.noConfusion z;have s45:=s4.trans s5;have eo5:=s45 _ _ eo;have s35:=s3.trans s45;refine⟨_,rfl, .inl ⟨rfl,_,SqL.of eo5⟩,_,rfl,ou,_,_,rfl,rfl,eo5,by rw[hs];omega,?_⟩;have hrun:dn++wsGo none (pc::ps.drop (i+1))=wsGo none ps:=hrun;rw[fV hstar] at hrun;refine⟨ws++[x],ys,dn++[toQ pc],iq,nn,false,_,rfl,ak hou s35,aa,(af hne).trans (s45 _ _ en),hnn,hne,?_,by rw[l8,l4,l27];omega,by omega,by omega,hqo,hone,hbg,by rw[l23];exact hrun⟩;refine NewQ.upd ?_ l10;exact NewQ.join (hn.same s45) (hq3 s35) (λG G' s h=>⟨h.1.same s,h.2.same s⟩) mo_Q λG h1 h2=>⟨h1.1.snoc h2,h1.2⟩
 ·rintro σ H3 ⟨ws,ys,dn,iq,nn,bg,x4,rfl,s3,eo,en,hnn,hne,hn,hwl,hyl,hiq,hqo,hone,hbg,hrun⟩;rw[hulen,l46] at hrun;have fin:∀{ws':List V} {dn':List Qc} {H5:Hp},Same H H5->H5 ou=some (.lst ws')->H5 nn=some (.lst ys)->ws'.length<=us.length+1->(NewQ G0 [ou,nn] H5 λG=>QsAt c G ws' dn'/\QsAt c G ys iq)->dn'++iq=wsGo none ps->tOp rCat (tVar 1) (tVar 2) [some (V.ref l),some (V.ref ou),some (V.ref nn),some (V.bl bg),x4] H5 Q:=λ{ws' dn' H5} s5 eo5 en5 hl5 hn5 e5=>
   ⟨_, rfl, _, rfl, ou, nn, _, _, rfl, rfl, eo5, en5, by rw [hs]; omega, fun r hr0 => q r _ _ (s5.trans (ac hr0 _)) (s5.free hr0) aa (by
    have h:=(hn5.same (ac hr0 (.lst (ws'++ys)))).dif (λG G' s h=>⟨h.1.same s,h.2.same s⟩);rw[<- e5];exact h.1.app h.2)⟩
  cases bg with
  |true=>
   refine s_if true (t_bv (ev_v rfl)) (λH5 s5 _=>?_) λ_ _ z=>Bool.noConfusion z;have eo5:=s5 _ _ eo;refine⟨_,rfl, .inl ⟨rfl,_,SqL.of eo5⟩,ou,_,_,rfl,rfl,eo5,by rw[hs];omega,?_⟩;refine fin (ak hou (s3.trans s5)) aa ((af hne).trans (s5 _ _ en)) (by rw[l8,l4,l27];omega) (dn':=dn++[.txt [42]]) ?_ (by rw[l23];exact hrun);refine NewQ.upd ?_ l10;exact NewQ.join (hn.same s5) (NewQ.triv (R:=λG=>QAt c G (V.str "*") (.txt [42])) rfl) (λG G' s h=>⟨h.1.same s,h.2.same s⟩) mo_Q λG h1 h2=>⟨h1.1.snoc h2,h1.2⟩
  |false=>
   have hz:=hbg rfl;refine s_if false (t_bv (ev_v rfl)) (λ_ _ z=>Bool.noConfusion z) λH5 s5 _=>?_;refine fin (s3.trans s5) (s5 _ _ eo) (s5 _ _ en) nofun (hn.same s5) ?_;rw[hz];exact hrun
abbrev iw:Stmt:=top 55
inductive spPartsOf (c:Cp)(vs:List V)(H:Hp)(Q:VK)(u3:XK):Prop
 |mk (t:List Nat)(_:vs=[vS t])(_:t.length<=100000)(_:Asc t)(_:∀r as H',Same H H'->H r=none->H' r=some (.lst (as.map V.ref))->PCs c (dif H H') as (bn t)->Q (.ref r) H')
def lV (F:Fun K "parts_of" "parts_of" iw f fd)(T:TxI K mg c BT)(DY:Def P w K mg base 5 "pieces_of" ["text"] (spPieces c))(DZ:Def P w K mg base 4 "with_strong" ["pieces"] (spStrongs c))(Dz:Def P w K mg base 3 "merged" ["pieces"] (spMerged c)):FnOk P w K mg base CX0 6 f fd ["text"] (spPartsOf c):=by
 have sc:FnScope ["text"] ["text"] (ad iw):=mkS;refine F.oks sc λH Q hr h=>?_;obtain⟨t,rfl,hl,ha,q⟩:=h;refine am (xb1 (xret (xcd Dz hr (xac (xcd DZ hr (xac (xcd DY hr (xac (xv 0) xa0)) xa0)) xa0)))) ?_;have hp:=ek _ t (l5 _);have hok:=jn _ t (l5 _) ha;have hsz:=bx (aB t) none;have h1:lenQ (wsGo none (aB t))<=(aB t).length+0:=hsz.1;have h2:(wsGo none (aB t)).length<=(aB t).length+0:=hsz.2;refine⟨_,rfl,t,rfl,hl,ha,λr1 us H1 s1 hr1 e1 k1=>?_⟩;refine⟨H,r1,us,aB t,rfl,s1,e1,k1,hok,by omega,λr2 ws H2 s2 hr2 e2 k2=>?_⟩;have s12:=s1.trans s2;refine⟨H,[],r2,ws,wsGo none (aB t),rfl,s12,(λ_ z=>nomatch z),e2,NewQ.of (H3:=H) (Same.refl _) (λ_ z=>nomatch z) k2,fU _ none hok (λ_ e=>nomatch e),by omega,by omega,λr as H3 s3 hr3 e3 k3=>?_⟩;exact q r as H3 (s12.trans s3) (s12.free hr3) e3 (k3.dif k8)
end
end K14
namespace L2
open PySem PySem.Spec PyProof.Rows
open Builtin Builtin.Str
end L2
namespace Lm
open PySem PySem.Spec L2 Lw PyProof.Rows Builtin Builtin.Str
end Lm
namespace L2
open PySem PySem.Spec PyProof.Rows
end L2
namespace Lw
open PySem L2 Lm
end Lw
namespace L2
open PySem PySem.Spec PyProof.Rows
section
variable {X:Cx}
inductive rEqW (K:Frag)(k:Bool)(x y:V)(H:Hp)(Q:VK):Prop
 |mk (d)(_:Den K H x d)(_:Den K H y d)(_:d.depth<=64)(_:Q (.bl k) H)
def ix {K:Frag}{H:Hp}{x:V}{d:PyData}(dx:Den K H x d)(hd:d.depth<=64):SeqAt.shaped d=true:=by
 unfold SeqAt.shaped;rw[dx.lay,Bool.true_and];exact decide_eq_true hd
def uE (hu:X.A.units+64 < cLine):OpR X (compareOp .Eq) (rEqW X.K true):=by
 intro w9 s σ H x y v u Q I rx ry h;obtain⟨d,dx,dy,hd,q⟩:=h;obtain⟨as,ra⟩:=dx.reads I rx;obtain⟨bs,rb⟩:=dy.reads I ry;refine eq_dataH ra rb (ix dx hd) (ix dy hd) hu ?_;rw[gU d dx.lay];exact⟨.bl true,H,I,rfl,q⟩
def nK (hu:X.A.units+64 < cLine):OpR X (compareOp .NotEq) (rEqW X.K false):=by
 intro w9 s σ H x y v u Q I rx ry h;obtain⟨d,dx,dy,hd,q⟩:=h;obtain⟨as,ra⟩:=dx.reads I rx;obtain⟨bs,rb⟩:=dy.reads I ry;refine ne_dataH ra rb (ix dx hd) (ix dy hd) hu ?_;rw[gU d dx.lay];exact⟨.bl false,H,I,rfl,q⟩
end
end L2
namespace Lw
open PySem L2 Lm
theorem c6 {n:Nat}:∀{ds:List PyData},(∀d∈ds,d.depth<=n)->PyData.depthAll ds<=n
 | [],_=>by unfold PyData.depthAll;omega
 |d::ds,h=>by
  have h1:=h d l10;have h2:=c6 λx hx=>h x (l7 _ hx);unfold PyData.depthAll;omega
def aO {n:Nat}{ds:List PyData}(h:∀d∈ds,d.depth<=n):(PyData.list ds).depth<=n+1:=by
 have:=c6 h;unfold PyData.depth;omega
def bu {n:Nat}{ds:List PyData}(h:∀d∈ds,d.depth<=n):(PyData.tuple ds).depth<=n+1:=by
 have:=c6 h;unfold PyData.depth;omega
def bI (x:Str):(PyData.str x).depth=0:=by unfold PyData.depth;rfl
def lc (p:P1):(d1 p).depth<=1:=by
 cases p <;> (refine bu λd hd=>?_) <;> simp only[l6,List.not_mem_nil,or_false] at hd <;> (rcases hd with rfl |rfl |rfl) <;> (rw[bI];exact l5 0)
def pN (p:PC):(dP p).depth<=3:=by
 cases p with
 |one p=>exact l11 (lc p) ∅
 |strong ps=>
  refine bu λd hd=>?_;simp only[l6,List.not_mem_nil,or_false] at hd;rcases hd with rfl |rfl
  ·rw[bI];decide
  ·refine aO λd hd=>?_;obtain⟨p,_,rfl⟩:=l16.mp hd;exact lc p
def sz1:P1->Nat
 | .plain s=>s.cps.toList.length
 | .code s=>s.cps.toList.length+2
 | .link w n=>w.cps.toList.length+n.cps.toList.length+20
 | .note n=>n.cps.toList.length+20
def szC:PC->Nat
 | .one p=>sz1 p
 | .strong ps=>(ps.map sz1).sum+2
def Ok1:P1->Prop
 | .plain s=>Asc s.cps.toList/\s.cps.toList≠[]
 | .code s=>Asc s.cps.toList
 | .link w n=>Asc w.cps.toList/\Asc n.cps.toList
 | .note n=>Asc n.cps.toList
def OkC:PC->Prop
 | .one p=>Ok1 p
 | .strong ps=>∀p∈ps,Ok1 p
def R2:PC->Prop
 | .one _=>True
 | .strong ps=>ps.length<=100000
def uF {p:P1}(h:Ok1 p):1<=sz1 p:=by
 cases p with
 |plain s=>
  have:s.cps.toList≠[]:=h.2;show 1<=s.cps.toList.length;cases e:s.cps.toList with
  |nil=>exact absurd e this
  |cons _ _=>simp
 |code s=>show 1<=_+2;omega
 |link a b=>show 1<=_+20;omega
 |note s=>show 1<=_+20;omega
def sF {l:List P1}(h:∀p∈l,Ok1 p):l.length<=(l.map sz1).sum:=by
 induction l with
 |nil=>exact l5 0
 |cons p l ih=>
  have h1:=ih λq hq=>h q (l7 _ hq);have h2:=uF (h p l10);rw[l13,l19,l4];omega
def sI {l:List PC}{p:PC}(h:p∈l):szC p<=(l.map szC).sum:=by
 induction l with
 |nil=>cases h
 |cons q l ih=>
  rw[l13,l19];rcases l6.mp h with z |z
  ·rw[z];omega
  ·have:=ih z;omega
def vn {l:List PC}(h:∀p∈l,OkC p)(hs:(l.map szC).sum<=90000):∀p∈l,R2 p:=λp hp=>by
 have h1:=sI hp;have h2:=h p hp;cases p with
 |one q=>trivial
 |strong q=>
  have h3:=sF h2;have h4:szC (.strong q)=(q.map sz1).sum+2:=rfl;show q.length<=100000;omega
def wrC (r:List Nat):Option (List Nat×List Nat):=(nxtC r).map λk=>(freeC (r.take k),r.drop (k+1))
def uG {r:List Nat}:wrC (93::r)=some ([],r):=by
 unfold wrC;rw[kf];rfl
def uH {r w t:List Nat}(h:wrC r=some (w,t)):w.length+t.length < r.length:=by
 unfold wrC at h;cases hn:nxtC r with
 |none=>rw[hn] at h;cases h
 |some k=>
  rw[hn] at h;cases h;obtain⟨u,v,e,hu⟩:=gL hn;have hf:∀t:List Nat,(freeC t).length<=t.length:=λt=>by
   induction hl:t.length using Nat.strongRecOn generalizing t with
   |_ n ih=>
    match t,hl with
    | [],hl=>exact l12 _
    |x::r,hl=>
     cases ht:ax (x::r) with
     |false=>
      rw[free_one' ht,l4];have:=ih r.length (by rw[<- hl,l4];omega) r rfl;rw[l4] at hl;omega
     |true=>
      obtain⟨y,r',e'⟩:=bp ht;obtain⟨_,rfl⟩:=List.cons.inj e';rw[free_take' ht,l4];have:=ih r'.length (by rw[<- hl,l4,l4];omega) r' rfl;rw[l4,l4] at hl;omega
  have:=hf (r.take k);rw[l21] at this;rw[l9];have:=congrArg List.length e;rw[l8,l4] at this;omega
def uI {r w t:List Nat}(ha:Asc r)(h:wrC r=some (w,t)):Asc w/\Asc t:=by
 unfold wrC at h;cases hn:nxtC r with
 |none=>rw[hn] at h;cases h
 |some k=>
  rw[hn] at h;cases h;exact⟨λc hc=>ha c (l72 (fh hc)),ha.drop _⟩
def wr_empty {r t:List Nat}:wrC r=some ([],t) ↔ r=93::t:=by
 constructor
 ·intro h;unfold wrC at h;cases hn:nxtC r with
  |none=>rw[hn] at h;cases h
  |some k=>
   rw[hn] at h;have h1:freeC (r.take k)=[]:=(Prod.mk.inj (Option.some.inj h)).1;have h2:r.drop (k+1)=t:=(Prod.mk.inj (Option.some.inj h)).2;obtain⟨u,v,e,hu⟩:=gL hn;subst hu;rw[e,l52] at h1;cases u with
   |nil=>rw[e] at h2 ⊢;rw[<- h2];rfl
   |cons x u=>
    exfalso;cases u with
    |nil=>cases h1
    |cons y u=>
     replace h1:(if x=92/\takenC.contains y=true then y::freeC u else x::freeC (y::u))=[]:=h1;split at h1 <;> cases h1
 ·rintro rfl;exact uG
def sJ (r:List Nat):bj r=match wrC r with |some (w,t)=>if w=[] then none else (match t with |40::r2=>(nameAt 41 r2).map λ(n,r3)=>(Pc.link w n,r3) |_=>none) |none=>none:=by
 unfold wrC;cases hn:nxtC r with
 |none=>unfold bj;rw[hn];rfl
 |some k=>
  cases k with
  |zero=>
   obtain⟨u,v,e,hu⟩:=gL hn;show _=if freeC (r.take 0)=[] then none else _
   rw[if_pos (show freeC (r.take 0)=[] by rw[List.take_zero];rfl)];unfold bj;rw[hn]
  |succ k=>
   have hw:freeC (r.take (k+1))≠[]:=λz=>by
    have h1:wrC r=some ([],r.drop (k+1+1)):=by unfold wrC;rw[hn];show some (freeC _,_)=_;rw[z]
    have h2:=wr_empty.mp h1;rw[h2,kf] at hn;cases hn
   show _=if freeC (r.take (k+1))=[] then none else (match r.drop (k+1+1) with |40::r2=>(nameAt 41 r2).map λ(n,r3)=>(Pc.link (freeC (r.take (k+1))) n,r3) |_=>none)
   rw[if_neg hw];unfold bj;rw[hn]
   all_goals rfl
def PcG:Pc->Prop
 | .sign x=>x < 128
 | .star=>True
 | .code l=>Asc l/\l≠[]/\96∉l
 | .note n=>Asc n/\aE n=true/\aX n=n
 | .link w n=>Asc w/\w≠[]/\Asc n/\aE n=true/\aX n=n
def sPc:Pc->Nat
 | .sign _=>1
 | .star=>0
 | .code l=>l.length+2
 | .note n=>n.length+20
 | .link w n=>w.length+n.length+20
def jp {c:Nat}{l n r:List Nat}(ha:Asc l)(h:nameAt c l=some (n,r)):(Asc n/\aE n=true/\aX n=n)/\Asc r/\n.length+1+r.length=l.length:=by
 obtain⟨a,b,_,e,hn,rfl⟩:=fT h;have h1:Asc a:=λc hc=>ha c (by rw[e];exact l47 _ hc);refine⟨⟨h1.small,(gK hn).1,(gK hn).2⟩,λc hc=>ha c (by rw[e];exact l31 _ (l7 _ hc)),?_⟩;rw[e,l8,l4];unfold aX;rw[l0];omega
def nL {s r:List Nat}{p:Pc}(ha:Asc s)(h:gm s=some (p,r)):PcG p/\Asc r/\sPc p+21 * r.length<=21 * s.length/\r.length < s.length:=by
 have hlt:=ig h;cases s with
 |nil=>cases h
 |cons x t=>
  have hx:x < 128:=ha x l10;have at':Asc t:=λc hc=>ha c (l7 _ hc);replace h:(if ax (x::t) then some (Pc.sign (t.headD 0),t.tail) else if x=42 then some (Pc.star,t) else if x=96 then some ((bH t).getD (.sign 96,t)) else if x=91 then some (((bL t).or (bj t)).getD (.sign 91,t)) else some (Pc.sign x,t))=some (p,r):=h;rw[l4] at hlt ⊢;by_cases ht:ax (x::t)=true
  ·rw[if_pos ht] at h;obtain⟨y,r',e⟩:=bp ht;obtain⟨rfl,rfl⟩:=List.cons.inj e;cases h;refine⟨at' y l10,λc hc=>at' c (l7 _ hc),?_,hlt⟩;show 1+21 * r'.length<=_;rw[l4];omega
  ·rw[if_neg ht] at h;clear ht;split at h
   ·cases h;exact⟨trivial,at',by show 0+_<=_;omega,hlt⟩
   ·split at h
    ·rename_i h96;cases hc:bH t with
     |none=>rw[hc] at h;cases h;exact⟨by show (96:Nat) < 128;omega,at',by show 1+_<=_;omega,hlt⟩
     |some q=>
      rw[hc] at h;cases h;unfold bH at hc;split at hc
      ·rename_i y a b he;cases hc;obtain⟨e,hn⟩:=cutAt_eq he;refine⟨⟨λc hc=>at' c (by rw[e];exact l47 _ hc),by simp,hn⟩,λc hc=>at' c (by rw[e];exact l31 _ (l7 _ hc)),?_,hlt⟩;have:=congrArg List.length e;rw[l8,l4 (a:=96)] at this;show (y::a).length+2+_<=_;omega
      ·cases hc
    ·split at h
     ·cases hm:bL t with
      |some q=>
       rw[hm] at h;cases h;unfold bL at hm;split at hm
       ·rename_i r2;cases hn:Lw.nameAt 93 r2 with
        |none=>rw[hn] at hm;cases hm
        |some nb=>
         rw[hn] at hm;cases hm;obtain⟨g1,g2,g3⟩:=jp (λc hc=>at' c (l7 _ hc)) hn;refine⟨g1,g2,?_,hlt⟩;show nb.1.length+20+_<=_;rw[l4];omega
       ·cases hm
      |none=>
       rw[hm] at h;cases hl:bj t with
       |none=>rw[hl] at h;cases h;exact⟨by show (91:Nat) < 128;omega,at',by show 1+_<=_;omega,hlt⟩
       |some q=>
        rw[hl] at h;cases h;rw[sJ] at hl;split at hl
        ·rename_i w u hw;split at hl
         ·cases hl
         ·rename_i hwn;split at hl
          ·rename_i r2;cases hn:Lw.nameAt 41 r2 with
           |none=>rw[hn] at hl;cases hl
           |some nb=>
            rw[hn] at hl;cases hl;obtain⟨w1,w2⟩:=uI at' hw;have w3:=uH hw;obtain⟨g1,g2,g3⟩:=jp (λc hc=>w2 c (l7 _ hc)) hn;refine⟨⟨w1,hwn,g1⟩,g2,?_,hlt⟩;show w.length+nb.1.length+20+_<=_;rw[l4] at w3;omega
          ·cases hl
        ·cases hl
     ·cases h;exact⟨hx,at',by show 1+_<=_;omega,hlt⟩
def qI (l:List Nat)(h:l.all (λc=>decide (c < 128))=true):Asc l:=λc hc=>of_decide_eq_true (l40.mp h c hc)
def Ls {α:Type}(R:Addr->α->Prop):List Addr->List α->Prop
 | [],[]=>True
 |a::as,x::xs=>R a x/\Ls R as xs
 |_,_=>False
section
variable {α:Type}{R R':Addr->α->Prop}{as:List Addr}{xs:List α}
def Ls.mono (h:Ls R as xs)(k:∀a x,R a x->R' a x):Ls R' as xs:=by
 induction as generalizing xs with
 |nil=>
  cases xs with
  |nil=>trivial
  |cons _ _=>exact h.elim
 |cons a as ih=>
  cases xs with
  |nil=>exact h.elim
  |cons x xs=>exact⟨k _ _ h.1,ih h.2⟩
def Ls.len (h:Ls R as xs):as.length=xs.length:=by
 induction as generalizing xs with
 |nil=>
  cases xs with
  |nil=>rfl
  |cons _ _=>exact h.elim
 |cons a as ih=>
  cases xs with
  |nil=>exact h.elim
  |cons x xs=>exact congrArg (· + 1) (ih h.2)
def Ls.get {i:Nat}{v:V}(h:Ls R as xs)(hv:(as.map V.ref)[i]? = some v):∃a x,v = .ref a/\xs[i]? = some x/\xs.drop i=x::xs.drop (i+1)/\R a x:=by
 induction as generalizing xs i with
 |nil=>cases hv
 |cons a as ih=>
  cases xs with
  |nil=>exact h.elim
  |cons x xs=>
   cases i with
   |zero=>cases hv;exact⟨a,x,rfl,rfl,rfl,h.1⟩
   |succ i=>
    obtain⟨a',x',h1,h2,h3,h4⟩:=ih (i:=i) h.2 (by simpa using hv);exact⟨a',x',h1,by simpa using h2,by simpa using h3,h4⟩
def Ls.snoc {a:Addr}{x:α}(h:Ls R as xs)(k:R a x):Ls R (as++[a]) (xs++[x]):=by
 induction as generalizing xs with
 |nil=>
  cases xs with
  |nil=>exact⟨k,trivial⟩
  |cons _ _=>exact h.elim
 |cons _ _ ih=>
  cases xs with
  |nil=>exact h.elim
  |cons _ _=>exact⟨h.1,ih h.2⟩
end
def LAt {α:Type}(R:Hp->Addr->α->Prop)(H:Hp)(l:Addr)(xs:List α):Prop:=∃as:List Addr,H l=some (.lst (as.map V.ref))/\Ls (R H) as xs
def MoR {α:Type}(R:Hp->Addr->α->Prop):Prop:=∀G G' a x,Same G G'->R G a x->R G' a x
def LAt.same {α:Type}{R:Hp->Addr->α->Prop}(m:MoR R){H H':Hp}{l:Addr}{xs:List α}(s:Same H H')(h:LAt R H l xs):LAt R H' l xs:=
 let ⟨as,e,k⟩:=h;⟨as,s _ _ e,k.mono λa x=>m _ _ a x s⟩
def nM {α:Type}{R:Hp->Addr->α->Prop}(m:MoR R):MoR (LAt R):=λ_ _ _ _ s h=>h.same m s
def PL (c:Cp)(H:Hp)(l:Addr)(ps:List PC):Prop:=∃as:List Addr,H l=some (.lst (as.map V.ref))/\PCs c H as ps
def fb {c:Cp}:MoR (PL c):=λ_ _ _ _ s ⟨as,e,k⟩=>⟨as,s _ _ e,k.same s⟩
structure EnF (β:Type) where
 sign:Bool
 parts:List PC
 within:List β
def En:Nat->Type
 |0=>Empty
 |n+1=>EnF (En n)
def lW (b:Bool):List Nat:=if b then [43] else [45]
def dE:(n:Nat)->En n->PyData
 |0,e=>nomatch e
 |n+1,e => .tuple [.str (S (lW (EnF.sign e))), .list ((EnF.parts e).map dP), .list ((EnF.within e).map (dE n))]
structure Cb where
 cp:Cp
 Heading:Addr
 Para:Addr
 Literal:Addr
 Quote:Addr
 Naming:Addr
 Noting:Addr
 Entry:Addr
 Listing:Addr
 Table:Addr
inductive BkF (β:Type) where
 |heading (n:Nat) (ps:List PC)
 |para (ps:List PC)
 |lst (es:List (En 6))
 |table (hd:List (List PC)) (sd:List Bool) (ls:List (List (List PC)))
 |lit (ls:List (List Nat))
 |quote (bs:List β)
 |name (n t:List Nat)
 |note (n:List Nat) (ps:List PC)
def Bl:Nat->Type
 |0=>BkF Empty
 |n+1=>BkF (Bl n)
def cT (b:Bool):List Nat:=if b then [114,105,103,104,116] else [108,101,102,116]
def jq (cs:List (List PC)):PyData := .list (cs.map λps => .list (ps.map dP))
def dBF {β:Type}(f:β->PyData):BkF β->PyData
 | .heading n ps => .tuple [.str "heading", .int n, .list (ps.map dP)]
 | .para ps => .tuple [.str "para", .list (ps.map dP)]
 | .lst es => .tuple [.str "list", .list (es.map (dE 6))]
 | .table hd sd ls => .tuple [.str "table",jq hd, .list (sd.map λb => .str (S (cT b))), .list (ls.map jq)]
 | .lit ls => .tuple [.str "literal", .list (ls.map λl => .str (S l))]
 | .quote bs => .tuple [.str "quote", .list (bs.map f)]
 | .name n t => .tuple [.str "name", .str (S n), .str (S t)]
 | .note n ps => .tuple [.str "note", .str (S n), .list (ps.map dP)]
def dB:(n:Nat)->Bl n->PyData
 |0,b=>dBF (λz:Empty=>nomatch z) b
 |n+1,b=>dBF (dB n) b
def EAt (c:Cb):(n:Nat)->Hp->Addr->En n->Prop
 |0,_,_,e=>nomatch e
 |n+1,H,a,e=>∃dx lp le,H a=some (.ins c.Entry dx [("sign",vS (lW (EnF.sign e))),("parts", .ref lp),("entries", .ref le)])/\PL c.cp H lp (EnF.parts e)/\LAt (EAt c n) H le (EnF.within e)
theorem dG {c:Cb}:∀n:Nat,MoR (EAt c n)
 |0=>λ_ _ _ e=>nomatch e
 |n+1=>λ_ _ _ _ s ⟨dx,lp,le,e,h1,h2⟩=>⟨dx,lp,le,s _ _ e,fb _ _ _ _ s h1,h2.same (dG n) s⟩
def BAtF {β:Type}(c:Cb)(R:Hp->Addr->β->Prop)(H:Hp)(a:Addr):BkF β->Prop
 | .heading n ps=>∃dx l,H a=some (.ins c.Heading dx [("level", .int n),("parts", .ref l)])/\PL c.cp H l ps
 | .para ps=>∃dx l,H a=some (.ins c.Para dx [("parts", .ref l)])/\PL c.cp H l ps
 | .lst es=>∃dx l,H a=some (.ins c.Listing dx [("entries", .ref l)])/\LAt (EAt c 6) H l es
 | .table hd sd ls=>∃dx lh lsd ll,H a=some (.ins c.Table dx [("head", .ref lh),("sides", .ref lsd),("lines", .ref ll)])/\LAt (PL c.cp) H lh hd/\H lsd=some (.lst (sd.map λb=>vS (cT b)))/\LAt (LAt (PL c.cp)) H ll ls
 | .lit ls=>∃dx l,H a=some (.ins c.Literal dx [("lines", .ref l)])/\H l=some (.lst (ls.map vS))
 | .quote bs=>∃dx l,H a=some (.ins c.Quote dx [("blocks", .ref l)])/\LAt R H l bs
 | .name n t=>∃dx,H a=some (.ins c.Naming dx [("name",vS n),("target",vS t)])
 | .note n ps=>∃dx l,H a=some (.ins c.Noting dx [("name",vS n),("parts", .ref l)])/\PL c.cp H l ps
def c7 {β:Type}{c:Cb}{R:Hp->Addr->β->Prop}(m:MoR R):MoR (BAtF c R):=λG G' a b s h=>by
 cases b with
 |heading n ps=>obtain⟨dx,l,e,k⟩:=h;exact⟨dx,l,s _ _ e,fb _ _ _ _ s k⟩
 |para ps=>obtain⟨dx,l,e,k⟩:=h;exact⟨dx,l,s _ _ e,fb _ _ _ _ s k⟩
 |lst es=>obtain⟨dx,l,e,k⟩:=h;exact⟨dx,l,s _ _ e,k.same (dG 6) s⟩
 |table hd sd ls=>obtain⟨dx,l1,l2,l3,e,k1,k2,k3⟩:=h;exact⟨dx,l1,l2,l3,s _ _ e,k1.same fb s,s _ _ k2,k3.same (nM fb) s⟩
 |lit ls=>obtain⟨dx,l,e,k⟩:=h;exact⟨dx,l,s _ _ e,s _ _ k⟩
 |quote bs=>obtain⟨dx,l,e,k⟩:=h;exact⟨dx,l,s _ _ e,k.same m s⟩
 |name n t=>obtain⟨dx,e⟩:=h;exact⟨dx,s _ _ e⟩
 |note n ps=>obtain⟨dx,l,e,k⟩:=h;exact⟨dx,l,s _ _ e,fb _ _ _ _ s k⟩
def BAt (c:Cb):(n:Nat)->Hp->Addr->Bl n->Prop
 |0,H,a,b=>BAtF c (λ_ _ (z:Empty)=>nomatch z) H a b
 |n+1,H,a,b=>BAtF c (BAt c n) H a b
theorem ay {c:Cb}:∀n:Nat,MoR (BAt c n)
 |0=>c7 λ_ _ _ z=>nomatch z
 |n+1=>c7 (ay n)
structure OkPs (ps:List PC):Prop where
 len:ps.length<=1000
 ok:∀p∈ps,OkC p
 sum:(ps.map szC).sum<=20000
def OkPs.r2 {ps:List PC}(h:OkPs ps):∀p∈ps,R2 p:=vn h.ok (by have:=h.sum;omega)
def OkCs (cs:List (List PC)):Prop:=cs.length<=1000/\∀ps∈cs,OkPs ps
def OkE:(n:Nat)->En n->Prop
 |0,e=>nomatch e
 |n+1,e=>OkPs (EnF.parts e)/\(EnF.within e).length<=1000/\∀x∈EnF.within e,OkE n x
def OkBF {β:Type}(ok:β->Prop):BkF β->Prop
 | .heading n ps=>n<=3/\OkPs ps
 | .para ps=>OkPs ps
 | .lst es=>es.length<=1000/\∀e∈es,OkE 6 e
 | .table hd sd ls=>OkCs hd/\sd.length<=1000/\ls.length<=1000/\∀l∈ls,OkCs l
 | .lit ls=>ls.length<=1000/\∀l∈ls,Asc l/\l.length<=1000
 | .quote bs=>bs.length<=1000/\∀b∈bs,ok b
 | .name n t=>(Asc n/\n.length<=1000)/\Asc t/\t.length<=1000
 | .note n ps=>(Asc n/\n.length<=1000)/\OkPs ps
def OkB:(n:Nat)->Bl n->Prop
 |0,b=>OkBF (λz:Empty=>nomatch z) b
 |n+1,b=>OkBF (OkB n) b
theorem lX {α:Type}{R:Addr->α->Prop}:∀{as:List Addr} {xs:List α},as.length=xs.length->(∀(i:Nat) a x,as[i]? = some a->xs[i]? = some x->R a x)->Ls R as xs
 | [],[],_,_=>trivial
 |a::as,x::xs,hl,h=>⟨h 0 a x rfl rfl,lX (by simpa using hl) λi b y hb hy=>h (i+1) b y (by simpa using hb) (by simpa using hy)⟩
def fZ {K:Frag}{a:Addr}{xs:List V}{k:Nat}{fr:List Nat}{g:TG}{tt:TT}{te:TE}{σ:St}{H0:Hp}{Q:Addr->Hp->Prop}(R:Nat->Addr->Hp->Prop)(hR:∀i b G G',Same G G'->R i b G->R i b G')(hx:SqL K H0 a xs)(hl:xs.length<=1000000)
  (ht:∀(i:Nat) x,xs[i]? = some x->∀H',Same H0 H'->∀(C:V->Hp->Prop)(N:Hp->Prop),(∀b H4,Same H' H4->H' b=none->R i b (dif H' H4)->C (.ref b) H4) →
   g x (nfS k fr σ) H' λσ2 H2=>nfLe k fr σ σ2/\tt σ2 H2 λb H3=>if b=true then te σ2 H3 C else N H3)
  (hq:∀D H' (bs:List Addr),H0 D=none->Same H0 H'->H' D=some (.lst (bs.map V.ref))->bs.length=xs.length->(∀(i:Nat) b,bs[i]? = some b->R i b (dif H0 H'))->Q D H'):rLC k fr g tt te σ (Itl K a) H0 Q:=by
 intro D hD;refine⟨λi m acc H=>m=xs.length - i/\i<=xs.length/\Same H0 H/\H D=some (.lst acc)/\∃bs:List Addr,acc=bs.map V.ref/\bs.length=i/\NewQ H0 [D] H λG=>∀(j:Nat) b,bs[j]? = some b->R j b G,⟨xs.length,by simp,l12 _,ac hD _,aa,[],rfl,rfl,NewQ.triv λj b h=>by simp at h⟩,?_⟩;rintro i m acc H ⟨rfl,hi,sm,hDa,bs,rfl,hbl,hn⟩;refine⟨hDa,?_⟩;by_cases hlt:i < xs.length
 ·refine .inr ⟨⟨xs,xs[i],sm.seq hx,by simp[hlt]⟩,λx H' y=>?_⟩;obtain⟨e,y⟩:=y;rw[e];refine ht i x (y xs (sm.seq hx)) _ sm _ _ λb H4 s4 hb rb=>?_;refine⟨s4 _ _ hDa,by rw[l0,sizeLine_eq];omega,xs.length - (i+1),by omega,rfl,hlt,ak hD (sm.trans s4),aa,bs++[b],by rw[l17];rfl,by rw[l8,hbl];rfl,?_⟩;refine NewQ.upd ?_ l10;refine NewQ.join (hn.same s4) (NewQ.of (H3:=H) (R:=R i b) sm (λb' hb'=>by rw[l14.mp hb',hDa];exact λz=>nomatch z) rb) (λG G' s h j b' hj=>hR _ _ _ _ s (h j b' hj)) (λG G' s h=>hR _ _ _ _ s h) λG h1 h2 j b' hj=>?_;by_cases hji:j < bs.length
  ·rw[List.getElem?_append_left hji] at hj;exact h1 j b' hj
  ·rw[List.getElem?_append_right nofun] at hj;obtain⟨hj0,_⟩:=List.getElem?_eq_some_iff.mp hj;have hje:j=i:=by simp at hj0;omega
   subst hje;rw[hbl,l62] at hj;cases hj;exact h2
 ·have e:i=xs.length:=by omega
  subst e;exact .inl ⟨⟨xs,sm.seq hx,l5 _⟩,hq D H bs hD sm hDa hbl (hn.dif λG G' s h j b' hj=>hR _ _ _ _ s (h j b' hj))⟩
end Lw
namespace K14
open PySem L2 Lm Lw
structure TxB (K:Frag)(mg:Str->Option Value)(c:Cb)(BT:Addr):Prop extends TxI K mg c.cp BT where
 z12:∃t,mg "FENCE"=some (.str (S [126,126,126]) t)
 u12:mg "enumerate"=none
 u23:Inst K c.Heading
 q29:Inst K c.Para
 u30:Inst K c.Literal
 g30:Inst K c.Quote
 g23:Inst K c.Naming
 z23:Inst K c.Noting
 z14:Inst K c.Entry
 z30:Inst K c.Listing
 q14:Inst K c.Table
 q30:NoAttr K c.Heading "level"
 u31:NoAttr K c.Heading "parts"
 g31:NoAttr K c.Para "parts"
 z31:NoAttr K c.Literal "lines"
 q31:NoAttr K c.Quote "blocks"
 u32:NoAttr K c.Naming "name"
 g32:NoAttr K c.Naming "target"
 z32:NoAttr K c.Noting "name"
 q32:NoAttr K c.Noting "parts"
 u33:NoAttr K c.Entry "sign"
 g33:NoAttr K c.Entry "parts"
 z33:NoAttr K c.Entry "entries"
 q33:NoAttr K c.Listing "entries"
 u34:NoAttr K c.Table "head"
 g34:NoAttr K c.Table "sides"
 z34:NoAttr K c.Table "lines"
section
variable {c:Cb}{BT:Addr}
inductive spInitL (C:Addr)(fl:Str)(vs:List V)(H:Hp)(Q:VK)(u3:XK):Prop
 |mk (x dx l xs)(_:vs=[.ref x, .ref l])(_:H x=some (.ins C dx []))(_:H l=some (.lst xs))(_:∀p H',H p=none->KeepX x H H'->H' p=some (.lst xs)->H' x=some (.ins C dx [(fl, .ref p)])->Q .non H')
inductive spInitVL (C:Addr)(f1 f2:Str)(vs:List V)(H:Hp)(Q:VK)(u3:XK):Prop
 |mk (x dx v l xs)(_:vs=[.ref x,v, .ref l])(_:H x=some (.ins C dx []))(_:H l=some (.lst xs))(_:∀p H',H p=none->KeepX x H H'->H' p=some (.lst xs)->H' x=some (.ins C dx [(f1,v),(f2, .ref p)])->Q .non H')
inductive spInitE (C:Addr)(vs:List V)(H:Hp)(Q:VK)(u3:XK):Prop
 |mk (x dx v l xs m ys)(_:vs=[.ref x,v, .ref l, .ref m])(_:H x=some (.ins C dx []))(_:H l=some (.lst xs))(_:H m=some (.lst ys))(_:∀p r H',H p=none->H r=none->KeepX x H H'->H' p=some (.lst xs)->H' r=some (.lst ys)->H' x=some (.ins C dx [("sign",v),("parts", .ref p),("entries", .ref r)])->Q .non H')
def bt {x p:Addr}{H:Hp}{o:HO}(h:H p=none):KeepX x H (upd H p o):=λb o' _ e=>(af (nq h e)).trans e
def keep_upd {x:Addr}{H:Hp}{o:HO}:KeepX x H (upd H x o):=λb o' nb e=>(af nb).trans e
def f6 {x b:Addr}{H H':Hp}(k:KeepX x H H')(hb:b≠x)(h:H' b=none):H b=none:=by
 cases e:H b with
 |none=>rfl
 |some o=>rw[k b o hb e] at h;cases h
abbrev bP:Stmt:=meth 43 0
abbrev dH:Stmt:=meth 44 0
abbrev bQ:Stmt:=meth 45 0
abbrev cJ:Stmt:=meth 46 0
abbrev cm:Stmt:=meth 47 0
abbrev cn:Stmt:=meth 48 0
abbrev cK:Stmt:=meth 68 0
abbrev bR:Stmt:=meth 69 0
abbrev cL:Stmt:=meth 74 0
def ko (F:Fun K "__init__" "Para.__init__" dH f fd)(T:TxB K mg c BT):FnOk P w K mg base CX0 1 f fd p8 (spInitL c.Para "parts"):=by
 have sc:FnScope p8 p8 (ad dH):=mkS;refine F.oks sc λH Q hr h=>?_;obtain⟨x,dx,l,xs,rfl,e,el,q⟩:=h;refine am (xb1 (aK (xv 0) (xcTy aq T.g10 rfl (xac (xv 1) xa0)))) ?_;refine⟨_,rfl,l,_,rfl, .inl (SqL.of el),λp hp=>⟨_,rfl,x,_,dx,_,rfl,ac hp _ _ _ e,T.q29.cls,T.g31,by decide,?_⟩⟩;have hpx:p≠x:=(nq e hp);exact q p _ hp ((bt hp).trans keep_upd) ((af hpx).trans aa) aa
def gn (F:Fun K "__init__" "Literal.__init__" bQ f fd)(T:TxB K mg c BT):FnOk P w K mg base CX0 1 f fd p11 (spInitL c.Literal "lines"):=by
 have sc:FnScope p11 p11 (ad bQ):=mkS;refine F.oks sc λH Q hr h=>?_;obtain⟨x,dx,l,xs,rfl,e,el,q⟩:=h;refine am (xb1 (aK (xv 0) (xcTy aq T.g10 rfl (xac (xv 1) xa0)))) ?_;refine⟨_,rfl,l,_,rfl, .inl (SqL.of el),λp hp=>⟨_,rfl,x,_,dx,_,rfl,ac hp _ _ _ e,T.u30.cls,T.z31,by decide,?_⟩⟩;have hpx:p≠x:=(nq e hp);exact q p _ hp ((bt hp).trans keep_upd) ((af hpx).trans aa) aa
def jr (F:Fun K "__init__" "Quote.__init__" cJ f fd)(T:TxB K mg c BT):FnOk P w K mg base CX0 1 f fd p9 (spInitL c.Quote "blocks"):=by
 have sc:FnScope p9 p9 (ad cJ):=mkS;refine F.oks sc λH Q hr h=>?_;obtain⟨x,dx,l,xs,rfl,e,el,q⟩:=h;refine am (xb1 (aK (xv 0) (xcTy aq T.g10 rfl (xac (xv 1) xa0)))) ?_;refine⟨_,rfl,l,_,rfl, .inl (SqL.of el),λp hp=>⟨_,rfl,x,_,dx,_,rfl,ac hp _ _ _ e,T.g30.cls,T.q31,by decide,?_⟩⟩;have hpx:p≠x:=(nq e hp);exact q p _ hp ((bt hp).trans keep_upd) ((af hpx).trans aa) aa
def gp (F:Fun K "__init__" "Listing.__init__" bR f fd)(T:TxB K mg c BT):FnOk P w K mg base CX0 1 f fd p14 (spInitL c.Listing "entries"):=by
 have sc:FnScope p14 p14 (ad bR):=mkS;refine F.oks sc λH Q hr h=>?_;obtain⟨x,dx,l,xs,rfl,e,el,q⟩:=h;refine am (xb1 (aK (xv 0) (xcTy aq T.g10 rfl (xac (xv 1) xa0)))) ?_;refine⟨_,rfl,l,_,rfl, .inl (SqL.of el),λp hp=>⟨_,rfl,x,_,dx,_,rfl,ac hp _ _ _ e,T.z30.cls,T.q33,by decide,?_⟩⟩;have hpx:p≠x:=(nq e hp);exact q p _ hp ((bt hp).trans keep_upd) ((af hpx).trans aa) aa
def gq (F:Fun K "__init__" "Heading.__init__" bP f fd)(T:TxB K mg c BT):FnOk P w K mg base CX0 1 f fd p15 (spInitVL c.Heading "level" "parts"):=by
 have sc:FnScope p15 p15 (ad bP):=mkS;refine F.oks sc λH Q hr h=>?_;obtain⟨x,dx,v,l,xs,rfl,e,el,q⟩:=h;refine am (xbc (aK (xv 0) (xv 1))
  (xb1 (aK (xv 0) (xcTy aq T.g10 rfl (xac (xv 2) xa0))))) ?_
 have hlx:l≠x:=(nq e el);refine⟨_,rfl,_,rfl,x,_,dx,_,rfl,e,T.u23.cls,T.q30,by decide,?_⟩;refine⟨_,rfl,l,_,rfl, .inl (SqL.of ((af hlx).trans el)),λp hp=>⟨_,rfl,x,_,dx,_,rfl,ac hp _ _ _ aa,T.u23.cls,T.u31,by show 1 < 1000;decide,?_⟩⟩;have hpx:p≠x:=(nq aa hp);exact q p _ (by rwa [af hpx] at hp) ((keep_upd.trans (bt hp)).trans keep_upd) ((af hpx).trans aa) aa
def iy (F:Fun K "__init__" "Noting.__init__" cn f fd)(T:TxB K mg c BT):FnOk P w K mg base CX0 1 f fd p16 (spInitVL c.Noting "name" "parts"):=by
 have sc:FnScope p16 p16 (ad cn):=mkS;refine F.oks sc λH Q hr h=>?_;obtain⟨x,dx,v,l,xs,rfl,e,el,q⟩:=h;refine am (xbc (aK (xv 0) (xv 1))
  (xb1 (aK (xv 0) (xcTy aq T.g10 rfl (xac (xv 2) xa0))))) ?_
 have hlx:l≠x:=(nq e el);refine⟨_,rfl,_,rfl,x,_,dx,_,rfl,e,T.z23.cls,T.z32,by decide,?_⟩;refine⟨_,rfl,l,_,rfl, .inl (SqL.of ((af hlx).trans el)),λp hp=>⟨_,rfl,x,_,dx,_,rfl,ac hp _ _ _ aa,T.z23.cls,T.q32,by show 1 < 1000;decide,?_⟩⟩;have hpx:p≠x:=(nq aa hp);exact q p _ (by rwa [af hpx] at hp) ((keep_upd.trans (bt hp)).trans keep_upd) ((af hpx).trans aa) aa
def iz (F:Fun K "__init__" "Naming.__init__" cm f fd)(T:TxB K mg c BT):FnOk P w K mg base CX0 1 f fd p17 (spInit2 c.Naming "name" "target"):=by
 have sc:FnScope p17 p17 (ad cm):=mkS;refine F.oks sc λH Q hr h=>?_;obtain⟨x,dx,v,u,rfl,e,q⟩:=h;refine am (xbc (aK (xv 0) (xv 1))
  (xb1 (aK (xv 0) (xv 2)))) ?_
 refine⟨_,rfl,_,rfl,x,_,dx,_,rfl,e,T.g23.cls,T.u32,by decide,?_⟩;exact⟨_,rfl,_,rfl,x,_,dx,_,rfl,aa,T.g23.cls,T.g32,by show 1 < 1000;decide,q⟩
def js (F:Fun K "__init__" "Entry.__init__" cK f fd)(T:TxB K mg c BT):FnOk P w K mg base CX0 1 f fd p18 (spInitE c.Entry):=by
 have sc:FnScope p18 p18 (ad cK):=mkS;refine F.oks sc λH Q hr h=>?_;obtain⟨x,dx,v,l,xs,m,ys,rfl,e,el,em,q⟩:=h;refine am (xbc (aK (xv 0) (xv 1))
  (xbc (aK (xv 0) (xcTy aq T.g10 rfl (xac (xv 2) xa0)))
  (xb1 (aK (xv 0) (xcTy aq T.g10 rfl (xac (xv 3) xa0)))))) ?_
 have hlx:l≠x:=(nq e el);have hmx:m≠x:=(nq e em);refine⟨_,rfl,_,rfl,x,_,dx,_,rfl,e,T.z14.cls,T.u33,by decide,?_⟩;refine⟨_,rfl,l,_,rfl, .inl (SqL.of ((af hlx).trans el)),λp hp=>⟨_,rfl,x,_,dx,_,rfl,ac hp _ _ _ aa,T.z14.cls,T.g33,by show 1 < 1000;decide,?_⟩⟩;have hpx:p≠x:=(nq aa hp);have hpH:H p=none:=by rwa [af hpx] at hp
 have hmp:m≠p:=(nq hpH em);refine⟨_,rfl,m,_,rfl, .inl (SqL.of ((af hmx).trans ((af hmp).trans ((af hmx).trans em)))),λr hr'=>⟨_,rfl,x,_,dx,_,rfl,ac hr' _ _ _ aa,T.z14.cls,T.z33,by show 2 < 1000;decide,?_⟩⟩;have hrx:r≠x:=λz=>by rw[z,aa] at hr';cases hr'
 have hrp:p≠r:=λz=>by rw[<- z,af hpx,aa] at hr';cases hr'
 have k2:=(keep_upd.trans (bt (x:=x) (o := .lst xs) hp)).trans (keep_upd (x:=x) (o := .ins c.Entry dx (putF "parts" (.ref p) (putF "sign" v []))));exact q p r _ hpH (f6 k2 hrx hr') ((k2.trans (bt hr')).trans keep_upd) ((af hpx).trans ((af hrp).trans ((af hpx).trans aa))) ((af hrx).trans aa) aa
def LV (H:Hp)(l:Addr)(xss:List (List V)):Prop:=LAt (λH a (xs:List V)=>H a=some (.lst xs)) H l xss
def kq:MoR LV:=nM λ_ _ _ _ s h=>s _ _ h
abbrev sOwn:Stmt:=top 75
inductive spOwn (vs:List V)(H:Hp)(Q:VK)(u3:XK):Prop
 |mk (l:Addr)(xss:List (List V))(_:vs=[.ref l])(_:LV H l xss)(_:xss.length<=100000)(_:∀r H',Same H H'->H r=none->LV (dif H H') r xss->Q (.ref r) H')
def uJ (F:Fun K "own_cells" "own_cells" sOwn f fd)(T:TxB K mg c BT):FnOk P w K mg base CX0 1 f fd ["cells"] spOwn:=by
 have sc:FnScope ["cells"] ["cells"] (ad sOwn):=mkS;refine F.oks sc λ{_ _ _ s vs _}H Q hr h=>?_;obtain⟨l,xss,rfl,⟨as,el,hls⟩,hl,q⟩:=h;refine am (xb1 (xret (xlc0 (own:=["cell"])
  (xil (xv 0))
  (λ_ _ _ _=>xgm (i:=0) (show (["cell"]:List Str).Nodup by decide)) (λ_ _ _ _=>xq0) (λ_ _ _ _=>(xcTy ia T.g10 rfl (xac (xv 0) xa0)))))) ?_
 have w6:=hls.len;refine⟨_,rfl,l,rfl,⟨_,SqL.of el⟩,?_⟩;refine fZ (λi a' G=>G a'=some (.lst (xss.getD i []))) (λ_ _ _ _ s h=>s _ _ h) (SqL.of el) (by rw[l0];omega) ?_ ?_
 ·intro i x hx H2 s2 C N hC;obtain⟨a,xs,rfl,hxi,_,e⟩:=hls.get hx;refine⟨(nfLe.refl _ _ _).set ∅ _,iteT (B:=N H2) ⟨_,rfl,a,xs,rfl, .inl (SqL.of (s2 _ _ e)),λp hp=>hC p _ (ac hp _) hp ?_⟩⟩;rw[l22,hxi,ao hp];exact aa
 ·intro D H2 bs hD s2 eD hbl hbs;refine q D H2 s2 hD ⟨bs,by rw[ao hD];exact eD,?_⟩;refine lX (by rw[hbl,l0,w6]) λi b x hb hx=>?_;have:=hbs i b hb;rwa [l22,hx] at this
inductive spInitT (C:Addr)(vs:List V)(H:Hp)(Q:VK)(u3:XK):Prop
 |mk (x dx h sd ln hss sv lss)(_:vs=[.ref x, .ref h, .ref sd, .ref ln])(_:H x=some (.ins C dx []))(_:LV H h hss)(_:hss.length<=100000)(_:H sd=some (.lst sv))(_:LAt LV H ln lss)(_:lss.length<=100000)(_:∀l∈lss,l.length<=100000)(_:∀h' s' l' H',KeepX x H H'->LV (dif H H') h' hss->dif H H' s'=some (.lst sv)->LAt LV (dif H H') l' lss->H' x=some (.ins C dx [("head", .ref h'),("sides", .ref s'),("lines", .ref l')])->Q .non H')
def offX (H:Hp)(x:Addr):Hp:=λb=>if b=x then none else H b
def nN {H H':Hp}{x:Addr}(k:KeepX x H H'):Same (offX H x) H':=λb o e=>by
 unfold offX at e;split at e
 ·cases e
 ·rename_i hb;exact k b o hb e
def ld {H:Hp}{x a:Addr}{xs:List V}{C dx:Addr}{fs:List (Str×V)}(hx:H x=some (.ins C dx fs))(e:H a=some (.lst xs)):offX H x a=some (.lst xs):=by
 unfold offX;rw[if_neg (nq hx e)];exact e
def LV.off {H:Hp}{x l:Addr}{xss:List (List V)}{C dx:Addr}{fs:List (Str×V)}(hx:H x=some (.ins C dx fs))(h:LV H l xss):LV (offX H x) l xss:=let ⟨as,e,k⟩:=h;⟨as,ld hx e,k.mono λ_ _ z=>ld hx z⟩
def qJ {H H1 H2 H3:Hp}{x:Addr}(hx:H x≠none)(h1:∀b,b≠x->H1 b=none->H b=none)(hx1:H1 x≠none)(k:KeepX x H2 H3):Same (dif H1 H2) (dif H H3):=λb o e=>by
 obtain⟨n,e⟩:=ib e;have hb:b≠x:=λz=>hx1 (z▸n);rw[ao (h1 b hb n)];exact k b o hb e
def jt (F:Fun K "__init__" "Table.__init__" cL f fd)(T:TxB K mg c BT)(DG:Def P w K mg base 1 "own_cells" ["cells"] spOwn):FnOk P w K mg base CX0 2 f fd p19 (spInitT c.Table):=by
 have sc:FnScope p19 p19 (ad cL):=mkS;refine F.oks sc λ{_ _ _ s _ _}H Q hr h=>?_;obtain⟨x,dx,h,sd,ln,hss,sv,lss,rfl,e,eh,lh,es,⟨as,el,hls⟩,ll,lll,q⟩:=h;refine am (xbc (aK (xv 0) (xcd DG hr (xac (xv 1) xa0)))
  (xbc (aK (xv 0) (xcTy aq T.g10 rfl (xac (xv 2) xa0)))
  (xb1 (aK (xv 0) (xlc0 (own:=["line"])
  (xil (xv 3))
  (λ_ _ _ _=>xgm (i:=0) (show (["line"]:List Str).Nodup by decide)) (λ_ _ _ _=>xq0) (λ_ _ _ _=>(xcd DG hr (xac (xv 0) xa0)))))))) ?_
 refine⟨_,rfl,h,hss,rfl,eh,lh,λr1 H1 s1 hr1 d1=>⟨_,rfl,x,_,dx,_,rfl,s1 _ _ e,T.q14.cls,T.u34,by decide,?_⟩⟩;have hsx:sd≠x:=(nq e es);have hlx:ln≠x:=(nq e el);refine⟨_,rfl,sd,_,rfl, .inl (SqL.of ((af hsx).trans (s1 _ _ es))),λp hp=>⟨_,rfl,x,_,dx,_,rfl,ac hp _ _ _ aa,T.q14.cls,T.g34,by show 1 < 1000;decide,?_⟩⟩;have hpx:p≠x:=(nq aa hp);have hp1:H1 p=none:=by rwa [af hpx] at hp
 have k1:KeepX x H H1:=λb o _ h=>s1 _ _ h;have k4:KeepX x H1 (upd (upd (upd H1 x (.ins c.Table dx (putF "head" (.ref r1) []))) p (.lst sv)) x (.ins c.Table dx (putF "sides" (.ref p) (putF "head" (.ref r1) [])))):=(keep_upd.trans (bt hp)).trans keep_upd;have e4p:upd (upd (upd H1 x (.ins c.Table dx (putF "head" (.ref r1) []))) p (.lst sv)) x (.ins c.Table dx (putF "sides" (.ref p) (putF "head" (.ref r1) []))) p=some (.lst sv):=(af hpx).trans aa;have e4x:upd (upd (upd H1 x (.ins c.Table dx (putF "head" (.ref r1) []))) p (.lst sv)) x (.ins c.Table dx (putF "sides" (.ref p) (putF "head" (.ref r1) []))) x=some (.ins c.Table dx [("head", .ref r1),("sides", .ref p)]):=aa;refine⟨_,rfl,ln,rfl,⟨_,SqL.of (k4 _ _ hlx (s1 _ _ el))⟩,?_⟩;generalize upd (upd (upd H1 x (.ins c.Table dx (putF "head" (.ref r1) []))) p (.lst sv)) x (.ins c.Table dx (putF "sides" (.ref p) (putF "head" (.ref r1) [])))=H4 at k4 e4p e4x ⊢;have kk:=k1.trans k4;refine fZ (λi b G=>LV G b (lss.getD i [])) (λi b G G' s h=>kq _ _ _ _ s h) (SqL.of (kk _ _ hlx el)) (by rw[l0,hls.len];omega) ?_ ?_
 ·intro i v hv H5 s5 C N hC;obtain⟨a,xs,rfl,hxi,_,hl⟩:=hls.get hv;have hm:=l15 hxi;refine⟨(nfLe.refl _ _ _).set ∅ _,iteT (B:=N H5) ⟨_,rfl,a,xs,rfl,kq _ _ _ _ ((nN kk).trans s5) (hl.off e),lll _ hm,λb H6 s6 hb d6=>hC b H6 s6 hb ?_⟩⟩;rw[l22,hxi];exact d6
 ·intro D H5 bs hD s5 eD hbl hbs;refine⟨_,rfl,x,_,dx,_,rfl,s5 _ _ e4x,T.q14.cls,T.z34,by show 2 < 1000;decide,?_⟩;have kH5:KeepX x H4 H5:=λb o _ h=>s5 _ _ h;have k46:=kH5.trans (keep_upd (o := .ins c.Table dx (putF "lines" (.ref D) [("head", .ref r1),("sides", .ref p)])));have nn:H x≠none:=nz e;have n4:H4 x≠none:=nz e4x;have n1:H1 x≠none:=by rw[s1 _ _ e];exact λz=>nomatch z
  have nD : LAt LV (dif H4 H5) D lss := ⟨bs,by rw[ao hD];exact eD,lX (by rw[hbl,l0,hls.len]) λi b y hb hy=>by
   have:=hbs i b hb;rwa [l22,hy] at this⟩
  refine q r1 p D _ (kk.trans k46) (kq _ _ _ _ (qJ nn (λb hb z=>z) nn (k4.trans k46)) d1) ?_ (nD.same kq (qJ nn (λb hb z=>f6 kk hb z) n4 keep_upd)) aa;rw[ao (f6 k1 hpx hp1)];exact k46 _ _ hpx e4p
end
def aU {α β:Type}(xs:List α)(g:α->β)(d:β):(List.range xs.length).map (λi=>((xs[i]?).map g).getD d)=xs.map g:=by
 apply l73;intro i;rw[List.getElem?_map,List.getElem?_map];by_cases hi:i < xs.length
 ·rw[List.getElem?_range hi,List.getElem?_eq_getElem hi];simp only[l81,List.getElem?_eq_getElem hi,Option.getD_some]
 ·rw[List.getElem?_eq_none (by rw[l41];omega),List.getElem?_eq_none nofun];rfl
def dn_k {G:Hp}{k:Str}(h:(PyData.strOk k&&decide (k.length<=100000))=true:=by decide):Dn G (.str k) (.str k):=by
 rw[Bool.and_eq_true] at h;exact .str k h.1 (of_decide_eq_true h.2)
def dn_S {G:Hp}{l:List Nat}(h:Asc l/\l.length<=1000):Dn G (vS l) (.str (S l)):=(gN h.1 nofun).dn
theorem pO {G:Hp}:∀{ls:List (List Nat)},(∀l∈ls,Asc l/\l.length<=1000)->DnAll G (ls.map vS) (ls.map λl=>PyData.str (S l))
 | [],_ => .nil
 |l::ls,h => .cons (dn_S (h l l10)) (pO λx hx=>h x (l7 _ hx))
def bz {H0 H:Hp}{t:Addr}{xs:List V}{ds:List PyData}(s:Same H0 H)(ht:H t=none)(d:DnAll (dif H0 H) xs ds):Same H0 (upd H t (.tup xs))/\Dn (dif H0 (upd H t (.tup xs))) (.ref t) (.tuple ds):=
 ⟨s.trans (ac ht _), .tup (by rw[ao (s.free ht),aa]) (d.same (ar (Same.refl _) (ac ht _)))⟩
def nO {H0 H:Hp}{t:Addr}{xs:List V}{ds:List PyData}(s:Same H0 H)(ht:H t=none)(d:DnAll (dif H0 H) xs ds)(hl:xs.length<=100000):Same H0 (upd H t (.lst xs))/\Dn (dif H0 (upd H t (.lst xs))) (.ref t) (.list ds):=
 ⟨s.trans (ac ht _), .lst (by rw[ao (s.free ht),aa]) (d.same (ar (Same.refl _) (ac ht _))) hl⟩
inductive spTB {β:Type}(c:Cb)(R:Hp->Addr->β->Prop)(f:β->PyData)(ok:β->Prop)(S:BkF β->Prop)(vs:List V)(H:Hp)(Q:VK)(u3:XK):Prop
 |mk (a b)(_:vs=[.ref a])(_:BAtF c R H a b)(_:S b)(_:OkBF ok b)(_:∀v H',Same H H'->Dn (dif H H') v (dBF f b)->Q v H')
inductive spTC (c:Cb)(vs:List V)(H:Hp)(Q:VK)(u3:XK):Prop
 |mk (l:Addr)(cs:List (List PC))(_:vs=[.ref l])(_:LAt (PL c.cp) H l cs)(_:OkCs cs)(_:∀r H',Same H H'->Dn (dif H H') (.ref r) (jq cs)->Q (.ref r) H')
inductive spTEs (c:Cb)(n:Nat)(vs:List V)(H:Hp)(Q:VK)(u3:XK):Prop
 |mk (l:Addr)(es:List (En n))(_:vs=[.ref l])(_:LAt (EAt c n) H l es)(_:es.length<=1000)(_:∀e∈es,OkE n e)(_:∀r H',Same H H'->Dn (dif H H') (.ref r) (.list (es.map (dE n)))->Q (.ref r) H')
inductive spTE (c:Cb)(n:Nat)(vs:List V)(H:Hp)(Q:VK)(u3:XK):Prop
 |mk (a:Addr)(e:En n)(_:vs=[.ref a])(_:EAt c n H a e)(_:OkE n e)(_:∀v H',Same H H'->Dn (dif H H') v (dE n e)->Q v H')
def MV (P:Program)(w:World)(K:Frag)(mg:Str->Option Value)(base:Heap)(k:Nat){β:Type}(m:Str)(R:Hp->Addr->β->Prop)(ok:β->Prop)(post:β->Hp->V->Hp->Prop):Prop:=
 ∀b,ok b->∀H a,R H a b->∃C dx fs sp,H a=some (.ins C dx fs)/\fs.lookup m=none/\MethV P w K mg base k C m ["self"] sp/\∀Q E,(∀v H',post b H v H'->Q v H')->sp [.ref a] H Q E
inductive tellsB {β:Type}(f:β->PyData)(b:β)(H:Hp)(v:V)(H':Hp):Prop
 |mk (_:Same H H')(_:Dn (dif H H') v (f b))
section
variable {c:Cb}{BT:Addr}{β:Type}{R:Hp->Addr->β->Prop}{fB:β->PyData}{ok:β->Prop}
abbrev bS:Stmt:=meth 43 1
abbrev dI:Stmt:=meth 44 1
abbrev bT:Stmt:=meth 45 1
abbrev cM:Stmt:=meth 46 1
abbrev cq:Stmt:=meth 47 1
abbrev cr:Stmt:=meth 48 1
abbrev cN:Stmt:=meth 68 1
abbrev bU:Stmt:=meth 69 1
abbrev cO:Stmt:=meth 74 1
def gr (F:Fun K "told" "Heading.told" bS f fd)(T:TxB K mg c BT)(Dc:Def P w K mg base 4 "told_parts" ["parts"] (spTolds c.cp R2)):FnOk P w K mg base CX0 5 f fd ["self"] (spTB c R fB ok λb=>∃n ps,b = .heading n ps):=by
 have sc:FnScope ["self"] ["self"] (ad bS):=mkS;refine F.oks sc λH Q hr h=>?_;obtain⟨a,b,rfl,ha,⟨n,ps,rfl⟩,hok,q⟩:=h;obtain⟨dx,l,e,as,el,hps⟩:=ha;refine am (xb1 (xret (xtup (xac xstr (xac (xfld (xv 0)) (xac (xcd Dc hr (xac (xfld (xv 0)) xa0)) xa0)))))) ?_;have y7:OkPs ps:=hok.2;refine⟨_,rfl,a,_,dx,_,_,rfl,e,T.u23.cls,T.q30,rfl,_,rfl,a,_,dx,_,_,rfl,e,T.u23.cls,T.u31,rfl,l,as,ps,rfl,el,hps,y7.r2,by rw[hps.len];have:=y7.len;omega,λr H1 s1 d1=>⟨bg3,λt ht=>?_⟩⟩;obtain⟨a1,a2⟩:=bz s1 ht (.cons (dn_k (k:="heading")) (.cons (.int _) (.cons d1 .nil)));exact q _ _ a1 a2
def kr (F:Fun K "told" "Para.told" dI f fd)(T:TxB K mg c BT)(Dc:Def P w K mg base 4 "told_parts" ["parts"] (spTolds c.cp R2)):FnOk P w K mg base CX0 5 f fd ["self"] (spTB c R fB ok λb=>∃ps,b = .para ps):=by
 have sc:FnScope ["self"] ["self"] (ad dI):=mkS;refine F.oks sc λH Q hr h=>?_;obtain⟨a,b,rfl,ha,⟨ps,rfl⟩,hok,q⟩:=h;obtain⟨dx,l,e,as,el,hps⟩:=ha;refine am (xb1 (xret (xtup (xac xstr (xac (xcd Dc hr (xac (xfld (xv 0)) xa0)) xa0))))) ?_;have y7:OkPs ps:=hok;refine⟨_,rfl,a,_,dx,_,_,rfl,e,T.q29.cls,T.g31,rfl,l,as,ps,rfl,el,hps,y7.r2,by rw[hps.len];have:=y7.len;omega,λr H1 s1 d1=>⟨bg2,λt ht=>?_⟩⟩;obtain⟨a1,a2⟩:=bz s1 ht (.cons (dn_k (k:="para")) (.cons d1 .nil));exact q _ _ a1 a2
def iA (F:Fun K "told" "Noting.told" cr f fd)(T:TxB K mg c BT)(Dc:Def P w K mg base 4 "told_parts" ["parts"] (spTolds c.cp R2)):FnOk P w K mg base CX0 5 f fd ["self"] (spTB c R fB ok λb=>∃n ps,b = .note n ps):=by
 have sc:FnScope ["self"] ["self"] (ad cr):=mkS;refine F.oks sc λH Q hr h=>?_;obtain⟨a,b,rfl,ha,⟨n,ps,rfl⟩,hok,q⟩:=h;obtain⟨dx,l,e,as,el,hps⟩:=ha;refine am (xb1 (xret (xtup (xac xstr (xac (xfld (xv 0)) (xac (xcd Dc hr (xac (xfld (xv 0)) xa0)) xa0)))))) ?_;have y7:OkPs ps:=hok.2;refine⟨_,rfl,a,_,dx,_,_,rfl,e,T.z23.cls,T.z32,rfl,_,rfl,a,_,dx,_,_,rfl,e,T.z23.cls,T.q32,rfl,l,as,ps,rfl,el,hps,y7.r2,by rw[hps.len];have:=y7.len;omega,λr H1 s1 d1=>⟨bg3,λt ht=>?_⟩⟩;obtain⟨a1,a2⟩:=bz s1 ht (.cons (dn_k (k:="note")) (.cons (dn_S hok.1) (.cons d1 .nil)));exact q _ _ a1 a2
def iB (F:Fun K "told" "Naming.told" cq f fd)(T:TxB K mg c BT):FnOk P w K mg base CX0 1 f fd ["self"] (spTB c R fB ok λb=>∃n t,b = .name n t):=by
 have sc:FnScope ["self"] ["self"] (ad cq):=mkS;refine F.oks sc λH Q hr h=>?_;obtain⟨a,b,rfl,ha,⟨n,u,rfl⟩,hok,q⟩:=h;obtain⟨dx,e⟩:=ha;refine am (xb1 (xret (xtup (xac xstr (xac (xfld (xv 0)) (xac (xfld (xv 0)) xa0)))))) ?_;refine⟨_,rfl,a,_,dx,_,_,rfl,e,T.g23.cls,T.u32,rfl,_,rfl,a,_,dx,_,_,rfl,e,T.g23.cls,T.g32,rfl,bg3,λt ht=>?_⟩;obtain⟨a1,a2⟩:=bz (Same.refl H) ht (.cons (dn_k (k:="name")) (.cons (dn_S hok.1) (.cons (dn_S hok.2) .nil)));exact q _ _ a1 a2
def gt (F:Fun K "told" "Literal.told" bT f fd)(T:TxB K mg c BT):FnOk P w K mg base CX0 1 f fd ["self"] (spTB c R fB ok λb=>∃ls,b = .lit ls):=by
 have sc:FnScope ["self"] ["self"] (ad bT):=mkS;refine F.oks sc λH Q hr h=>?_;obtain⟨a,b,rfl,ha,⟨ls,rfl⟩,hok,q⟩:=h;obtain⟨dx,l,e,el⟩:=ha;refine am (xb1 (xret (xtup (xac xstr (xac (xcTy aq T.g10 rfl (xac (xfld (xv 0)) xa0)) xa0))))) ?_;refine⟨_,rfl,a,_,dx,_,_,rfl,e,T.u30.cls,T.z31,rfl,l,_,rfl, .inl (SqL.of el),λp hp=>⟨bg2,λt ht=>?_⟩⟩;obtain⟨b1,b2⟩:=nO (Same.refl H) hp (pO hok.2) (by rw[l0];have:=hok.1;omega);obtain⟨a1,a2⟩:=bz b1 ht (.cons (dn_k (k:="literal")) (.cons b2 .nil));exact q _ _ a1 a2
def gu {k:Nat}(F:Fun K "told" "Listing.told" bU f fd)(T:TxB K mg c BT)(Ya:Def P w K mg base k "told_entries" ["entries"] (spTEs c 6)):FnOk P w K mg base CX0 (k+1) f fd ["self"] (spTB c R fB ok λb=>∃es,b = .lst es):=by
 have sc:FnScope ["self"] ["self"] (ad bU):=mkS;refine F.oks sc λH Q hr h=>?_;obtain⟨a,b,rfl,ha,⟨es,rfl⟩,hok,q⟩:=h;obtain⟨dx,l,e,hl⟩:=ha;refine am (xb1 (xret (xtup (xac xstr (xac (xcd Ya hr (xac (xfld (xv 0)) xa0)) xa0))))) ?_;refine⟨_,rfl,a,_,dx,_,_,rfl,e,T.z30.cls,T.q33,rfl,l,es,rfl,hl,hok.1,hok.2,λr H1 s1 d1=>⟨bg2,λt ht=>?_⟩⟩;obtain⟨a1,a2⟩:=bz s1 ht (.cons (dn_k (k:="list")) (.cons d1 .nil));exact q _ _ a1 a2
abbrev ks:Stmt:=top 70
def ju {k n:Nat}(F:Fun K "told_entries" "told_entries" ks f fd)(hM:MV P w K mg base k "told" (EAt c n) (OkE n) (tellsB (dE n))):FnOk P w K mg base CX0 (k+1) f fd ["entries"] (spTEs c n):=by
 have sc:FnScope ["entries"] ["entries"] (ad ks):=mkS;refine F.oks sc λH Q hr h=>?_;obtain⟨l,es,rfl,⟨as,el,hls⟩,hl,hok,q⟩:=h;refine am (xb1 (xret (xlc0 (own:=["entry"])
  (xil (xv 0))
  (λ_ _ _ _=>xgm (i:=0) (show (["entry"]:List Str).Nodup by decide)) (λ_ _ _ _=>xq0) (λ_ _ _ _=>(jY (k:=k) (xv 0) hr.mono))))) ?_
 have w6:=hls.len;refine⟨_,rfl,l,rfl,⟨_,SqL.of el⟩,?_⟩;refine cf (λi=>((es[i]?).map (dE n)).getD .none) (SqL.of el) (by rw[l0];omega) ?_ ?_
 ·intro i x hx H2 s2 C N hC;obtain⟨a,e,rfl,hei,_,ha⟩:=hls.get hx;obtain⟨Cc,dx,fs,sp,e1,e2,V,hsp⟩:=hM e (hok e (l15 hei)) H2 a (dG n _ _ _ _ s2 ha);refine⟨(nfLe.refl _ _ _).set ∅ _,iteT (B:=N H2) ⟨_,rfl,a,Cc,dx,fs,_,sp,rfl,e1,e2,V,hsp _ _ λv H4 ⟨s4,d4⟩=>hC v H4 s4 ?_⟩⟩;rw[hei];exact d4
 ·intro D H2 hD s2 dD;rw[l0,w6,aU] at dD;exact q D H2 s2 dD
def jv {k n:Nat}(F:Fun K "told" "Entry.told" cN f fd)(T:TxB K mg c BT)(Dc:Def P w K mg base 4 "told_parts" ["parts"] (spTolds c.cp R2))(Ya:Def P w K mg base k "told_entries" ["entries"] (spTEs c n)):FnOk P w K mg base CX0 (k+5) f fd ["self"] (spTE c (n+1)):=by
 have sc:FnScope ["self"] ["self"] (ad cN):=mkS;refine F.oks sc λH Q hr h=>?_;obtain⟨a,en,rfl,⟨dx,lp,le,e,⟨as,el,hps⟩,hle⟩,⟨y7,hl,hw⟩,q⟩:=h;refine am (xb1 (xret (xtup (xac (xfld (xv 0)) (xac (xcd Dc hr (xac (xfld (xv 0)) xa0)) (xac (xcd Ya hr (xac (xfld (xv 0)) xa0)) xa0)))))) ?_;refine⟨_,rfl,a,_,dx,_,_,rfl,e,T.z14.cls,T.u33,rfl,_,rfl,a,_,dx,_,_,rfl,e,T.z14.cls,T.g33,rfl,lp,as,_,rfl,el,hps,y7.r2,by rw[hps.len];have:=y7.len;omega,λr H1 s1 d1=>?_⟩;refine⟨_,rfl,a,_,dx,_,_,rfl,s1 _ _ e,T.z14.cls,T.z33,rfl,le,_,rfl,hle.same (dG n) s1,hl,hw,λr2 H2 s2 d2=>⟨bg3,λt ht=>?_⟩⟩;have hsg:∀b:Bool,Asc (lW b)/\(lW b).length<=1000:=λb=>by cases b <;> exact⟨qI _ rfl,by decide⟩
 obtain⟨a1,a2⟩:=bz (s1.trans s2) ht (.cons (dn_S (hsg _)) (.cons (d1.same (ar (Same.refl _) s2)) (.cons (d2.same (ar s1 (Same.refl _))) .nil)));exact q _ _ a1 a2
abbrev nP:Stmt:=top 76
def pP (F:Fun K "told_cells" "told_cells" nP f fd)(Dc:Def P w K mg base 4 "told_parts" ["parts"] (spTolds c.cp R2)):FnOk P w K mg base CX0 5 f fd ["cells"] (spTC c):=by
 have sc:FnScope ["cells"] ["cells"] (ad nP):=mkS;refine F.oks sc λH Q hr h=>?_;obtain⟨l,cs,rfl,⟨as,el,hls⟩,hok,q⟩:=h;refine am (xb1 (xret (xlc0 (own:=["cell"])
  (xil (xv 0))
  (λ_ _ _ _=>xgm (i:=0) (show (["cell"]:List Str).Nodup by decide)) (λ_ _ _ _=>xq0) (λ_ _ _ _=>(xcd Dc hr (xac (xv 0) xa0)))))) ?_
 have w6:=hls.len;have hl:=hok.1;refine⟨_,rfl,l,rfl,⟨_,SqL.of el⟩,?_⟩;refine cf (λi=>((cs[i]?).map λps=>PyData.list (ps.map dP)).getD .none) (SqL.of el) (by rw[l0];omega) ?_ ?_
 ·intro i x hx H2 s2 C N hC;obtain⟨a,ps,rfl,hei,_,as2,e2,hps⟩:=hls.get hx;have y7:=hok.2 ps (l15 hei);refine⟨(nfLe.refl _ _ _).set ∅ _,iteT (B:=N H2) ⟨_,rfl,a,as2,ps,rfl,s2 _ _ e2,hps.same s2,y7.r2,by rw[hps.len];have:=y7.len;omega,λr H4 s4 d4=>hC _ H4 s4 ?_⟩⟩;rw[hei];exact d4
 ·intro D H2 hD s2 dD;rw[l0,w6,aU] at dD;exact q D H2 s2 dD
def jw {k:Nat}(F:Fun K "told" "Quote.told" cM f fd)(T:TxB K mg c BT)(hM:MV P w K mg base k "told" R ok (tellsB fB))(mR:MoR R):FnOk P w K mg base CX0 (k+1) f fd ["self"] (spTB c R fB ok λb=>∃bs,b = .quote bs):=by
 have sc:FnScope ["self"] ["self"] (ad cM):=mkS;refine F.oks sc λH Q hr h=>?_;obtain⟨a,b,rfl,ha,⟨bs,rfl⟩,hok,q⟩:=h;obtain⟨dx,l,e,as,el,hls⟩:=ha;refine am (xb1 (xret (xtup (xac xstr (xac (xlc0 (own:=["block"])
  (xil (xfld (xv 0)))
  (λ_ _ _ _=>xgm (i:=0) (show (["block"]:List Str).Nodup by decide)) (λ_ _ _ _=>xq0) (λ_ _ _ _=>(jY (k:=k) (xv 0) hr.mono))) xa0))))) ?_
 have w6:=hls.len;have hl:=hok.1;refine⟨_,rfl,a,_,dx,_,_,rfl,e,T.g30.cls,T.q31,rfl,l,rfl,⟨_,SqL.of el⟩,?_⟩;refine cf (λi=>((bs[i]?).map fB).getD .none) (SqL.of el) (by rw[l0];omega) ?_ ?_
 ·intro i x hx H2 s2 C N hC;obtain⟨a,b,rfl,hei,_,ha⟩:=hls.get hx;obtain⟨Cc,dx,fs,sp,e1,e2,V,hsp⟩:=hM b (hok.2 b (l15 hei)) H2 a (mR _ _ _ _ s2 ha);refine⟨(nfLe.refl _ _ _).set ∅ _,iteT (B:=N H2) ⟨_,rfl,a,Cc,dx,fs,_,sp,rfl,e1,e2,V,hsp _ _ λv H4 ⟨s4,d4⟩=>hC v H4 s4 ?_⟩⟩;rw[hei];exact d4
 ·intro D H2 hD s2 dD;rw[l0,w6,aU] at dD;refine⟨bg2,λt ht=>?_⟩;obtain⟨a1,a2⟩:=bz s2 ht (.cons (dn_k (k:="quote")) (.cons dD .nil));exact q _ _ a1 a2
def jx (F:Fun K "told" "Table.told" cO f fd)(T:TxB K mg c BT)(DH:Def P w K mg base 5 "told_cells" ["cells"] (spTC c)):FnOk P w K mg base CX0 6 f fd ["self"] (spTB c R fB ok λb=>∃hd sd ls,b = .table hd sd ls):=by
 have sc:FnScope p11 ["self"] (ad cO):=mkS;refine F.oks sc λH Q hr h=>?_;obtain⟨a,b,rfl,ha,⟨hd,sd,ls,rfl⟩,hok,q⟩:=h;obtain⟨dx,lh,lsd,ll,e,hh,es,as,el,hls⟩:=ha;refine am (xbc (pe (i:=1) (own:=["line"]) sc.nd
  (xil (xfld (xv 0)))
  (λ_ _ _ _=>xgm (i:=0) (show (["line"]:List Str).Nodup by decide)) (λ_ _ _ _=>xq0) (λ_ _ _ _=>(xcd DH hr (xac (xv 0) xa0))))
  (xb1 (xret (xtup (xac xstr (xac (xcd DH hr (xac (xfld (xv 0)) xa0)) (xac (xcTy aq T.g10 rfl (xac (xfld (xv 0)) xa0)) (xac (xv 1) xa0)))))))) ?_
 rw[uZ];have w6:=hls.len;obtain⟨ok1,ok2,ok3,ok4⟩:=hok;refine⟨_,rfl,a,_,dx,_,_,rfl,e,T.q14.cls,T.z34,rfl,ll,rfl,⟨_,SqL.of el⟩,?_⟩;refine cf (λi=>((ls[i]?).map jq).getD .none) (SqL.of el) (by rw[l0];omega) ?_ ?_
 ·intro i x hx H2 s2 C N hC;obtain⟨a,l,rfl,hei,_,ha⟩:=hls.get hx;refine⟨(nfLe.refl _ _ _).set ∅ _,iteT (B:=N H2) ⟨_,rfl,a,l,rfl,nM fb _ _ _ _ s2 ha,ok4 l (l15 hei),λr H4 s4 d4=>hC _ H4 s4 ?_⟩⟩;rw[hei];exact d4
 ·intro D H1 hD s1 d1;rw[l0,w6,aU] at d1;dsimp only[tAsg.K0,tDrop.K0,Ends.to_nx,Ends.to_rt,al,sA,sB];have hsd:∀b:Bool,Asc (cT b)/\(cT b).length<=1000:=λb=>by cases b <;> exact⟨qI _ rfl,by decide⟩
  refine⟨_,rfl,a,_,dx,_,_,rfl,s1 _ _ e,T.q14.cls,T.u34,rfl,lh,hd,rfl,hh.same fb s1,ok1,λr2 H2 s2 d2=>?_⟩;refine⟨_,rfl,a,_,dx,_,_,rfl,s2 _ _ (s1 _ _ e),T.q14.cls,T.g34,rfl,lsd,_,rfl, .inl (SqL.of (s2 _ _ (s1 _ _ es))),λp hp=>⟨_,rfl,bg4,λt ht=>?_⟩⟩;obtain ⟨b1, b2⟩ := nO (s1.trans s2) hp (ds := sd.map fun b => PyData.str (S (cT b))) (xs := sd.map fun b => vS (cT b)) (by
   have:=pO (G:=dif H H2) (ls:=sd.map cT) (λl hl=>by obtain⟨b,_,rfl⟩:=l16.mp hl;exact hsd b);rw[l26,l26] at this;exact this) (by rw[l0];omega)
  have sp:=ac hp (.lst (sd.map λb=>vS (cT b)));obtain⟨a1,a2⟩:=bz b1 ht (.cons (dn_k (k:="table")) (.cons (d2.same (ar s1 sp)) (.cons b2 (.cons (d1.same (ar (Same.refl _) (s2.trans sp))) .nil))));exact q _ _ a1 a2
end
end K14
namespace Lw
open PySem L2 Lm
open Classical in
def srtQ (q:Bool)(r:List Nat):Srt:=match aV r with
 | .quote x=>if q then .quote x else .plain 0 (cy r)
 |s=>s
def aG (q:Bool):List (List Nat)->Srt
 | [] => .empty
 |r::_=>srtQ q r
def tkW {α:Type}(f:Srt->Option α)(q:Bool):List (List Nat)->List α
 | []=>[]
 |r::rs=>match f (srtQ q r) with
  |some x=>x::tkW f q rs
  |none=>[]
def c8:Srt->Option (List Nat)
 | .plain _ w=>some w
 |_=>none
def cv:Srt->Option (List Nat)
 | .plain far w=>if 1<=far then some w else none
 |_=>none
def fc:Srt->Option (List Nat)
 | .quote x=>some x
 |_=>none
def c9:Srt->Option (List (List Nat))
 | .cells ts=>some ts
 |_=>none
def litR:List (List Nat)->List (List Nat)×Nat
 | []=>([],0)
 |r::rs=>if aW (aV r)=ba then ([],1) else (r::(litR rs).1,(litR rs).2+1)
abbrev Itm:=Nat×Nat×List Nat
def au (q:Bool)(rs:List (List Nat)):List (List Nat):=tkW cv q (rs.drop 1)
def itR (q:Bool):Nat->List (List Nat)->List Itm×Nat
 |0,_=>([],0)
 |k+1,rs=>match aG q rs with
  | .item far sg w=>((far,sg,aF [32] (w::au q rs))::(itR q k (rs.drop (1+(au q rs).length))).1,1+(au q rs).length+(itR q k (rs.drop (1+(au q rs).length))).2)
  |_=>([],0)
def lvl (first pv far:Nat):Nat:=min (min ((far - first) / 2) 5) pv
def lvR (first:Nat):Nat->List Itm->List Itm
 |_,[]=>[]
 |pv,x::r=>(lvl first pv x.1,x.2.1,x.2.2)::lvR first (lvl first pv x.1+1) r
def lvs (its:List Itm):List Itm:=lvR ((its.head?.map (·.1)).getD 0) 0 its
def entF {β:Type}(j4:List Itm->List β×Nat)(lv:Nat):Nat->List Itm->List (EnF β)×Nat
 |0,_=>([],0)
 |_+1,[]=>([],0)
 |k+1,x::r=>if lv<=x.1 then (⟨decide (x.2.1=43),bn x.2.2,(j4 r).1⟩::(entF j4 lv k (r.drop (j4 r).2)).1,1+(j4 r).2+(entF j4 lv k (r.drop (j4 r).2)).2) else ([],0)
def entR:(n:Nat)->List Itm->List (En n)×Nat
 |0,_=>([],0)
 |n+1,its=>entF (entR n) (5 - n) its.length its
def bZ (ls:List (List (List Nat))):Nat:=(ls.map List.length).foldr max 0
def bA (m:Nat)(ts:List (List Nat)):List (List PC):=(ts++List.replicate (m - ts.length) []).map bn
def isR (t:List Nat):Bool:=decide (t.getLast? = some 58)
def tblR {β:Type}(ls:List (List (List Nat))):BkF β:=
 if ls.length < 2 ∨ (ls.getD 1 []).all ej=false then .table [] [] (ls.map (bA (bZ ls)))
 else .table (bA (bZ ls) (ls.getD 0 [])) ((ls.getD 1 []).map isR++List.replicate (bZ ls - (ls.getD 1 []).length) false) ((ls.drop 2).map (bA (bZ ls)))
def rdF {β:Type}(q:Bool)(j4:List (List Nat)->List β)(rs:List (List Nat)):BkF β×Nat:=match aG q rs with
 | .heading lv w=>(.heading lv (bn w),1)
 | .name n t=>(.name n t,1)
 | .note n w=>(.note n (bn (aF [32] (w::au q rs))),1+(au q rs).length)
 | .fence=>(.lit (litR (rs.drop 1)).1,1+(litR (rs.drop 1)).2)
 | .quote _=>(.quote (j4 (tkW fc q rs)),(tkW fc q rs).length)
 | .cells _=>(tblR (tkW c9 q rs),(tkW c9 q rs).length)
 | .item _ _ _=>(.lst (entR 6 (lvs (itR q rs.length rs).1)).1,(itR q rs.length rs).2)
 |_=>(.para (bn (aF [32] (tkW c8 q rs))),(tkW c8 q rs).length)
def emp (r:List Nat):Bool:=decide (aW (aV r)=kZ)
def blkR {β:Type}(rd:List (List Nat)->β×Nat):Nat->Nat->List (List Nat)->List (β×Nat×Nat)
 |0,_,_=>[]
 |_+1,_,[]=>[]
 |k+1,p,r::rs=>if emp r then blkR rd k (p+1) rs else ((rd (r::rs)).1,p,p+(rd (r::rs)).2)::blkR rd k (p+(rd (r::rs)).2) ((r::rs).drop (rd (r::rs)).2)
def rd:(n:Nat)->List (List Nat)->Bl n×Nat
 |0,rs=>rdF false (λ_=>([]:List Empty)) rs
 |n+1,rs=>rdF true (λxs=>(blkR (rd n) xs.length 0 xs).map (·.1)) rs
def blks (n:Nat)(rs:List (List Nat)):List (Bl n×Nat×Nat):=blkR (rd n) rs.length 0 rs
structure SmR (rs:List (List Nat)):Prop where
 sum:(rs.map λr=>r.length+1).sum<=900
 asc:∀r∈rs,Asc r
def nQ:∀{rs:List (List Nat)} {r:List Nat},r∈rs->r.length+1<=(rs.map λr=>r.length+1).sum
 |x::xs,r,h=>by
  rw[l13,l19];rcases l6.mp h with z |z
  ·rw[z];omega
  ·have:=nQ z;omega
theorem nR:∀rs:List (List Nat),rs.length<=(rs.map λr=>r.length+1).sum
 | []=>l5 _
 |x::xs=>by have:=nR xs;rw[l13,l19,l4];omega
def SmR.row {rs:List (List Nat)}{r:List Nat}(h:SmR rs)(m:r∈rs):r.length<=900:=by have:=nQ m;have:=h.sum;omega
def SmR.len {rs:List (List Nat)}(h:SmR rs):rs.length<=900:=l11 (nR rs) h.sum
def SmR.drop {rs : List (List Nat)} (h : SmR rs) (i : Nat) : SmR (rs.drop i) := ⟨by
 have e:=congrArg (λl:List (List Nat)=>(l.map λr=>r.length+1).sum) (l53 i rs);simp only[l17,l74] at e;have:=h.sum;omega,λr hr=>h.asc r (l61 hr)⟩
def lY {s:Srt}(h:aW s=b7):∃x,s = .quote x:=by cases s <;> first |exact⟨_,rfl⟩ |cases h
def lZ {s:Srt}(h:aW s=fR):∃k x,s = .plain k x:=by cases s <;> first |exact⟨_,_,rfl⟩ |cases h
def ma {s:Srt}(h:aW s=eR):∃x,s = .cells x:=by cases s <;> first |exact⟨_,rfl⟩ |cases h
def f7 {s:Srt}(h:aW s=g9):∃a b x,s = .item a b x:=by cases s <;> first |exact⟨_,_,_,rfl⟩ |cases h
section
variable {α:Type}{f:Srt->Option α}{q:Bool}{rs rs':List (List Nat)}{i:Nat}
def cP:aG q (rs.drop i)=match rs[i]? with |none => .empty |some r=>srtQ q r:=by
 by_cases h:i < rs.length
 ·rw[l25 h,List.getElem?_eq_getElem h];rfl
 ·rw[l32 nofun,List.getElem?_eq_none nofun];rfl
def nS (h0:f .empty=none){x:α}(h:f (aG q (rs.drop i))=some x):i < rs.length/\tkW f q (rs.drop i)=x::tkW f q (rs.drop (i+1)):=by
 by_cases hi:i < rs.length
 ·refine⟨hi,?_⟩;rw[l25 hi] at h ⊢;have h:f (srtQ q rs[i])=some x:=h;show (match f (srtQ q rs[i]) with |some x=>x::tkW f q (rs.drop (i+1)) |none=>[])=_;rw[h]
 ·rw[l32 nofun] at h;rw[show aG q []=Srt.empty from rfl,h0] at h;cases h
def ez (h:f (aG q rs)=none):tkW f q rs=[]:=by
 cases rs with
 |nil=>rfl
 |cons r rs=>
  have h:f (srtQ q r)=none:=h;show (match f (srtQ q r) with |some x=>x::tkW f q rs |none=>[])=_;rw[h]
def iC {r:List Nat}{x:α}(h:f (srtQ q r)=some x):tkW f q (r::rs)=x::tkW f q rs:=by
 show (match f (srtQ q r) with |some x=>x::tkW f q rs |none=>[])=_;rw[h]
theorem dJ:∀rs:List (List Nat),(tkW f q rs).length<=rs.length
 | []=>l5 _
 |r::rs=>by
  have:=dJ rs;show (match f (srtQ q r) with |some x=>x::tkW f q rs |none=>[]).length<=_;split
  ·rw[l4,l4];omega
  ·exact l12 _
theorem lf {x:α}:∀{rs:List (List Nat)},x∈tkW f q rs->∃r∈rs,f (srtQ q r)=some x
 | [],h=>nomatch h
 |r::rs,h=>by
  have h:x∈(match f (srtQ q r) with |some x=>x::tkW f q rs |none=>[]):=h;split at h
  ·rename_i y e;rcases l6.mp h with z |z
   ·exact⟨r,l10,by rw[z];exact e⟩
   ·obtain⟨r',h1,h2⟩:=lf z;exact⟨r',l7 _ h1,h2⟩
  ·cases h
theorem nT:∀{rs rs':List (List Nat)},rs'.take (tkW f q rs).length=rs.take (tkW f q rs).length->f (aG q (rs'.drop (tkW f q rs).length))=none->tkW f q rs'=tkW f q rs
 | [],rs',_,h2=>ez h2
 |r::rs,rs',h1,h2=>by
  cases e:f (srtQ q r) with
  |none=>
   have e2:tkW f q (r::rs)=[]:=ez e;rw[e2] at h2 ⊢;exact ez h2
  |some x=>
   have e2:tkW f q (r::rs)=x::tkW f q rs:=by
    show (match f (srtQ q r) with |some x=>x::tkW f q rs |none=>[])=_;rw[e]
   rw[e2] at h1 h2 ⊢;cases rs' with
   |nil=>cases h1
   |cons r' rs'=>
    have h1:r'::rs'.take (tkW f q rs).length=r::rs.take (tkW f q rs).length:=h1;injection h1 with a b
    subst a;show (match f (srtQ q r') with |some x=>x::tkW f q rs' |none=>[])=_;rw[e,nT b h2]
end
end Lw
namespace L2
open PySem PySem.Spec PyProof.Rows
section
variable {X:Cx}{pos:Pos}
def xbrk:XS X (.Break pos) qp:=⟨oN⟩
def vo {x y z:V}{us:List Value}(r:Vals [x,y,z] us):∃u v w',us=[u,v,w']/\RelV x u/\RelV y v/\RelV z w':=by
 cases r with
 |cons r1 r2=>
  obtain⟨u,w',rfl,h1,h2⟩:=tZ r2;exact⟨_,_,_,rfl,r1,h1,h2⟩
inductive R_call_min3 (xs:List V)(H:Hp)(Q:VK):Prop
 |mk (i j k)(_:xs=[.int i, .int j, .int k])(_:Q (.int (min (min i j) k)) H)
def nU (hc:X.calm=true):cV X (.builtin "min") R_call_min3:=by
 intro w9 s σ H xs us Q I r h;obtain⟨a,b,c,rfl,q⟩:=h;obtain⟨_,_,_,rfl,⟨t,rfl⟩,⟨t',rfl⟩,⟨t'',rfl⟩⟩:=vo r;refine wpAny_with_toks (n:=1) I.tk (min_three_ints (I.ok.hd hc) λh' tk k htk=>⟨_,H,I.kept k htk,?_,q⟩);by_cases hba:b < a <;> by_cases hc1:c < b <;> by_cases hc2:c < a <;> simp only[hba,hc1,hc2,if_true,if_false] <;> first |exact⟨_,congrArg (λz=>Value.int z _) nofun⟩
end
def iD (n d i:Nat):HT.sIx n d (some (i:Int))=min i n:=by
 simp only[HT.sIx];rw[if_neg nofun,l45]
def f8 (xs:List V)(a:Nat):cutV xs (some (a:Int)) none=xs.drop a:=by
 unfold cutV;rw[iD,show HT.sIx xs.length xs.length none=xs.length from rfl];by_cases h:a<=xs.length
 ·rw[l39 h,l35 (by rw[l9];omega)]
 ·rw[l54 nofun,l62,List.take_zero,l32 nofun]
def kt (xs:List V)(b:Nat):cutV xs none (some (b:Int))=xs.take b:=by
 unfold cutV;rw[iD,show HT.sIx xs.length 0 none=0 from rfl,l43,Nat.sub_zero];by_cases h:b<=xs.length
 ·rw[l39 h]
 ·rw[l54 nofun,l35 nofun,l35 nofun]
def fk (xs:List V)(a b:Nat):cutV xs (some (a:Int)) (some (b:Int))=(xs.drop a).take (b - a):=by
 unfold cutV;rw[iD,iD];by_cases h:a<=xs.length
 ·rw[l39 h];by_cases h2:b<=xs.length
  ·rw[l39 h2]
  ·rw[l54 nofun,l35 (by rw[l9];omega),l35 (by rw[l9];omega)]
 ·rw[l54 (show xs.length<=a by omega),l32 (l5 _),l32 nofun,List.take_nil,List.take_nil]
end L2
namespace Lw
open PySem L2 Lm
def pQ {K:Frag}{a:Addr}{xs:List V}{g:TG}{tb:TS}{D:Ends}{σ:St}{H:Hp}(Pv:Nat->St->Hp->Prop)(h0:Pv 0 σ H)(hl:∀i σ H,i<=xs.length->Pv i σ H->SqL K H a xs)
  (hs:∀i x σ H T,xs[i]? = some x->Pv i σ H->H T=none->g (.ref T) σ (upd H T (.tup [.int (i:Nat),x])) λσ2 H2=>tb { D with nx:=Pv (i+1),ct:=Pv (i+1),bk:=D.nx } σ2 H2) (hd:∀σ H,Pv xs.length σ H->D.nx σ H):
  ∃W:Nat->Nat->St->Hp->Prop,(∃m,W 0 m σ H)/\∀i m σ H,W i m σ H →
   ((Ite K a).stop i H/\D.nx σ H) ∨ ((Ite K a).go i H/\∃N:St->Hp->Prop,(∀σ' H',N σ' H'->∃m',m' < m/\W (i+1) m' σ' H')/\∀x H',(Ite K a).yld i H x H'->g x σ H' λσ2 H2=>tb { D with nx:=N,ct:=N,bk:=D.nx } σ2 H2):=by
 refine⟨λi m σ H=>m=xs.length - i/\i<=xs.length/\Pv i σ H,⟨xs.length,by simp,l12 _,h0⟩,?_⟩;rintro i m σ H ⟨rfl,hi,p⟩;have q:=hl i σ H hi p;by_cases hlt:i < xs.length
 ·refine .inr ⟨⟨xs,xs[i],q,by simp[hlt]⟩,Pv (i+1),λσ' H' p'=>⟨xs.length - (i+1),by omega,rfl,hlt,p'⟩,?_⟩;rintro x H' ⟨T,y,hy,hT,rfl,rfl⟩;exact hs i y σ H T (hy xs q) p hT
 ·have e:i=xs.length:=by omega
  subst e;exact .inl ⟨⟨xs,q,l5 _⟩,hd σ H p⟩
end Lw
namespace K14
open PySem L2 Lm Lw
structure TxD (K:Frag)(mg:Str->Option Value)(c:Cb)(BT:Addr):Prop extends TxB K mg c BT where
 u15:∃t,mg "MOST_QUOTES"=some (.int 4 t)
 g15:∃t,mg "MOST_ENTRIES"=some (.int 6 t)
 z15:mg "min"=none
 z13:mg "max"=none
def f9 {a b:Prop} [Decidable a] [Decidable b](h:a ↔ b):V.bl (decide a)=V.bl (decide b):=congrArg V.bl (decide_eq_decide.mpr h)
section
variable {K:Frag}{σ:St}{H:Hp}{p:Addr}{s:Srt}
def aC {k:Nat}{x:Str}(w:List Nat)(hσ:σ[k]? = some (some (.ref p)))(hp:SrtAt K H p s)(hw:V.str x=vS w:=by rfl):Tells (tTest (tOp rEq (tOp (rIxT K) (tVar k) (tC (.int 0))) (tC (.str x)))) σ H (decide (aW s=w)):=λR h=>by
 obtain⟨ys,ep,_,_⟩:=hp.parts;refine⟨_,hσ,p,_,0,_,rfl,rfl,SqT.of ep,ag (j:=0) rfl,rfl,_,rfl,?_⟩;have e:decide (vS (aW s)=V.str x)=decide (aW s=w):=by rw[hw];exact decide_eq_decide.mpr ⟨λz=>df (V.str.inj z),λz=>by rw[z]⟩
 rw[e];exact h H (Same.refl H)
end
section
variable {c:Cb}{BT:Addr}
abbrev nV:Stmt:=top 84
inductive spEmpty (vs:List V)(H:Hp)(Q:VK)(u3:XK):Prop
 |mk (l:List Nat)(_:vs=[vS l])(_:l.length<=1000000)(_:∀H',Same H H'->Q (.bl (emp l)) H')
def pR (F:Fun K "is_empty" "is_empty" nV f fd)(Dg:Def P w K mg base 4 "sort_of" ["row"] (spSort K)):FnOk P w K mg base CX0 5 f fd ["row"] spEmpty:=by
 have sc:FnScope ["row"] ["row"] (ad nV):=mkS;refine F.oks sc λH Q hr h=>?_;obtain⟨l,rfl,hl,q⟩:=h;refine am (xb1 (xret (xcmp be (xix aw (xcd Dg hr (xac (xv 0) xa0)) xint (λ_ _=>rfl)) xstr (ai _)))) ?_;refine⟨_,rfl,l,rfl,hl,λp H1 s1 hp=>?_⟩;obtain⟨ys,ep,_,_⟩:=hp.parts;refine⟨p,_,0,_,rfl,rfl,SqT.of ep,ag (j:=0) rfl,rfl,?_⟩;have e:decide (vS (aW (aV l))=V.str (Str.ofString "empty"))=emp l:=decide_eq_decide.mpr ⟨λz=>df (V.str.inj z),λz=>by rw[z];rfl⟩;rw[e];exact q H1 s1
abbrev ku:Stmt:=top 86
inductive spSortAt (K:Frag)(vs:List V)(H:Hp)(Q:VK)(u3:XK):Prop
 |mk (l:Addr)(rs:List (List Nat))(i d:Nat)(_:vs=[.ref l, .int i, .int d])(_:H l=some (.lst (rs.map vS)))(_:SmR rs)(_:∀p H',Same H H'->SrtAt K H' p (aG (decide (d < 4)) (rs.drop i))->Q (.ref p) H')
def nX {q:Bool}{r:List Nat}(h:aW (aV r)≠b7):srtQ q r=aV r:=by
 unfold srtQ;split
 ·rename_i e;rw[e] at h;exact absurd rfl h
 ·rfl
def qK {r:List Nat}:srtQ true r=aV r:=by
 unfold srtQ;split
 ·rename_i e;rw[e];rfl
 ·rfl
def qL {r:List Nat}(h:aW (aV r)=b7):srtQ false r = .plain 0 (cy r):=by
 obtain⟨x,e⟩:=lY h;unfold srtQ;rw[e];rfl
def nY (F:Fun K "sort_at" "sort_at" ku f fd)(T:TxD K mg c BT)(Dg:Def P w K mg base 4 "sort_of" ["row"] (spSort K))(De:Def P w K mg base 2 "tidy" ["text"] spTidy):FnOk P w K mg base CX0 5 f fd p0 (spSortAt K):=by
 have sc:FnScope ["rows","place","deep","sort"] p0 (ad ku):=mkS;refine F.oks sc λH Q hr h=>?_;obtain⟨l,rs,i,d,rfl,el,hok,q⟩:=h;refine am (xbc (xif (az mx (xv 1) (xcB aj T.u10 PySem.boot_len (xac (xv 0) xa0)) (ai _)) (xb1 (xret (xtup (xac xstr xa0)))) xb0)
  (xbc (xst (i:=3) sc.nd (xcd Dg hr (xac (xix aT (xv 0) (xv 1) (λ_ _=>rfl)) xa0)))
  (xbc (xif (xand (az be (xix aw (xv 3) xint (λ_ _=>rfl)) xstr (ai _)) (jR (az mx (xv 2) (xgI T.u15) (ai _)))).xt (xb1 (xret (xtup (xac xstr (xac xint (xac (xcd De hr (xac (xix aT (xv 0) (xv 1) (λ_ _=>rfl)) xa0)) xa0)))))) xb0)
  (xb1 (xret (xv 3)))))) ?_
 rw[uf];have w6:=eg (K:=K) (σ:=[some (.ref l),some (.int i),some (.int d),none]) (H:=H) (ta:=tVar 0) (ev_v rfl) (.inl (SqL.of el));refine s_if (decide (rs.length<=i)) (cS (ev_v rfl) w6 (f9 (by rw[l0];omega))) (λH1 s1 z=>?_) λH1 s1 z=>?_
 ·have hi:=of_decide_eq_true z;refine⟨bg1,λt ht=>q t _ (s1.trans (ac ht _)) ?_⟩;rw[l32 hi];exact aa
 have hi:i < rs.length:=by have:=of_decide_eq_false z;omega
 have hrm:=l34 hi;have er:aG (decide (d < 4)) (rs.drop i)=srtQ (decide (d < 4)) rs[i]:=by rw[l25 hi];rfl
 rw[er] at q;have hat:(rs.map vS)[i]? = some (vS rs[i]):=by rw[List.getElem?_map,List.getElem?_eq_getElem hi];rfl
 generalize rs[i]=r at hrm q hat;have hrl:r.length<=1000000:=by have:=hok.row hrm;omega
 refine⟨_,rfl,_,rfl,l,_,(i:Int),_,rfl,rfl,SqL.of (s1 _ _ el),ag (j:=i) hat,r,rfl,hrl,λp H2 s2 hp=>?_⟩;dsimp only[tAsg.K0,tDrop.K0,Ends.to_nx,Ends.to_rt,al,sA,sB];have s12:=s1.trans s2;refine s_if (decide (aW (aV r)=b7)&&decide (4<=d)) (eZ _ _ (aC b7 rfl hp) λ_ H3 s3=>cS (ev_v rfl) ev_c (f9 nofun)) (λH3 s3 z=>?_) λH3 s3 z=>?_
 ·rw[Bool.and_eq_true] at z;have hd:=of_decide_eq_true z.2;rw[decide_eq_false (show ¬ d < 4 by omega),qL (of_decide_eq_true z.1)] at q;refine⟨_,rfl,_,rfl,l,_,(i:Int),_,rfl,rfl,SqL.of ((s12.trans s3) _ _ el),ag (j:=i) hat,r,rfl,hrl,λH4 s4=>⟨bg3,λt ht=>q t _ (((s12.trans s3).trans s4).trans (ac ht _)) aa⟩⟩
 ·refine⟨_,rfl,q p H3 (s12.trans s3) (hp.same s3|>λh=>?_)⟩;by_cases hd:d < 4
  ·rw[decide_eq_true hd,qK];exact h
  ·rw[nX]
   ·exact h
   ·intro y;rw[decide_eq_true y,decide_eq_true (show 4<=d by omega)] at z;cases z
end
inductive Zp {α:Type}(R:V->α->Prop)(vs:List V)(as:List α):Prop
 |mk (zs:List (V×α))(_:vs=zs.map (·.1))(_:as=zs.map (·.2))(_:∀z∈zs,R z.1 z.2)
section
variable {α:Type}{R R':V->α->Prop}{vs:List V}{as:List α}
def Zp.mono (h:Zp R vs as)(k:∀v a,v∈vs->R v a->R' v a):Zp R' vs as:=let ⟨zs,a,b,d⟩:=h;⟨zs,a,b,λz hz=>k _ _ (by rw[a];exact List.mem_map_of_mem hz) (d z hz)⟩
def Zp.snoc {v : V} {a : α} (h : Zp R vs as) (k : R v a) : Zp R (vs ++ [v]) (as ++ [a]) := let ⟨zs, x, y, d⟩ := h; ⟨zs++[(v,a)],by rw[x,l17];rfl,by rw[y,l17];rfl,λz hz=>by
 rcases l20.mp hz with z' |z'
 ·exact d z z'
 ·rw[l14.mp z'];exact k⟩
def Zp.nil:Zp R [] []:=⟨[],rfl,rfl,λ_ z=>nomatch z⟩
def Zp.len (h:Zp R vs as):vs.length=as.length:=let ⟨zs,x,y,d⟩:=h;by rw[x,y,l0,l0]
def Zp.one (h:Zp R vs as){v:V}(hv:v∈vs):∃a,R v a:=let ⟨zs,x,y,d⟩:=h;by
 rw[x] at hv;obtain⟨z,hz,rfl⟩:=l16.mp hv;exact⟨_,d z hz⟩
end
def Zp.strs {vs:List V}{as:List (List Nat)}(h:Zp (λv w=>v=vS w) vs as):vs=as.map vS:=let ⟨zs,x,y,d⟩:=h;by
 rw[x,y,l26];exact l42 λz hz=>d z hz
section
variable {K:Frag}{α:Type}{f:Srt->Option α}{Rl:Hp->V->α->Prop}{tt:TT}{k:Int}{σt:St}{l:Addr}{rs:List (List Nat)}{i d:Nat}{D:Ends}{u:TS}{H0:Hp}
def iE {Pr:Srt->Prop}(hPr:∀j,Pr (aG (decide (d < 4)) (rs.drop j)))(h0:f .empty=none)(ht:∀σ H p s,σ[4]? = some (some (.ref p))->SrtAt K H p s->Tells tt σ H (f s).isSome)
  (hk:∀H p s a,Pr s->SrtAt K H p s->f s=some a->∃ys v,H p=some (.tup ys)/\atI ys k=some v/\Rl H v a)(mo:∀H H' v a,Same H H'->Rl H v a->Rl H' v a)
  (up:∀H X vs v v' a a',H X=some (.lst vs)->(∀x∈vs,∃b,Rl H x b)->Rl H v a->Rl H v' a'->Rl (upd H X (.lst (vs++[v]))) v' a')(el:H0 l=some (.lst (rs.map vS)))(hok:SmR rs)
  (q:∀X p vs H',Same H0 H'->H0 X=none->H' X=some (.lst vs)->Zp (Rl H') vs (tkW f (decide (d < 4)) (rs.drop i))->u D (some (.ref l)::some (.int i)::some (.int d)::some (.ref X)::some (.ref p)::σt) H'):
  tSeq (tAsg (tLst tNil) (al 3)) (tSeq (tAsg (tCall (spSortAt K) [] E0 (tCons (tVar 0) (tCons (tVar 1) (tCons (tVar 2) tNil)))) (al 4)) (tSeq (tWhile tt (tSeq (tDrop (tBM K "list" rAppend (tVar 3) (tCons (tOp (rIxT K) (tVar 4) (tC (.int k))) tNil)))
   (tAsg (tCall (spSortAt K) [] E0 (tCons (tVar 0) (tCons (tOp (rI0 λi j=>V.int (i+j)) (tVar 1) (tCB (R_call_len_seq K) (tCons (tVar 3) tNil))) (tCons (tVar 2) tNil)))) (al 4)))) u)) D (some (.ref l)::some (.int i)::some (.int d)::none::none::σt) H0:=by
 refine⟨bg0,λX hX=>?_⟩;have s1:=ac hX (.lst []);have e1:upd H0 X (.lst []) X=some (.lst []):=aa;dsimp only[tAsg.K0,tDrop.K0,Ends.to_nx,Ends.to_rt,al,sA,sB];generalize upd H0 X (.lst [])=H1 at s1 e1 ⊢;refine⟨_,rfl,_,rfl,_,rfl,l,rs,i,d,rfl,s1 _ _ el,hok,λp H2 s2 hp=>?_⟩;dsimp only[tAsg.K0,tDrop.K0,Ends.to_nx,Ends.to_rt,al,sA,sB];refine ce (λm σ H=>∃(p:Addr) (vs:List V) (as:List α),σ=some (.ref l)::some (.int i)::some (.int d)::some (.ref X)::some (.ref p)::σt/\Same H0 H/\H X=some (.lst vs)/\Zp (Rl H) vs as/\SrtAt K H p (aG (decide (d < 4)) (rs.drop (i+as.length)))/\as++tkW f (decide (d < 4)) (rs.drop (i+as.length))=tkW f (decide (d < 4)) (rs.drop i)/\m=rs.length - (i+as.length)) (rs.length - i) ⟨p,[],[],rfl,s1.trans s2,s2 _ _ e1,Zp.nil,hp,rfl,rfl⟩ ?_;rintro m σ H ⟨p,vs,as,rfl,sH,eX,hz,hp,hrun,rfl⟩;refine⟨_,ht _ _ p _ rfl hp,λz H' s'=>?_,λz H' s'=>?_⟩
 ·obtain⟨a,ha⟩:=l76.mp z;obtain⟨hlt,hstep⟩:=nS h0 ha;obtain⟨ys,v,ep,ev,hv⟩:=hk H p _ a (hPr _) hp ha;rw[hstep] at hrun;have eX':=s' _ _ eX;have w6:=dJ (f:=f) (q:=decide (d < 4)) (rs.drop i);have hvl:=hz.len;have hasl:as.length<=1000:=by
   have:=congrArg List.length hrun;rw[l8] at this;rw[l9] at w6;have:=hok.len;omega
  refine⟨_,rfl, .inl ⟨rfl,_,SqL.of eX'⟩,_,rfl,p,ys,k,v,rfl,rfl,SqT.of (s' _ _ ep),ev,X,_,v,rfl,rfl,eX',by rw[sizeLine_eq];omega,?_⟩;have hz':Zp (Rl H') vs as:=hz.mono λx b _ hb=>mo _ _ _ _ s' hb;have hv':=mo _ _ _ _ s' hv;have sU:Same H0 (upd H' X (.lst (vs++[v]))):=ak hX (sH.trans s');refine⟨_,rfl,_,rfl,_,rfl,X,vs++[v],rfl, .inl (SqL.of aa),_,_,rfl,rfl,_,rfl,l,rs,i+(as.length+1),d,?_,sU _ _ el,hok,λp2 H3 s3 hp2=>?_⟩
  ·rw[l8,hvl];rfl
  dsimp only[tAsg.K0,tDrop.K0,Ends.to_nx,Ends.to_rt,al,sA,sB];refine⟨_,(show rs.length - (i+(as.length+1)) < rs.length - (i+as.length) by omega),p2,vs++[v],as++[a],rfl,sU.trans s3,s3 _ _ aa,?_,?_,?_,?_⟩
  ·have j8:∀x∈vs,∃b,Rl H' x b:=λx hx=>hz'.one hx;exact((hz'.mono (R':=Rl (upd H' X (.lst (vs++[v])))) λx b _ hb=>up _ _ _ _ _ _ _ eX' j8 hv' hb).snoc (up _ _ _ _ _ _ _ eX' j8 hv' hv')).mono λx b _ hb=>mo _ _ _ _ s3 hb
  ·rw[l8];exact hp2
  ·rw[l8,l23];exact hrun
  ·rw[l8];rfl
 ·have hn:f (aG (decide (d < 4)) (rs.drop (i+as.length)))=none:=by simpa using z
  rw[ez hn,l29] at hrun;rw[<- hrun] at q;exact q X p vs H' (sH.trans s') hX (s' _ _ eX) (hz.mono λx b _ hb=>mo _ _ _ _ s' hb)
end
section
variable {c:Cb}{BT:Addr}
abbrev iF:Stmt:=top 87
inductive spFurther (vs:List V)(H:Hp)(Q:VK)(u3:XK):Prop
 |mk (l:Addr)(rs:List (List Nat))(i d:Nat)(_:vs=[.ref l, .int i, .int d])(_:H l=some (.lst (rs.map vS)))(_:SmR rs)(_:∀r H',Same H H'->H r=none->H' r=some (.lst ((tkW cv (decide (d < 4)) (rs.drop i)).map vS))->Q (.ref r) H')
def md (F:Fun K "further_words" "further_words" iF f fd)(T:TxD K mg c BT)(Da:Def P w K mg base 5 "sort_at" p0 (spSortAt K)):FnOk P w K mg base CX0 6 f fd p0 spFurther:=by
 have sc:FnScope ["rows","place","deep","words","sort"] p0 (ad iF):=mkS;refine F.oks sc λ{_ _ _ s vs _}H Q hr h=>?_;obtain⟨l,rs,i,d,rfl,el,hok,q⟩:=h;refine am (xbc (xst (i:=3) sc.nd (xlst xa0))
  (xbc (xst (i:=4) sc.nd (xcd Da hr (xac (xv 0) (xac (xv 1) (xac (xv 2) xa0)))))
  (xbc (cx PassesOwn.never (xand (az be (xix aw (xv 4) xint (λ_ _=>rfl)) xstr (ai _)) (jR (az mx (xix aw (xv 4) xint (λ_ _=>rfl)) xint (ai _)))).xt
  (xbc (bw (xmA (xv 3) (xac (xix aw (xv 4) xint (λ_ _=>rfl)) xa0)))
  (xb1 (xst (i:=4) sc.nd (xcd Da hr (xac (xv 0) (xac (xop av (xv 1) (xcB aj T.u10 PySem.boot_len (xac (xv 3) xa0))) (xac (xv 2) xa0))))))))
  (xb1 (xret (xv 3)))))) ?_
 refine iE (K:=K) (f:=cv) (Rl:=λ_ v w=>v=vS w) (l:=l) (rs:=rs) (i:=i) (d:=d) (σt:=[]) (Pr:=λ_=>True) (λ_=>trivial) rfl (λσ H p s hσ hp=>?_) (λH p s a _ hp ha=>?_) (λ_ _ _ _ _ h=>h) (λ_ _ _ _ _ _ _ _ _ _ h=>h) el hok λX p vs H' s' hX eX hz=>⟨_,rfl,q X H' s' hX (by rw[eX,hz.strs])⟩
 ·by_cases hk:aW s=fR
  ·obtain⟨far,w,rfl⟩:=lZ hk;refine Tells.eq (eZ _ (decide (1<=far)) (aC fR hσ hp) λ_ H1 s1=>cS (λR k=>⟨_,hσ,p,_,1,_,rfl,rfl,SqT.of (s1 _ _ hp),ag (j:=1) rfl,k⟩) ev_c (f9 nofun)) ?_;show (decide _&&_)=(if 1<=far then some w else none).isSome;rw[decide_eq_true hk];by_cases h:1<=far
   ·rw[if_pos h,decide_eq_true h];rfl
   ·rw[if_neg h,decide_eq_false h];rfl
  ·refine Tells.eq (eZ false false ((aC fR hσ hp).eq (decide_eq_false hk)) λz=>nomatch z) ?_;cases s <;> first |rfl |exact absurd rfl hk
 ·cases s with
  |plain far w=>
   have ha:(if 1<=far then some w else none)=some a:=ha;split at ha
   ·cases ha;exact⟨_,_,hp,ag (j:=2) rfl,rfl⟩
   ·cases ha
  |_=>cases ha
end
end K14
namespace Lw
open PySem L2 Lm
def szP:Pc->Nat
 | .star=>2
 |p=>sPc p
def szQ:Qc->Nat
 | .txt l=>l.length
 | .part p=>szC p
def okQ:Qc->Prop
 | .txt l=>Asc l/\l≠[]
 | .part p=>OkC p
def smQ (qs:List Qc):Nat:=(qs.map szQ).sum
def sK (a b:List Qc):smQ (a++b)=smQ a+smQ b:=by unfold smQ;rw[l17,l74]
def qM:∀(n:Nat) {s:List Nat},s.length<=n->Asc s->((aB s).map szP).sum<=21 * s.length/\∀p∈aB s,PcG p
 |n,[],_,_=>by rw[cH];exact⟨l5 _,λ_ z=>nomatch z⟩
 |0,x::s,h,_=>by simp at h
 |n+1,x::s,h,ha=>by
  obtain⟨p,r,e⟩:=dC (s:=x::s) (by simp);obtain⟨g1,g2,g3,g4⟩:=nL ha e;obtain⟨i1,i2⟩:=qM n (s:=r) (by rw[l4] at g4 h;omega) g2;have hp:szP p+21 * r.length<=21 * (x::s).length:=by
   cases p with
   |star=>show 2+_<=_;omega
   |_=>exact g3
  rw[cj e];refine⟨by rw[l13,l19];omega,λq hq=>?_⟩;rcases l6.mp hq with z |z
  ·rw[z];exact g1
  ·exact i2 q z
def uK {p:Pc}(hg:PcG p):okQ (toQ p)/\szQ (toQ p)<=szP p:=by
 cases p with
 |sign c=>exact⟨⟨λx hx=>by rw[l14.mp hx];exact hg,by simp⟩,l5 _⟩
 |star=>exact⟨⟨by unfold Asc;decide,by simp⟩,by show 1<=2;decide⟩
 |code l=>exact⟨by show Asc (S l).cps.toList;rw[bD];exact hg.1,by show (S l).cps.toList.length+2<=l.length+2;rw[bD];exact l5 _⟩
 |note n=>exact⟨by show Asc (S n).cps.toList;rw[bD];exact hg.1,by show (S n).cps.toList.length+20<=n.length+20;rw[bD];exact l5 _⟩
 |link w n=>exact⟨by show Asc (S w).cps.toList/\Asc (S n).cps.toList;rw[bD,bD];exact⟨hg.1,hg.2.2.1⟩,by show (S w).cps.toList.length+(S n).cps.toList.length+20<=w.length+n.length+20;rw[bD,bD];exact l5 _⟩
def pS:∀(qs:List Qc) (sg:List (List Nat)),(∀q∈qs,okQ q)->(∀l∈sg,Asc l/\l≠[])->(∀p∈mgGo sg qs,OkC p)/\((mgGo sg qs).map szC).sum<=sg.flatten.length+smQ qs
 |qs,sg,hq,hs=>by
  have pl:(∀p∈bm sg,OkC p)/\((bm sg).map szC).sum<=sg.flatten.length:=by
   unfold bm;split
   ·exact⟨λ_ z=>(nomatch z),l12 _⟩
   ·rename_i hn;refine⟨λp hp=>?_,?_⟩
    ·rw[l14.mp hp];show Asc (S sg.flatten).cps.toList/\(S sg.flatten).cps.toList≠[];rw[bD];refine⟨λc hc=>?_,λz=>?_⟩
     ·obtain⟨l,h1,h2⟩:=List.mem_flatten.mp hc;exact(hs l h1).1 c h2
     ·cases sg with
      |nil=>exact hn rfl
      |cons l sg=>exact(hs l l10).2 (List.append_eq_nil_iff.mp z).1
    ·show (S sg.flatten).cps.toList.length+0<=_;rw[bD];exact l5 _
  cases qs with
  |nil=>exact⟨pl.1,pl.2⟩
  |cons q qs=>
   cases q with
   |txt l=>
    have hl:Asc l/\l≠[]:=hq _ l10;obtain⟨i1,i2⟩:=pS qs (sg++[l]) (λq h=>hq q (l7 _ h)) λx hx=>(l20.mp hx).elim (hs x) λz=>by rw[l14.mp z];exact hl
    refine⟨i1,l11 i2 ?_⟩;rw[List.flatten_append,l8];show _+(l++[]).length+_<=_+(l.length+smQ qs);rw[l29];omega
   |part p=>
    obtain⟨i1,i2⟩:=pS qs [] (λq h=>hq q (l7 _ h)) λ_ z=>nomatch z;refine⟨λx hx=>?_,?_⟩
    ·rcases l20.mp (show x∈bm sg++p::mgGo [] qs from hx) with z |z
     ·exact pl.1 x z
     ·rcases l6.mp z with z |z
      ·rw[z];exact hq _ l10
      ·exact i1 x z
    ·show ((bm sg++p::mgGo [] qs).map szC).sum<=_+(szC p+smQ qs);rw[l17,l74,l13,l19];have:=pl.2;have i2:((mgGo [] qs).map szC).sum<=0+smQ qs:=i2;omega
 termination_by qs=>qs.length
theorem lg:∀{ps:List PC},(∀p∈ps,OkC p)->(∀p∈ones ps,Ok1 p)/\((ones ps).map sz1).sum<=(ps.map szC).sum
 | [],_=>⟨λ_ z=>(nomatch z),l5 _⟩
 |p::ps,h=>by
  obtain⟨i1,i2⟩:=lg λq hq=>h q (l7 _ hq);have hp:=h p l10;cases p with
  |one q=>
   refine⟨λx hx=>?_,?_⟩
   ·rcases l6.mp (show x∈q::ones ps from hx) with z |z
    ·rw[z];exact hp
    ·exact i1 x z
   ·show sz1 q+_<=sz1 q+_;exact Nat.add_le_add_left i2 _
  |strong q=>exact⟨i1,l11 i2 (by rw[l13,l19];omega)⟩
def nZ {inn:List Qc}(h:∀q∈inn,okQ q):okQ (aY inn)/\szQ (aY inn)<=smQ inn+2:=by
 unfold aY;split
 ·exact⟨⟨by unfold Asc;decide,by simp⟩,by show 2<=_;omega⟩
 ·obtain⟨a,b⟩:=pS inn [] h λ_ z=>nomatch z;obtain⟨d,e⟩:=lg a;have b:((mgGo [] inn).map szC).sum<=0+smQ inn:=b;exact⟨d,by show _+2<=_;omega⟩
theorem n6:∀(ps:List Pc) (o:Option (List Qc)),(∀p∈ps,PcG p)->(∀q∈o.getD [],okQ q)->(∀q∈wsGo o ps,okQ q)/\smQ (wsGo o ps)<=smQ (o.getD [])+(ps.map szP).sum+(if o.isSome then 2 else 0)
 | [],none,_,_=>⟨λ_ z=>(nomatch z),l12 _⟩
 | [], some inn, _, h => ⟨λq hq=>by
   rcases l6.mp (show q∈Qc.txt [42]::inn from hq) with z |z
   ·rw[z];exact⟨by unfold Asc;decide,by simp⟩
   ·exact h q z,by show 1+smQ inn<=smQ inn+0+2;omega⟩
 |p::r,o,hp,h=>by
  have hr:=λq hq=>hp q (l7 _ hq);have h1:=hp p l10;rw[l13,l19];by_cases hs:p = .star
  ·subst hs;cases o with
   |none=>
    obtain⟨a,b⟩:=n6 r (some []) hr λ_ z=>nomatch z;exact⟨a,l11 b (by show smQ []+_+2<=smQ []+(2+_)+0;omega)⟩
   |some inn=>
    obtain⟨a,b⟩:=n6 r none hr λ_ z=>nomatch z;obtain⟨d,e⟩:=nZ h;refine⟨λq hq=>?_,?_⟩
    ·rcases l6.mp (show q∈aY inn::wsGo none r from hq) with z |z
     ·rw[z];exact d
     ·exact a q z
    ·have b:smQ (wsGo none r)<=0+(r.map szP).sum+0:=b;show szQ (aY inn)+smQ (wsGo none r)<=smQ inn+(2+_)+2;have e:szQ (aY inn)<=smQ inn+2:=e;omega
  ·obtain⟨t1,t2⟩:=uK h1;cases o with
   |none=>
    obtain⟨a,b⟩:=n6 r none hr λ_ z=>nomatch z;rw[fV hs];refine⟨λq hq=>?_,?_⟩
    ·rcases l6.mp hq with z |z
     ·rw[z];exact t1
     ·exact a q z
    ·have b:smQ (wsGo none r)<=0+(r.map szP).sum+0:=b;show szQ (toQ p)+smQ (wsGo none r)<=0+(szP p+_)+0;omega
   |some inn=>
    rw[fW hs];obtain⟨a,b⟩:=n6 r (some (inn++[toQ p])) hr λq hq=>(l20.mp hq).elim (h q) λz=>by rw[l14.mp z];exact t1
    refine⟨a,l11 b ?_⟩;show smQ (inn++[toQ p])+_+2<=smQ inn+(szP p+_)+2;rw[sK];show smQ inn+(szQ (toQ p)+0)+_+2<=_;omega
def n8:∀(qs:List Qc) (sg:List (List Nat)),(mgGo sg qs).length<=qs.length+(if sg=[] then 0 else 1)
 |qs,sg=>by
  have pl:(bm sg).length=if sg=[] then 0 else 1:=by
   unfold bm;cases sg <;> rfl
  cases qs with
  |nil=>show (bm sg).length<=0+_;omega
  |cons q qs=>
   cases q with
   |txt l=>
    have:=n8 qs (sg++[l]);rw[if_neg (by simp)] at this;show (mgGo (sg++[l]) qs).length<=_;rw[l4];omega
   |part p=>
    have:(mgGo [] qs).length<=qs.length+0:=n8 qs [];show (bm sg++p::mgGo [] qs).length<=_;rw[l8,l4,l4];omega
 termination_by qs=>qs.length
def bJ {t:List Nat}(ha:Asc t)(hl:t.length<=900):OkPs (bn t):=by
 obtain⟨a1,a2⟩:=qM _ (l5 _) ha;obtain⟨b1,b2⟩:=n6 (aB t) none a2 λ_ z=>nomatch z;obtain⟨c1,c2⟩:=pS (wsGo none (aB t)) [] b1 λ_ z=>nomatch z;have b2:smQ (wsGo none (aB t))<=0+((aB t).map szP).sum+0:=b2;have c2:((bn t).map szC).sum<=0+smQ (wsGo none (aB t)):=c2;have e1:(bn t).length<=(wsGo none (aB t)).length+0:=n8 (wsGo none (aB t)) [];have e2:(wsGo none (aB t)).length<=(aB t).length+0:=(bx (aB t) none).2;have e3:=ek _ t (l5 _);exact⟨by omega,c1,by omega⟩
def SzS (n:Nat):Srt->Prop
 | .empty=>True
 | .fence=>True
 | .quote r=>r.length+1<=n
 | .heading lv w=>lv<=3/\w.length<=n
 | .cells ts=>1<=ts.length/\ts.length<=n/\∀t∈ts,t.length<=n
 | .note a w=>a.length<=n/\w.length<=n
 | .name a w=>a.length<=n/\w.length<=n
 | .item _ sg w=>(sg=43 ∨ sg=45)/\w.length<=n
 | .plain _ w=>w.length<=n
def kv:∀{ls:List (List Nat)} {w:List Nat},w∈ls->w.length<=(ls.map List.length).sum
 |x::r,w,h=>by
  rw[l13,l19];rcases l6.mp h with z |z
  ·rw[z];omega
  ·have:=kv z;omega
def pT {l w:List Nat}(h:w∈aR l):w.length<=l.length:=by
 have h2:=fL l;have h3:=kv h;have h4:1<=(aR l).length:=List.length_pos_of_mem h;omega
def jA (l:List Nat):(aX l).length=l.length:=l0 _
def sM {l t:List Nat}(h:t∈bi l):t.length<=l.length:=by
 have h2:((bi l).map List.length).sum+(bi l).length=l.length+1:=jW l 0;have h3:=kv h;have h4:=List.length_pos_of_mem h;omega
def sN (l:List Nat):SzS l.length (aV l):=by
 have hbl:=kW l;have td:∀x:List Nat,x.length<=l.length->(cy x).length<=l.length:=λx hx=>l11 (g6 x) hx;unfold aV;simp only[];split
 ·trivial
 split
 ·rename_i h;have:1<=(bc l).length:=by cases e:bc l with |nil=>rw[e] at h;cases h |cons _ _=>simp
  show (gj l).length+1<=_;unfold gj;split <;> rw[l9] <;> omega
 split
 ·trivial
 split
 ·refine⟨?_,td _ (by rw[l9];omega)⟩;unfold cZ;split <;> omega
 split
 ·rename_i h;unfold bq at h;rw[Bool.and_eq_true,Bool.and_eq_true] at h;have h2:=of_decide_eq_true h.1.1;have hi:(((bc l).drop 1).take ((bc l).length - 2)).length<=l.length - 2:=by rw[l21,l9];omega
  refine⟨?_,?_,λt ht=>?_⟩
  ·unfold eM;rw[l0];unfold bi;cases e:aI 0 _ with
   |nil=>exact absurd e (cX _ _)
   |cons _ _=>simp
  ·unfold eM;rw[l0];have:=je (((bc l).drop 1).take ((bc l).length - 2));omega
  ·obtain⟨x,hx,rfl⟩:=l16.mp ht;have:=sM hx;have:=jd x;exact td _ nofun
 have hdw:=di ([32]:List Nat).contains (bc l);have hi:SzS l.length (fK (bc l)):=by
  unfold fK;simp only[];split
  ·rename_i h;refine⟨?_,td _ (by rw[l9];omega)⟩;rcases h with h |h <;> (cases e:(bc l).dropWhile ([32]:List Nat).contains with |nil=>rw[e] at h;cases h |cons x r=>?_) <;> rw[e] at h <;> simp at h
   ·exact .inr h.1.symm
   ·exact .inl h.1.symm
  ·exact td _ nofun
 cases hd:defC (bc l) with
 |none=>exact hi
 |some d=>
  unfold defC at hd;split at hd
  ·cases hd
  ·split at hd
   ·cases hd
   split at hd
   ·cases hd;exact⟨by rw[jA,l21,l9];omega,td _ (by rw[l9];omega)⟩
   split at hd
   ·cases hd;refine⟨by rw[jA,l21,l9];omega,?_⟩;cases hw:aR ((bc l).drop _) with
    |nil=>exact l12 _
    |cons x r=>
     have:=pT (l:=(bc l).drop _) (w:=x) (by rw[hw];exact l10);rw[l9] at this;show x.length<=_;omega
   ·cases hd
def cu (q:Bool)(l:List Nat):SzS l.length (srtQ q l):=by
 have:=sN l;unfold srtQ;split
 ·rename_i e;rw[e] at this;split
  ·exact this
  ·exact g6 l
 ·exact this
def bV {q:Bool}{l:List Nat}(h:Asc l):AscS (srtQ q l):=by
 have:=pC h;unfold srtQ;split
 ·rename_i e;rw[e] at this;split
  ·exact this
  ·exact h.tidy
 ·exact this
section
variable {f:Srt->Option (List Nat)}{q:Bool}{rs:List (List Nat)}
theorem n9 (hf:∀n s w,SzS n s->f s=some w->w.length<=n):∀rs:List (List Nat),((tkW f q rs).map λr=>r.length+1).sum<=(rs.map λr=>r.length+1).sum
 | []=>l5 _
 |r::rs=>by
  have:=n9 hf rs;cases e:f (srtQ q r) with
  |some x=>
   have:=hf _ _ _ (cu q r) e;rw[iC e,l13,l19,l13,l19];omega
  |none=>rw[ez (rs:=r::rs) e];exact l12 _
def SmR.tk (h : SmR rs) (hf : ∀ n s w, SzS n s -> f s = some w -> w.length <= n) (ha : ∀ s w, AscS s -> f s = some w -> Asc w) : SmR (tkW f q rs) := ⟨l11 (n9 hf rs) h.sum,λw hw=>by
 obtain⟨r,h1,h2⟩:=lf hw;exact ha _ _ (bV (h.asc r h1)) h2⟩
def dL (n:Nat)(s:Srt)(w:List Nat)(h:SzS n s)(e:c8 s=some w):w.length<=n:=by cases s <;> cases e;exact h
def dM (s:Srt)(w:List Nat)(h:AscS s)(e:c8 s=some w):Asc w:=by cases s <;> cases e;exact h
def li (n:Nat)(s:Srt)(w:List Nat)(h:SzS n s)(e:fc s=some w):w.length<=n:=by cases s <;> cases e;exact Nat.le_of_succ_le h
def jB (s:Srt)(w:List Nat)(h:AscS s)(e:fc s=some w):Asc w:=by cases s <;> cases e;exact h
def eF {s:Srt}{w:List Nat}(e:cv s=some w):c8 s=some w:=by
 cases s with
 |plain far x=>
  have e:(if 1<=far then some x else none)=some w:=e;split at e
  ·exact e
  ·cases e
 |_=>cases e
def SmR.more {w:List Nat}(h:SmR rs)(hl:rs≠[])(hw:∀r,rs.head? = some r->w.length<=r.length/\Asc w):SmR (w::au q rs):=by
 cases rs with
 |nil=>exact absurd rfl hl
 |cons r rs=>
  obtain⟨h1,h2⟩:=hw r rfl;have h3:=h.sum;rw[l13,l19] at h3;have h4:=(SmR.tk (q:=q) (f:=cv) (rs:=rs) ⟨by omega,λx hx=>h.asc x (l7 _ hx)⟩ (λn s w a b=>dL n s w a (eF b)) (λs w a b=>dM s w a (eF b))).asc;have h5:=n9 (f:=cv) (q:=q) (λn s w a b=>dL n s w a (eF b)) rs;refine⟨?_,λx hx=>?_⟩
  ·rw[l13,l19];show _+((tkW cv q rs).map λr=>r.length+1).sum<=_;omega
  ·rcases l6.mp hx with z |z
   ·rw[z];exact h2
   ·exact h4 x z
end
theorem iG:∀ws:List (List Nat),(ws.map λr=>r.length+1).sum=(ws.map List.length).sum+ws.length
 | []=>rfl
 |w::ws=>by have:=iG ws;rw[l13,l19,l13,l19,l4];omega
theorem lj:∀ws:List (List Nat),(∀r∈ws,Asc r)->Asc (aF [32] ws)
 | [],_=>λ_ z=>nomatch z
 | [p],h=>h p l10
 |p::q::r,h=>jX (jX (h p l10) (by unfold Asc;decide)) (lj (q::r) λx hx=>h x (l7 _ hx))
def SmR.glue {ws:List (List Nat)}(h:SmR ws):(aF [32] ws).length<=900/\Asc (aF [32] ws):=by
 refine⟨?_,?_⟩
 ·have:=Lm.glue_len ws;have:=iG ws;have:=h.sum;omega
 ·exact lj ws h.asc
def SmR.fit {ws:List (List Nat)}(h:SmR ws):((ws.map S).map (·.length)).sum+(ws.map S).length * (S [32]).length<=sizeLine:=by
 have e:(S [32]).length=1:=aH _;have:=iG ws;have:=h.sum;rw[fM,l0,e,Nat.mul_one,sizeLine_eq];omega
def OkI (its:List Itm):Prop:=its.length<=900/\∀x∈its,(x.2.1=43 ∨ x.2.1=45)/\x.2.2.length<=900/\Asc x.2.2
def ky {first:Nat}:∀{its:List Itm} {pv:Nat} {x:Itm},x∈lvR first pv its->x.1<=5/\∃y∈its,x.2=y.2
 |y::its,pv,x,h=>by
  rcases l6.mp (show x∈(lvl first pv y.1,y.2.1,y.2.2)::lvR first (lvl first pv y.1+1) its from h) with z |z
  ·rw[z];exact⟨by show lvl first pv y.1<=5;unfold lvl;omega,y,l10,rfl⟩
  ·obtain⟨h1,y',h2,h3⟩:=ky z;exact⟨h1,y',l7 _ h2,h3⟩
theorem oa {first:Nat}:∀(its:List Itm) (pv:Nat),(lvR first pv its).length=its.length
 | [],_=>rfl
 |y::its,pv=>congrArg (· + 1) (oa its _)
def OkI.lvs {its:List Itm}(h:OkI its):OkI (lvs its)/\∀x∈lvs its,x.1<=5:=by
 refine⟨⟨by unfold Lw.lvs;rw[oa];exact h.1,λx hx=>?_⟩,λx hx=>(ky hx).1⟩;obtain⟨_,y,hy,e⟩:=ky hx;rw[e];exact h.2 y hy
end Lw
namespace K14
open PySem L2 Lm Lw
def ini {C:Addr}{H5 H6:Hp}{y dx:Addr}(hy:H5 y=none)(hd':H5 dx=none)(kx:KeepX y (upd (upd H5 dx (.own y)) y (.ins C dx [])) H6):Same H5 H6:=λb o e=>kx b o (nq hy e) (ak hy (ac hd' _) b o e)
def ini0 {C:Addr}{H5:Hp}{y dx:Addr}(hy:H5 y=none)(hd':H5 dx=none):Same H5 (upd (upd H5 dx (.own y)) y (.ins C dx [])):=ak hy (ac hd' _)
def FndB {β:Type}(c:Cb)(R:Hp->Addr->β->Prop)(H:Hp)(Q:VK)(b:BkF β)(j:Nat):Prop:=∀t a H',Same H H'->H t=none->H' t=some (.tup [.ref a, .int j])->BAtF c R (dif H H') a b->Q (.ref t) H'
def FndB.tup {β:Type}{c:Cb}{R:Hp->Addr->β->Prop}{H H6:Hp}{Q:VK}{b:BkF β}{j:Nat}{y t:Addr}{v:V}(q:FndB c R H Q b j)(mR:MoR R)(s:Same H H6)(hb:BAtF c R (dif H H6) y b)(ht:H6 t=none)(e:v=V.int j):Q (.ref t) (upd H6 t (.tup [.ref y,v])):=by
 subst e;exact q t y _ (s.trans (ac ht _)) (s.free ht) aa (c7 mR _ _ _ _ (io ht _) hb)
inductive RwAt (vs:List V)(H:Hp)(rs:List (List Nat))(i d:Nat):Prop
 |mk (l)(_:vs=[.ref l, .int i, .int d])(_:H l=some (.lst (rs.map vS)))(_:SmR rs)
section
variable {c:Cb}{BT:Addr}{β:Type}{R:Hp->Addr->β->Prop}
abbrev sO:Stmt:=top 97
inductive spPara (c:Cb)(R:Hp->Addr->β->Prop)(vs:List V)(H:Hp)(Q:VK)(u3:XK):Prop
 |mk (rs i d)(_:RwAt vs H rs i d)(_:FndB c R H Q (.para (bn (aF [32] (tkW c8 (decide (d < 4)) (rs.drop i))))) (i+(tkW c8 (decide (d < 4)) (rs.drop i)).length))
def ga (mR:MoR R)(F:Fun K "para_at" "para_at" sO f fd)(T:TxD K mg c BT)(Da:Def P w K mg base 5 "sort_at" p0 (spSortAt K))(Db:Def P w K mg base 6 "parts_of" ["text"] (spPartsOf c.cp))(Dm:New P w K mg base 1 "Para" c.Para p8 (spInitL c.Para "parts")):FnOk P w K mg base CX0 7 f fd p0 (spPara c R):=by
 have sc:FnScope ["rows","place","deep","words","sort"] p0 (ad sO):=mkS;refine F.oks sc λ{_ _ _ s vs _}H Q hr h=>?_;obtain⟨rs,i,d,⟨l,rfl,el,hok⟩,q⟩:=h;refine am (xbc (xst (i:=3) sc.nd (xlst xa0))
  (xbc (xst (i:=4) sc.nd (xcd Da hr (xac (xv 0) (xac (xv 1) (xac (xv 2) xa0)))))
  (xbc (cx PassesOwn.never (az be (xix aw (xv 4) xint (λ_ _=>rfl)) xstr (ai _))
  (xbc (bw (xmA (xv 3) (xac (xix aw (xv 4) xint (λ_ _=>rfl)) xa0)))
  (xb1 (xst (i:=4) sc.nd (xcd Da hr (xac (xv 0) (xac (xop av (xv 1) (xcB aj T.u10 PySem.boot_len (xac (xv 3) xa0))) (xac (xv 2) xa0))))))))
  (xb1 (xret (xtup (xac (xnew Dm hr.mono (xac (xcd Db hr (xac (xm plainAttrs_str slot_str_join type_str_join b8 xstr (xac (xv 3) xa0)) xa0)) xa0)) (xac (xop av (xv 1) (xcB aj T.u10 PySem.boot_len (xac (xv 3) xa0))) xa0)))))))) ?_
 refine iE (K:=K) (f:=c8) (Rl:=λ_ v w=>v=vS w) (l:=l) (rs:=rs) (i:=i) (d:=d) (σt:=[]) (Pr:=λ_=>True) (λ_=>trivial) rfl (λσ H p s hσ hp=>?_) (λH p s a _ hp ha=>?_) (λ_ _ _ _ _ h=>h) (λ_ _ _ _ _ _ _ _ _ _ h=>h) el hok λX p vs H1 s1 hX eX hz=>?_
 ·refine(aC fR hσ hp).eq ?_;cases s <;> rfl
 ·cases s with
  |plain far w=>cases ha;exact⟨_,_,hp,ag (j:=2) rfl,rfl⟩
  |_=>cases ha
 have hsm:=(hok.drop i).tk (q:=decide (d < 4)) dL dM;have hvs:=hz.strs;generalize tkW c8 (decide (d < 4)) (rs.drop i)=ws at hsm hvs q;subst hvs;have hg:=hsm.glue;refine⟨rfl,_,rfl,S [32],X,ws.map S,rfl,rfl,SqL.of (by rw[eX,ee]),hsm.fit,?_⟩;rw[ca];refine⟨_,rfl,by omega,hg.2,λr as H2 s2 hr2 er hps=>?_⟩;refine λy dx hy hd' hyd=>⟨y,dx,r,_,rfl,aa,ini0 hy hd' _ _ er,λp2 H6 hp2 kx e6p e6y=>⟨rfl,?_⟩⟩;have s26:=ini hy hd' kx;have s12:=s1.trans s2;have hp2':H2 p2=none:=(ini0 hy hd').free hp2;refine⟨_,rfl,_,rfl,X,_,rfl, .inl (SqL.of ((s2.trans s26) _ _ eX)),_,_,rfl,rfl,bg2,λt ht=>q.tup mR (s12.trans s26) ⟨dx,p2,by rw[ao (s12.free hy)];exact e6y,as,by rw[ao (s12.free hp2')];exact e6p,hps.same (ar s1 s26)⟩ ht ?_⟩;rw[l0];rfl
abbrev sP:Stmt:=top 88
inductive spNote (c:Cb)(R:Hp->Addr->β->Prop)(vs:List V)(H:Hp)(Q:VK)(u3:XK):Prop
 |mk (rs i d n w)(_:RwAt vs H rs i d)(_:aG (decide (d < 4)) (rs.drop i) = .note n w)(_:FndB c R H Q (.note n (bn (aF [32] (w::au (decide (d < 4)) (rs.drop i))))) (i+(1+(au (decide (d < 4)) (rs.drop i)).length)))
def gb (mR:MoR R)(F:Fun K "note_at" "note_at" sP f fd)(T:TxD K mg c BT)(Da:Def P w K mg base 5 "sort_at" p0 (spSortAt K))(Dd:Def P w K mg base 6 "further_words" p0 spFurther)(Db:Def P w K mg base 6 "parts_of" ["text"] (spPartsOf c.cp))(Do:New P w K mg base 1 "Noting" c.Noting p16 (spInitVL c.Noting "name" "parts")):FnOk P w K mg base CX0 7 f fd p0 (spNote c R):=by
 have sc:FnScope ["rows","place","deep","sort","words"] p0 (ad sP):=mkS;refine F.oks sc λH Q hr h=>?_;obtain⟨rs,i,d,n,w,⟨l,rfl,el,hok⟩,hs,q⟩:=h;refine am (xbc (xst (i:=3) sc.nd (xcd Da hr (xac (xv 0) (xac (xv 1) (xac (xv 2) xa0)))))
  (xbc (xst (i:=4) sc.nd (xop bN (xlst (xac (xix aw (xv 3) xint (λ_ _=>rfl)) xa0)) (xcd Dd hr (xac (xv 0) (xac (xop av (xv 1) xint) (xac (xv 2) xa0))))))
  (xb1 (xret (xtup (xac (xnew Do hr.mono (xac (xix aw (xv 3) xint (λ_ _=>rfl)) (xac (xcd Db hr (xac (xm plainAttrs_str slot_str_join type_str_join b8 xstr (xac (xv 4) xa0)) xa0)) xa0))) (xac (xop av (xv 1) (xcB aj T.u10 PySem.boot_len (xac (xv 4) xa0))) xa0))))))) ?_
 rw[oV];refine⟨_,rfl,_,rfl,_,rfl,l,rs,i,d,rfl,el,hok,λp H1 s1 hp=>?_⟩;rw[hs] at hp;dsimp only[tAsg.K0,tDrop.K0,Ends.to_nx,Ends.to_rt,al,sA,sB];refine⟨_,rfl,p,_,2,_,rfl,rfl,SqT.of hp,ag (j:=2) rfl,bg1,λa ha=>?_⟩;refine⟨_,rfl,_,rfl,_,_,rfl,rfl,_,rfl,l,rs,i+1,d,rfl,(s1.trans (ac ha _)) _ _ el,hok,λb H2 s2 hb eb=>?_⟩;have e:tkW cv (decide (d < 4)) (rs.drop (i+1))=au (decide (d < 4)) (rs.drop i):=by unfold au;rw[l18]
 rw[e] at eb;have hlt:i < rs.length:=by
  by_cases h:i < rs.length
  ·exact h
  ·rw[l32 nofun] at hs;cases hs
 have hsm:SmR (w::au (decide (d < 4)) (rs.drop i)):=(hok.drop i).more (by intro z;rw[l25 hlt] at z;cases z) λr hr'=>by
  rw[l25 hlt] at hr' hs;cases hr';have h1:=cu (decide (d < 4)) rs[i];have h2:=bV (q:=decide (d < 4)) (hok.asc _ (l34 hlt));rw[show srtQ (decide (d < 4)) rs[i]=_ from hs] at h1 h2;exact⟨h1.2,h2.2⟩
 generalize au (decide (d < 4)) (rs.drop i)=ms at hsm eb q;have s02:=(s1.trans (ac ha (.lst [vS w]))).trans s2;have ea2:=s2 _ _ (aa (H:=H1) (a:=a) (o := .lst [vS w]));refine⟨a,b,_,_,rfl,rfl,ea2,eb,?_,λX hX=>?_⟩
 ·have:=hsm.len;rw[l4] at this;rw[l0,sizeLine_eq];show 1+_<=_;omega
 dsimp only[tAsg.K0,tDrop.K0,Ends.to_nx,Ends.to_rt,al,sA,sB];have s03:=s02.trans (ac hX (.lst ([vS w]++ms.map vS)));have eX:upd H2 X (.lst ([vS w]++ms.map vS)) X=some (.lst ((w::ms).map vS)):=aa;have ep3:=(ac hX (.lst ([vS w]++ms.map vS))) _ _ (s2 _ _ (ac ha (.lst [vS w]) _ _ hp));generalize upd H2 X (.lst ([vS w]++ms.map vS))=H3 at s03 eX ep3;have hg:=hsm.glue;refine⟨_,rfl,p,_,1,_,rfl,rfl,SqT.of ep3,ag (j:=1) rfl,rfl,_,rfl,S [32],X,(w::ms).map S,rfl,rfl,SqL.of (by rw[eX,ee]),hsm.fit,?_⟩;rw[ca];refine⟨_,rfl,by omega,hg.2,λr as H4 s4 hr4 er hps=>?_⟩;refine λy dx hy hd' hyd=>⟨y,dx,_,r,_,rfl,aa,ini0 hy hd' _ _ er,λp2 H6 hp2 kx e6p e6y=>⟨rfl,?_⟩⟩;have s46:=ini hy hd' kx;have s04:=s03.trans s4;have hp2':H4 p2=none:=(ini0 hy hd').free hp2;refine⟨_,rfl,_,rfl,X,_,rfl, .inl (SqL.of ((s4.trans s46) _ _ eX)),_,_,rfl,rfl,bg2,λt ht=>q.tup mR (s04.trans s46) ⟨dx,p2,by rw[ao (s04.free hy)];exact e6y,as,by rw[ao (s04.free hp2')];exact e6p,hps.same (ar s03 s46)⟩ ht ?_⟩;rw[l0,l4,Nat.add_comm 1];rfl
abbrev sQ:Stmt:=top 89
inductive spLitA (c:Cb)(R:Hp->Addr->β->Prop)(vs:List V)(H:Hp)(Q:VK)(u3:XK):Prop
 |mk (l rs i)(_:vs=[.ref l, .int (i:Nat)])(_:H l=some (.lst (rs.map vS)))(_:SmR rs)(_:FndB c R H Q (.lit (litR (rs.drop (i+1))).1) (i+(1+(litR (rs.drop (i+1))).2)))
def gc (mR:MoR R)(F:Fun K "literal_at" "literal_at" sQ f fd)(T:TxD K mg c BT)(Dg:Def P w K mg base 4 "sort_of" ["row"] (spSort K))(Dp:New P w K mg base 1 "Literal" c.Literal p11 (spInitL c.Literal "lines")):FnOk P w K mg base CX0 5 f fd p10 (spLitA c R):=by
 have sc:FnScope ["rows","place","lines","behind","row"] p10 (ad sQ):=mkS;refine F.oks sc λ{_ _ _ s _ _}H Q hr h=>?_;obtain⟨l,rs,i,rfl,el,hok,q⟩:=h;refine am (xbc (xst (i:=2) sc.nd (xlst xa0))
  (xbc (xst (i:=3) sc.nd (xop av (xv 1) xint))
  (xbc (cx PassesOwn.never (az db (xv 3) (xcB aj T.u10 PySem.boot_len (xac (xv 0) xa0)) (ai _))
  (xbc (xst (i:=4) sc.nd (xix aT (xv 0) (xv 3) (λ_ _=>rfl)))
  (xbc (xaug (i:=3) sc.nd rfl (Or.inl rfl) xint fq)
  (xbc (xif (az be (xix aw (xcd Dg hr (xac (xv 4) xa0)) xint (λ_ _=>rfl)) xstr (ai _)) (xb1 xbrk) xb0)
  (xb1 (bw (xmA (xv 2) (xac (xv 4) xa0))))))))
  (xb1 (xret (xtup (xac (xnew Dp hr.mono (xac (xv 2) xa0)) (xac (xv 3) xa0)))))))) ?_
 rw[uh];refine⟨bg0,λX hX=>?_⟩;have s1:=ac hX (.lst []);have e1:upd H X (.lst []) X=some (.lst []):=aa;dsimp only[tAsg.K0,tDrop.K0,Ends.to_nx,Ends.to_rt,al,sA,sB];generalize upd H X (.lst [])=H1 at s1 e1 ⊢;refine⟨_,rfl,_,_,rfl,rfl,?_⟩;dsimp only[tAsg.K0,tDrop.K0,Ends.to_nx,Ends.to_rt,al,sA,sB];refine bG (λσ H'=>∃x4,σ=[some (.ref l),some (.int i),some (.ref X),some (.int ((i+(1+(litR (rs.drop (i+1))).2):Nat):Int)),x4]/\Same H H'/\H' X=some (.lst ((litR (rs.drop (i+1))).1.map vS))) (λN hN=>?_) ?_;rotate_left
 ·rintro σ H' ⟨x4,rfl,s',eX⟩;refine⟨_,rfl,λy dx hy hd' hyd=>⟨y,dx,X,_,rfl,aa,ini0 hy hd' _ _ eX,λp2 H6 hp2 kx e6p e6y=>⟨rfl,?_⟩⟩⟩;have s46:=ini hy hd' kx;have hp2':H' p2=none:=(ini0 hy hd').free hp2;exact⟨_,rfl,bg2,λt ht=>q.tup mR (s'.trans s46) ⟨dx,p2,by rw[ao (s'.free hy)];exact e6y,by rw[ao (s'.free hp2')];exact e6p⟩ ht rfl⟩
 refine ce (λm σ H'=>∃(x4:Option V) (done:List (List Nat)),σ=[some (.ref l),some (.int i),some (.ref X),some (.int ((i+1+done.length:Nat):Int)),x4]/\Same H H'/\H' X=some (.lst (done.map vS))/\done++(litR (rs.drop (i+1+done.length))).1=(litR (rs.drop (i+1))).1/\done.length+(litR (rs.drop (i+1+done.length))).2=(litR (rs.drop (i+1))).2/\m=rs.length - (i+1+done.length)) (rs.length - (i+1)) ⟨none,[],rfl,s1,e1,rfl,by show 0+_=_;rw[l69];rfl,rfl⟩ ?_;rintro m σ H2 ⟨x4,done,rfl,s2,eX,h1,h2,rfl⟩;refine⟨decide (i+1+done.length < rs.length),cS (ev_v rfl) (eg (K:=K) (ta:=tVar 0) (ev_v rfl) (.inl (SqL.of (s2 _ _ el)))) (f9 (by rw[l0];omega)),λz H3 s3=>?_,λz H3 s3=>?_⟩
 ·have hlt:=of_decide_eq_true z;rw[l25 hlt] at h1 h2;have hrm:=l34 hlt;have hat:(rs.map vS)[i+1+done.length]? = some (vS rs[i+1+done.length]):=by rw[List.getElem?_map,List.getElem?_eq_getElem hlt];rfl
  generalize rs[i+1+done.length]=r at h1 h2 hrm hat;have hrl:=hok.row hrm;have s23:=s2.trans s3;refine⟨_,rfl,_,rfl,l,_,_,_,rfl,rfl,SqL.of (s23 _ _ el),ag hat,?_⟩;dsimp only[tAsg.K0,tDrop.K0,Ends.to_nx,Ends.to_rt,al,sA,sB];refine⟨_,rfl,_,_,rfl,rfl,?_⟩;dsimp only[tAsg.K0,tDrop.K0,Ends.to_nx,Ends.to_rt,al,sA,sB];have tf:Tells (tTest (tOp rEq (tOp (rIxT K) (tCall (spSort K) [] E0 (tCons (tVar 4) tNil)) (tC (.int 0))) (tC (.str "fence")))) [some (.ref l),some (.int i),some (.ref X),some (.int (((i+1+done.length:Nat):Int)+1)),some (vS r)] H3 (decide (aW (aV r)=ba)):=λR' k=>by
   refine⟨_,rfl,r,rfl,by omega,λp H4 s4 hp=>?_⟩;obtain⟨ys,ep,_,_⟩:=hp.parts;refine⟨p,_,0,_,rfl,rfl,SqT.of ep,ag (j:=0) rfl,rfl,_,rfl,?_⟩;rw[show decide (vS (aW (aV r))=V.str (Str.ofString "fence"))=decide (aW (aV r)=ba) from decide_eq_decide.mpr ⟨λz=>df (V.str.inj z),λz=>by rw[z];rfl⟩];exact k H4 s4
  refine s_if _ tf (λH4 s4 z=>?_) λH4 s4 z=>?_
  ·have hz:=of_decide_eq_true z;rw[show litR (r::rs.drop (i+1+done.length+1))=([],1) from if_pos hz] at h1 h2;refine hN _ _ ⟨some (vS r),?_,s23.trans s4,?_⟩
   ·rw[<- h2,show (((i+1+done.length:Nat):Int)+1)=((i+(1+(done.length+1)):Nat):Int) by omega]
   ·rw[<- h1,l29];exact s4 _ _ (s3 _ _ eX)
  ·have hz:=of_decide_eq_false z;rw[show litR (r::rs.drop (i+1+done.length+1))=(r::(litR (rs.drop (i+1+done.length+1))).1,(litR (rs.drop (i+1+done.length+1))).2+1) from if_neg hz] at h1 h2;have eX4:=s4 _ _ (s3 _ _ eX);have hdl:=hok.len;refine⟨_,rfl, .inl ⟨rfl,_,SqL.of eX4⟩,_,rfl,X,_,_,rfl,rfl,eX4,by rw[l0,sizeLine_eq];omega,_,?_,some (vS r),done++[r],?_,ak hX (s23.trans s4),?_,?_,?_,rfl⟩
   ·rw[l8];show _ - (_+(_+1)) < _;omega
   ·rw[l8,show (((i+1+done.length:Nat):Int)+1)=((i+1+(done.length+1):Nat):Int) by omega];rfl
   ·rw[aa,l17];rfl
   ·rw[l8,l23];exact h1
   ·rw[l8];show _+1+(litR (rs.drop (i+1+done.length+1))).2=_;omega
 ·have hge:=of_decide_eq_false z;rw[l32 nofun] at h1 h2;have h1:done++[]=_:=h1;have h2:done.length+0=_:=h2;refine hN _ _ ⟨x4,?_,s2.trans s3,?_⟩
  ·rw[<- h2,show ((i+1+done.length:Nat):Int)=((i+(1+(done.length+0)):Nat):Int) by omega]
  ·rw[<- h1,l29];exact s3 _ _ eX
end
inductive TrAt {γ:Type}(R:Hp->Addr->γ->Prop)(G:Hp)(t:Addr)(x:γ×Nat×Nat):Prop
 |mk (a)(_:G t=some (.tup [.ref a, .int x.2.1, .int x.2.2]))(_:R G a x.1)
def pU {γ:Type}{R:Hp->Addr->γ->Prop}(m:MoR R):MoR (TrAt R):=λ_ _ _ _ s ⟨a,e,h⟩=>⟨a,s _ _ e,m _ _ _ _ s h⟩
theorem kz {γ:Type}{R:Hp->Addr->γ->Prop}{G:Hp}:∀{ts:List Addr} {xs:List (γ×Nat×Nat)},Ls (TrAt R G) ts xs->∃as:List Addr,as.length=ts.length/\(∀(i:Nat) t,ts[i]? = some t->∃a x,as[i]? = some a/\xs[i]? = some x/\G t=some (.tup [.ref a, .int x.2.1, .int x.2.2]))/\Ls (R G) as (xs.map (·.1))
 | [],[],_=>⟨[],rfl,(λi t h=>by simp at h),trivial⟩
 |t::ts,x::xs,⟨⟨a,e,r⟩,h⟩=>by
  obtain⟨as,h1,h2,h3⟩:=kz h;refine⟨a::as,by rw[l4,l4,h1],λi u hu=>?_,r,h3⟩;cases i with
  |zero=>cases hu;exact⟨a,x,rfl,rfl,e⟩
  |succ i=>
   obtain⟨a',x',p1,p2,p3⟩:=h2 i u (by simpa using hu);exact⟨a',x',by simpa using p1,by simpa using p2,p3⟩
section
variable {c:Cb}{BT:Addr}{β:Type}{R:Hp->Addr->β->Prop}{rdg:List (List Nat)->β×Nat}
inductive spBlks (R:Hp->Addr->β->Prop)(rdg:List (List Nat)->β×Nat)(d:Nat)(vs:List V)(H:Hp)(Q:VK)(u3:XK):Prop
 |mk (l rs)(_:vs=[.ref l, .int d])(_:H l=some (.lst (rs.map vS)))(_:SmR rs)(_:∀r ts H',Same H H'->H r=none->H' r=some (.lst (ts.map V.ref))->Ls (TrAt R (dif H H')) ts (blkR rdg rs.length 0 rs)->Q (.ref r) H')
abbrev kA:Stmt:=top 90
inductive spQuoteI (c:Cb)(R:Hp->Addr->β->Prop)(inn:List (List Nat)->List β)(d:Nat)(vs:List V)(H:Hp)(Q:VK)(u3:XK):Prop
 |mk (rs i)(_:RwAt vs H rs i d)(_:FndB c R H Q (.quote (inn (tkW fc (decide (d < 4)) (rs.drop i)))) (i+(tkW fc (decide (d < 4)) (rs.drop i)).length))
abbrev dN (c:Cb)(R:Hp->Addr->β->Prop)(rdg:List (List Nat)->β×Nat)(d:Nat):Sp:=spQuoteI c R (λxs=>(blkR rdg xs.length 0 xs).map (·.1)) d
theorem iH:∀(k p:Nat) (rs:List (List Nat)),(blkR rdg k p rs).length<=k
 |0,_,_=>l5 _
 |_+1,_,[]=>l12 _
 |k+1,p,r::rs=>by
  show (if emp r=true then _ else _:List (β×Nat×Nat)).length<=_;split
  ·exact Nat.le_succ_of_le (iH k _ _)
  ·exact Nat.succ_le_succ (iH k _ _)
def dO {d k:Nat}(hk:6<=k)(mR:MoR R)(F:Fun K "quote_at" "quote_at" kA f fd)(T:TxD K mg c BT)(Da:Def P w K mg base 5 "sort_at" p0 (spSortAt K))(DA:Def P w K mg base k "blocks_of" p5 (spBlks R rdg (d+1)))(DB:New P w K mg base 1 "Quote" c.Quote p9 (spInitL c.Quote "blocks")):FnOk P w K mg base CX0 (k+1) f fd p0 (dN c R rdg d):=by
 have sc:FnScope ["rows","place","deep","rests","sort","blocks"] p0 (ad kA):=mkS;refine F.oks sc λ{_ _ _ s vs _}H Q hr h=>?_;obtain⟨rs,i,⟨l,rfl,el,hok⟩,q⟩:=h;refine am (xbc (xst (i:=3) sc.nd (xlst xa0))
  (xbc (xst (i:=4) sc.nd (xcd Da hr (xac (xv 0) (xac (xv 1) (xac (xv 2) xa0)))))
  (xbc (cx PassesOwn.never (az be (xix aw (xv 4) xint (λ_ _=>rfl)) xstr (ai _))
  (xbc (bw (xmA (xv 3) (xac (xix aw (xv 4) xint (λ_ _=>rfl)) xa0)))
  (xb1 (xst (i:=4) sc.nd (xcd Da hr (xac (xv 0) (xac (xop av (xv 1) (xcB aj T.u10 PySem.boot_len (xac (xv 3) xa0))) (xac (xv 2) xa0))))))))
  (xbc (pe (i:=5) (own:=["triple"]) sc.nd
  (xil (xcd DA hr (xac (xv 3) (xac (xop av (xv 2) xint) xa0))))
  (λ_ _ _ _=>xgm (i:=0) (show (["triple"]:List Str).Nodup by decide)) (λ_ _ _ _=>xq0) (λ_ _ _ _=>(xix b9 (xv 0) xint (λ_ _=>rfl))))
  (xb1 (xret (xtup (xac (xnew DB hr.mono (xac (xv 5) xa0)) (xac (xop av (xv 1) (xcB aj T.u10 PySem.boot_len (xac (xv 3) xa0))) xa0))))))))) ?_
 refine iE (K:=K) (f:=fc) (Rl:=λ_ v w=>v=vS w) (l:=l) (rs:=rs) (i:=i) (d:=d) (σt:=[none]) (Pr:=λ_=>True) (λ_=>trivial) rfl (λσ H p s hσ hp=>?_) (λH p s a _ hp ha=>?_) (λ_ _ _ _ _ h=>h) (λ_ _ _ _ _ _ _ _ _ _ h=>h) el hok λX p vs H1 s1 hX eX hz=>?_
 ·refine(aC b7 hσ hp).eq ?_;cases s <;> rfl
 ·cases s with
  |quote w=>cases ha;exact⟨_,_,hp,ag (j:=1) rfl,rfl⟩
  |_=>cases ha
 have hsm:=(hok.drop i).tk (q:=decide (d < 4)) li jB;have hvs:=hz.strs;generalize tkW fc (decide (d < 4)) (rs.drop i)=ws at hsm hvs q;subst hvs;refine⟨_,rfl,_,rfl,_,_,rfl,rfl,X,ws,rfl,eX,hsm,λr ts H2 s2 hr2 er hts=>?_⟩;have hbl:=iH (rdg:=rdg) ws.length 0 ws;have htl:=hts.len;have hwl:=hsm.len;obtain⟨as,ha1,ha2,ha3⟩:=kz hts;refine⟨r,rfl,⟨_,SqL.of er⟩,?_⟩;refine lQ (λj=>(((as.map V.ref)[j]?).getD .non)) (SqL.of er) (by rw[l0,sizeLine_eq];omega) ?_ ?_
 ·intro j x hx H3 s3 C N hC;rw[List.getElem?_map] at hx;cases hj:ts[j]? with
  |none=>rw[hj] at hx;cases hx
  |some t=>
  rw[hj] at hx;cases hx;obtain⟨a,x,p1,p2,p3⟩:=ha2 j t hj;refine⟨(nfLe.refl _ _ _).set ∅ _,iteT (B:=N H3) ⟨_,rfl,t,_,0,_,rfl,rfl,SqT.of (s3 _ _ (dif_same _ _ p3)),ag (j:=0) rfl,?_⟩⟩;have:=hC H3 (Same.refl _);rw[List.getElem?_map,p1] at this;exact this
 intro D H3 hD s3 eD;have eD:H3 D=some (.lst (as.map V.ref)):=by
  rw[eD,l0,<- ha1];congr 2;apply l73;intro j;by_cases hj:j < as.length
  ·rw[List.getElem?_map,List.getElem?_range hj,l81,List.getElem?_map,List.getElem?_eq_getElem hj];rfl
  ·rw[List.getElem?_eq_none (by rw[l0,l41];omega),List.getElem?_eq_none (by rw[l0];omega)]
 dsimp only[tAsg.K0,tDrop.K0,Ends.to_nx,Ends.to_rt,al,sA,sB];refine⟨_,rfl,λy dx hy hd' hyd=>⟨y,dx,D,_,rfl,aa,ini0 hy hd' _ _ eD,λp2 H6 hp2 kx e6p e6y=>⟨rfl,?_⟩⟩⟩;have s36:=ini hy hd' kx;have s13:=(s1.trans s2).trans s3;have hp2':H3 p2=none:=(ini0 hy hd').free hp2;refine⟨_,rfl,_,rfl,X,_,rfl, .inl (SqL.of (((s2.trans s3).trans s36) _ _ eX)),_,_,rfl,rfl,bg2,λt ht=>q.tup mR (s13.trans s36) ⟨dx,p2,by rw[ao (s13.free hy)];exact e6y,as,by rw[ao (s13.free hp2')];exact e6p,ha3.mono λa x=>mR _ _ _ _ (ar s1 (s3.trans s36))⟩ ht ?_⟩;rw[l0];rfl
abbrev jC:Stmt:=top 83
inductive spBlock (c:Cb)(R:Hp->Addr->β->Prop)(rdg:List (List Nat)->BkF β×Nat)(d:Nat)(vs:List V)(H:Hp)(Q:VK)(u3:XK):Prop
 |mk (rs i)(_:RwAt vs H rs i d)(_:FndB c R H Q (rdg (rs.drop i)).1 (i+(rdg (rs.drop i)).2))
def gd {d k:Nat}{rdb:List (List Nat)->BkF β×Nat}(hk:5<=k)(mR:MoR R)(hpos:∀r rs,emp r=false->1<=(rdb (r::rs)).2)(F:Fun K "blocks_of" "blocks_of" jC f fd)(T:TxD K mg c BT)(Dq:Def P w K mg base 5 "is_empty" ["row"] spEmpty)(Yb:Def P w K mg base k "block_at" p0 (spBlock c R rdb d)):FnOk P w K mg base CX0 (k+1) f fd p5 (spBlks (BAtF c R) rdb d):=by
 have sc:FnScope ["rows","deep","triples","place","found"] p5 (ad jC):=mkS;refine F.oks sc λ{_ _ _ s _ _}H Q hr h=>?_;obtain⟨l,rs,rfl,el,hok,q⟩:=h;refine am (xbc (xst (i:=2) sc.nd (xlst xa0))
  (xbc (xst (i:=3) sc.nd xint)
  (xbc (cx PassesOwn.never (az db (xv 3) (xcB aj T.u10 PySem.boot_len (xac (xv 0) xa0)) (ai _))
  (xbc (xif (aZ (xcd Dq hr (xac (xix aT (xv 0) (xv 3) (λ_ _=>rfl)) xa0))) (xbc (xaug (i:=3) sc.nd rfl (Or.inl rfl) xint fq)
  (xb1 rT)) xb0)
  (xbc (xst (i:=4) sc.nd (xcd Yb hr (xac (xv 0) (xac (xv 3) (xac (xv 1) xa0)))))
  (xbc (bw (xmA (xv 2) (xac (xtup (xac (xix aw (xv 4) xint (λ_ _=>rfl)) (xac (xv 3) (xac (xix aw (xv 4) xint (λ_ _=>rfl)) xa0)))) xa0)))
  (xb1 (xst (i:=3) sc.nd (xix aw (xv 4) xint (λ_ _=>rfl))))))))
  (xb1 (xret (xv 2)))))) ?_
 rw[uh];refine⟨bg0,λX hX=>?_⟩;have s1:=ac hX (.lst []);have e1:upd H X (.lst []) X=some (.lst []):=aa;dsimp only[tAsg.K0,tDrop.K0,Ends.to_nx,Ends.to_rt,al,sA,sB];generalize upd H X (.lst [])=H1 at s1 e1 ⊢;refine ny ?_;dsimp only[tAsg.K0,tDrop.K0,Ends.to_nx,Ends.to_rt,al,sA,sB];have w6:=hok.len;have mT:=pU (c7 (c:=c) mR);refine ce (λm σ H'=>∃(x4:Option V) (p k':Nat) (ts:List Addr) (dn:List (BkF β×Nat×Nat)),σ=[some (.ref l),some (.int d),some (.ref X),some (.int (p:Int)),x4]/\Same H H'/\H' X=some (.lst (ts.map V.ref))/\(NewQ H [X] H' λG=>Ls (TrAt (BAtF c R) G) ts dn)/\dn++blkR rdb k' p (rs.drop p)=blkR rdb rs.length 0 rs/\rs.length - p<=k'/\ts.length<=p/\m=rs.length - p) rs.length ⟨none,0,rs.length,[],[],rfl,s1,e1,NewQ.triv trivial,rfl,Nat.sub_le _ _,l12 _,rfl⟩ ?_;rintro m σ H2 ⟨x4,p,k',ts,dn,rfl,s2,eX,hn,hrun,hk',htp,rfl⟩;refine⟨decide (p < rs.length),cS (ev_v rfl) (eg (K:=K) (ta:=tVar 0) (ev_v rfl) (.inl (SqL.of (s2 _ _ el)))) (f9 (by rw[l0];omega)),λz H3 s3=>?_,λz H3 s3=>?_⟩
 ·have hlt:=of_decide_eq_true z;obtain⟨k2,rfl⟩:∃k2,k'=k2+1:=⟨k' - 1,by omega⟩;have hdr:=l25 hlt;have hrm:=l34 hlt;have hat:(rs.map vS)[p]? = some (vS rs[p]):=by rw[List.getElem?_map,List.getElem?_eq_getElem hlt];rfl
  rw[hdr] at hrun;generalize rs[p]=r at hrun hrm hat hdr;have hrl:=hok.row hrm;have s23:=s2.trans s3;have tf:Tells (tB (tCall spEmpty [] E0 (tCons (tOp (rIxL K) (tVar 0) (tVar 3)) tNil))) [some (.ref l),some (.int d),some (.ref X),some (.int (p:Int)),x4] H3 (emp r):=λR' k=>⟨_,rfl,_,rfl,l,_,_,_,rfl,rfl,SqL.of (s23 _ _ el),ag hat,r,rfl,by omega,λH4 s4=>⟨_,rfl,k H4 s4⟩⟩;refine s_if _ tf (λH4 s4 z=>?_) λH4 s4 z=>?_
  ·refine⟨_,rfl,_,_,rfl,rfl,?_⟩;dsimp only[tAsg.K0,tDrop.K0,Ends.to_nx,Ends.to_rt,al,sA,sB];rw[show blkR rdb (k2+1) p (r::rs.drop (p+1))=blkR rdb k2 (p+1) (rs.drop (p+1)) from if_pos z] at hrun;exact⟨_,(show rs.length - (p+1) < rs.length - p by omega),x4,p+1,k2,ts,dn,rfl,s23.trans s4,s4 _ _ (s3 _ _ eX),(hn.same s3).same s4,hrun,by omega,by omega,rfl⟩
  ·rw[show blkR rdb (k2+1) p (r::rs.drop (p+1))=((rdb (r::rs.drop (p+1))).1,p,p+(rdb (r::rs.drop (p+1))).2)::blkR rdb k2 (p+(rdb (r::rs.drop (p+1))).2) ((r::rs.drop (p+1)).drop (rdb (r::rs.drop (p+1))).2) from if_neg (by rw[z];exact Bool.noConfusion)] at hrun;have hp1:=hpos r (rs.drop (p+1)) z;rw[<- hdr] at hrun hp1;have s24:=s23.trans s4;have eX4:=s4 _ _ (s3 _ _ eX);refine⟨_,rfl,_,rfl,_,rfl,rs,p,⟨l,rfl,s24 _ _ el,hok⟩,λt a H5 s5 ht et hb=>?_⟩;generalize rdb (rs.drop p)=x at hrun hp1 et hb;obtain⟨b,n⟩:=x;dsimp only[tAsg.K0,tDrop.K0,Ends.to_nx,Ends.to_rt,al,sA,sB];have eX5:=s5 _ _ eX4;refine⟨_,rfl, .inl ⟨rfl,_,SqL.of eX5⟩,_,rfl,t,_,0,_,rfl,rfl,SqT.of et,ag (j:=0) rfl,_,rfl,_,rfl,t,_,1,_,rfl,rfl,SqT.of et,ag (j:=1) rfl,bg3,λt2 ht2=>?_⟩;have htX:X≠t2:=λz=>by rw[<- z,eX5] at ht2;cases ht2
   have s6:=ac ht2 (.tup [.ref a, .int p, .int ((p+n:Nat):Int)]);refine⟨X,_,_,rfl,rfl,s6 _ _ eX5,by rw[l0,sizeLine_eq];omega,?_⟩;have sU:Same H (upd (upd H5 t2 (.tup [.ref a, .int p, .int ((p+n:Nat):Int)])) X (.lst (ts.map V.ref++[.ref t2]))):=ak hX ((s24.trans s5).trans s6);have htt:X≠t:=λz=>by rw[<- z,eX4] at ht;cases ht
   refine⟨_,rfl,t,_,1,_,rfl,rfl,SqT.of ((af (Ne.symm htt)).trans (s6 _ _ et)),ag (j:=1) rfl,?_⟩;dsimp only[tAsg.K0,tDrop.K0,Ends.to_nx,Ends.to_rt,al,sA,sB];refine⟨_,(show rs.length - (p+n) < rs.length - p by omega),some (.ref t),p+n,k2,ts++[t2],dn++[(b,p,p+n)],rfl,sU,by rw[aa,l17];rfl,?_,?_,by omega,by rw[l8];show _+1<=_;omega,rfl⟩
   ·refine NewQ.upd ?_ l10;refine NewQ.join ((((hn.same s3).same s4).same s5).same s6) (NewQ.of (H3:=H4) (R:=λG=>TrAt (BAtF c R) G t2 (b,p,p+n)) s24 (λb' hb' z=>?_) ⟨a,?_,c7 mR _ _ _ _ (ar (Same.refl _) s6) hb⟩) (λG G' s h=>h.mono λa x=>mT _ _ _ _ s) (λG G' s h=>mT _ _ _ _ s h) λG h1 h2=>h1.snoc h2
    ·rw[l14.mp hb',eX4] at z;cases z
    ·rw[ao (s5.free ht2)];exact aa
   ·rw[l23,<- l18];exact hrun
 ·have hge:=of_decide_eq_false z;rw[l32 nofun] at hrun;have hb0:blkR rdb k' p []=[]:=by cases k' <;> rfl
  rw[hb0,l29] at hrun;refine⟨_,rfl,q X ts H3 (s2.trans s3) hX (s3 _ _ eX) ?_⟩;rw[<- hrun];exact(hn.same s3).dif λG G' s h=>h.mono λa x=>mT _ _ _ _ s
end
def ItAt (G:Hp)(t:Addr)(x:Itm):Prop:=G t=some (.tup [.int x.1,vS [x.2.1],vS x.2.2])
def jD:MoR ItAt:=λ_ _ _ _ s h=>s _ _ h
def sR {n:Nat}(h:n=43 ∨ n=45):lW (decide (n=43))=[n]:=by rcases h with rfl |rfl <;> rfl
section
variable {c:Cb}{BT:Addr}
abbrev sEnt:Stmt:=top 96
inductive spEnt (c:Cb)(n:Nat)(vs:List V)(H:Hp)(Q:VK)(u3:XK):Prop
 |mk (l:Addr)(its:List Itm)(p:Nat)(_:vs=[.ref l, .int p, .int ((6 - n:Nat):Int)])(_:LAt ItAt H l its)(_:OkI its)(_:∀x∈its,x.1<=5)(_:∀t r H',Same H H'->H' t=some (.tup [.ref r, .int ((p+(entR n (its.drop p)).2:Nat):Int)])->LAt (EAt c n) (dif H H') r (entR n (its.drop p)).1->Q (.ref t) H')
def ge {n k:Nat}{spI:Sp}(hk:6<=k)(hn6:n<=6)(hI:∀j,n=j+1->∀vs H Q E,spEnt c j vs H Q E->spI vs H Q E)(F:Fun K "entries_from" "entries_from" sEnt f fd)(T:TxD K mg c BT)(Yc:Def P w K mg base k "entries_from" p6 spI)(Db:Def P w K mg base 6 "parts_of" ["text"] (spPartsOf c.cp))(Dj:New P w K mg base 1 "Entry" c.Entry p18 (spInitE c.Entry)):FnOk P w K mg base CX0 (k+1) f fd p6 (spEnt c n):=by
 have sc:FnScope ["items","place","level","entries","item","within"] p6 (ad sEnt):=mkS;refine F.oks sc λ{_ _ _ s _ _}H Q hr h=>?_;obtain⟨l,its,p,rfl,⟨ts,el,hts⟩,hok,h5,q⟩:=h;refine am (xbc (xst (i:=3) sc.nd (xlst xa0))
  (xbc (cx PassesOwn.never (xand (az db (xv 1) (xcB aj T.u10 PySem.boot_len (xac (xv 0) xa0)) (ai _)) (jR (az mx (xix aw (xix aT (xv 0) (xv 1) (λ_ _=>rfl)) xint (λ_ _=>rfl)) (xv 2) (ai _)))).xt
  (xbc (xst (i:=4) sc.nd (xix aT (xv 0) (xv 1) (λ_ _=>rfl)))
  (xbc (xst (i:=5) sc.nd (xcd Yc hr (xac (xv 0) (xac (xop av (xv 1) xint) (xac (xop av (xv 2) xint) xa0)))))
  (xbc (bw (xmA (xv 3) (xac (xnew Dj hr.mono (xac (xix aw (xv 4) xint (λ_ _=>rfl)) (xac (xcd Db hr (xac (xix aw (xv 4) xint (λ_ _=>rfl)) xa0)) (xac (xix aw (xv 5) xint (λ_ _=>rfl)) xa0)))) xa0)))
  (xb1 (xst (i:=1) sc.nd (xix aw (xv 5) xint (λ_ _=>rfl))))))))
  (xb1 (xret (xtup (xac (xv 3) (xac (xv 1) xa0))))))) ?_
 rw[ui];refine⟨bg0,λX hX=>?_⟩;have s1:=ac hX (.lst []);have e1:upd H X (.lst []) X=some (.lst []):=aa;dsimp only[tAsg.K0,tDrop.K0,Ends.to_nx,Ends.to_rt,al,sA,sB];generalize upd H X (.lst [])=H1 at s1 e1 ⊢;have htl:=hts.len;have hil:=hok.1;refine bG (λσ H'=>∃(x4 x5:Option V) (es:List Addr),σ=[some (.ref l),some (.int ((p+(entR n (its.drop p)).2:Nat):Int)),some (.int ((6 - n:Nat):Int)),some (.ref X),x4,x5]/\Same H H'/\H' X=some (.lst (es.map V.ref))/\NewQ H [X] H' λG=>Ls (EAt c n G) es (entR n (its.drop p)).1) (λN hN=>?_) ?_;rotate_left
 ·rintro σ H' ⟨x4,x5,es,rfl,s',eX,hn⟩;refine⟨_,rfl,_,rfl,bg2,λt ht=>q t X _ (s'.trans (ac ht _)) aa ⟨es,?_,?_⟩⟩
  ·rw[ao hX];exact ac ht _ _ _ eX
  ·exact(hn.same (ac ht _)).dif λG G' s h=>h.mono λa x=>dG n _ _ _ _ s
 have tl:∀{H':Hp} {p':Nat} {x4 x5:Option V},Same H H'->Tells (tAnd (tTest (tOp (rI0 λi j=>V.bl (decide (i < j))) (tVar 1) (tCB (R_call_len_seq K) (tCons (tVar 0) tNil)))) (tTest (tOp (rI0 λi j=>V.bl (decide (j<=i))) (tOp (rIxT K) (tOp (rIxL K) (tVar 0) (tVar 1)) (tC (.int 0))) (tVar 2)))) [some (.ref l),some (.int (p':Int)),some (.int ((6 - n:Nat):Int)),some (.ref X),x4,x5] H' (match its[p']? with |none=>false |some x=>decide (6 - n<=x.1)):=λ{H' p' x4 x5} s'=>by
  cases hx:its[p']? with
  |none=>
   have hge:=List.getElem?_eq_none_iff.mp hx;exact eZ false false (cS (ev_v rfl) (eg (K:=K) (ta:=tVar 0) (ev_v rfl) (.inl (SqL.of (s' _ _ el)))) (by rw[l0,decide_eq_false nofun])) λz=>nomatch z
  |some x=>
   have hlt:=(List.getElem?_eq_some_iff.mp hx).1;obtain⟨t,ht⟩:∃t,ts[p']? = some t:=⟨_,List.getElem?_eq_getElem nofun⟩;have hat:(ts.map V.ref)[p']? = some (.ref t):=by rw[List.getElem?_map,ht];rfl
   obtain⟨a,x',hv,hx',_,hit⟩:=hts.get hat;cases hv;rw[hx] at hx';cases hx';exact Tells.eq (eZ true (decide (6 - n<=x.1)) (cS (ev_v rfl) (eg (K:=K) (ta:=tVar 0) (ev_v rfl) (.inl (SqL.of (s' _ _ el)))) (by rw[l0,decide_eq_true nofun])) λ_ H2 s2=>cS (λR' k=>⟨_,rfl,_,rfl,l,_,_,_,rfl,rfl,SqL.of ((s'.trans s2) _ _ el),ag hat,t,_,0,_,rfl,rfl,SqT.of ((s'.trans s2) _ _ hit),ag (j:=0) rfl,k⟩) (ev_v rfl) (f9 nofun)) (Bool.true_and _)
 cases n with
 |zero=>
  refine ce (λm σ H'=>σ=[some (.ref l),some (.int (p:Int)),some (.int ((6 - 0:Nat):Int)),some (.ref X),none,none]/\H'=H1) 0 ⟨rfl,rfl⟩ ?_;rintro m σ _ ⟨rfl,rfl⟩;refine⟨false,(tl s1).eq ?_,(λz=>Bool.noConfusion z),λ_ H2 s2=>hN _ _ ⟨none,none,[],rfl,s1.trans s2,s2 _ _ e1,NewQ.triv trivial⟩⟩;cases hx:its[p]? with
  |none=>rfl
  |some x=>
   have:=h5 x (l15 hx);exact decide_eq_false nofun
 |succ j=>
  have elv:6 - (j+1)=5 - j:=by omega
  refine ce (λm σ H'=>∃(x4 x5:Option V) (p' k':Nat) (es:List Addr) (dn:List (EnF (En j))),σ=[some (.ref l),some (.int (p':Int)),some (.int ((6 - (j+1):Nat):Int)),some (.ref X),x4,x5]/\Same H H'/\H' X=some (.lst (es.map V.ref))/\(NewQ H [X] H' λG=>Ls (EAt c (j+1) G) es dn)/\dn++(entF (entR j) (5 - j) k' (its.drop p')).1=(entF (entR j) (5 - j) (its.drop p).length (its.drop p)).1/\p'+(entF (entR j) (5 - j) k' (its.drop p')).2=p+(entF (entR j) (5 - j) (its.drop p).length (its.drop p)).2/\its.length - p'<=k'/\es.length<=p'/\m=its.length - p') (its.length - p) ⟨none,none,p,(its.drop p).length,[],[],rfl,s1,e1,NewQ.triv trivial,rfl,rfl,by rw[l9];exact l5 _,l12 _,rfl⟩ ?_;rintro m σ H2 ⟨x4,x5,p',k',es,dn,rfl,s2,eX,hn,hrun,hend,hk',hes,rfl⟩;refine⟨_,tl s2,λz H3 s3=>?_,λz H3 s3=>?_⟩
  ·cases hx:its[p']? with
   |none=>rw[hx] at z;cases z
   |some x=>
   rw[hx] at z;have hlv:=of_decide_eq_true z;obtain⟨hlt,hxe⟩:=List.getElem?_eq_some_iff.mp hx;obtain⟨hsg,hwl,hwa⟩:=hok.2 x (l15 hx);obtain⟨t,ht⟩:∃t,ts[p']? = some t:=⟨_,List.getElem?_eq_getElem nofun⟩;have hat:(ts.map V.ref)[p']? = some (.ref t):=by rw[List.getElem?_map,ht];rfl
   obtain⟨a,x',hv,hx',_,hit⟩:=hts.get hat;cases hv;rw[hx] at hx';cases hx';obtain⟨k2,rfl⟩:∃k2,k'=k2+1:=⟨k' - 1,by omega⟩;have hdr:its.drop p'=x::its.drop (p'+1):=by rw[l25 hlt,hxe]
   rw[hdr,show entF (entR j) (5 - j) (k2+1) (x::its.drop (p'+1))=(⟨decide (x.2.1=43),bn x.2.2,(entR j (its.drop (p'+1))).1⟩::(entF (entR j) (5 - j) k2 ((its.drop (p'+1)).drop (entR j (its.drop (p'+1))).2)).1,1+(entR j (its.drop (p'+1))).2+(entF (entR j) (5 - j) k2 ((its.drop (p'+1)).drop (entR j (its.drop (p'+1))).2)).2) from if_pos nofun] at hrun hend;have s23:=s2.trans s3;refine⟨_,rfl,_,rfl,l,_,_,_,rfl,rfl,SqL.of (s23 _ _ el),ag hat,?_⟩;dsimp only[tAsg.K0,tDrop.K0,Ends.to_nx,Ends.to_rt,al,sA,sB];refine⟨_,rfl,_,rfl,_,_,rfl,rfl,_,rfl,_,_,rfl,rfl,hI j rfl _ _ _ _ ⟨l,its,p'+1,?_,⟨ts,s23 _ _ el,hts.mono λa x=>jD _ _ _ _ s23⟩,hok,h5,λt5 r H4 s4 et5 hr5=>?_⟩⟩
   ·rw[show ((6 - j:Nat):Int)=((6 - (j+1):Nat):Int)+1 by omega];rfl
   generalize entR j (its.drop (p'+1))=ein at hrun hend et5 hr5;obtain⟨ew,en⟩:=ein;obtain⟨bs,er5,hbs⟩:=hr5;dsimp only[tAsg.K0,tDrop.K0,Ends.to_nx,Ends.to_rt,al,sA,sB];have eX3:=s3 _ _ eX;have eX4:=s4 _ _ eX3;have hit4:=s4 _ _ (s23 _ _ hit);refine⟨_,rfl, .inl ⟨rfl,_,SqL.of eX4⟩,_,rfl,t,_,1,_,rfl,rfl,SqT.of hit4,ag (j:=1) rfl,_,rfl,t,_,2,_,rfl,rfl,SqT.of hit4,ag (j:=2) rfl,x.2.2,rfl,by omega,hwa,λr2 as H5 s5 hr2 er2 hps=>?_⟩;refine⟨_,rfl,t5,_,0,_,rfl,rfl,SqT.of (s5 _ _ et5),ag (j:=0) rfl,λy dx hy hd' hyd=>⟨y,dx,_,r2,_,r,_,rfl,aa,ini0 hy hd' _ _ er2,ini0 hy hd' _ _ (s5 _ _ (dif_same _ _ er5)),λp2 p3 H6 hp2 hp3 kx e6p e6r e6y=>⟨rfl,?_⟩⟩⟩;have s56:=ini hy hd' kx;have s46:=s5.trans s56;have s36:=s4.trans s46;have eX6:=s36 _ _ eX3;refine⟨X,_,_,rfl,rfl,eX6,by rw[l0,sizeLine_eq];omega,?_⟩;have hXt:t5≠X:=(nq eX4 et5);refine⟨_,rfl,t5,_,1,_,rfl,rfl,SqT.of ((af hXt).trans (s46 _ _ et5)),ag (j:=1) rfl,?_⟩;dsimp only[tAsg.K0,tDrop.K0,Ends.to_nx,Ends.to_rt,al,sA,sB];have hp2':H5 p2=none:=(ini0 hy hd').free hp2;have hp3':H5 p3=none:=(ini0 hy hd').free hp3;have s35:=s4.trans s5;refine⟨_,(show its.length - (p'+1+en) < its.length - p' by omega),some (.ref t),some (.ref t5),p'+1+en,k2,es++[y],dn++[⟨decide (x.2.1=43),bn x.2.2,ew⟩],rfl,ak hX (s23.trans s36),by rw[aa,l17];rfl,?_,?_,?_,by omega,by rw[l8];show _+1<=_;omega,rfl⟩
   ·refine NewQ.upd ?_ l10;refine NewQ.join ((hn.same s3).same s36) (NewQ.of (H3:=H3) (R:=λG=>EAt c (j+1) G y ⟨decide (x.2.1=43),bn x.2.2,ew⟩) s23 (λb' hb' z=>?_) ⟨dx,p2,p3,?_,⟨as,?_,hps.same (ar s4 s56)⟩,bs,?_,hbs.mono λa x=>dG j _ _ _ _ (ar (Same.refl _) s46)⟩) (λG G' s h=>h.mono λa x=>dG (j+1) _ _ _ _ s) (λG G' s h=>dG (j+1) _ _ _ _ s h) λG h1 h2=>h1.snoc h2
    ·rw[l14.mp hb',eX3] at z;cases z
    ·rw[ao (s35.free hy),e6y];show _=some (HO.ins c.Entry dx [("sign",vS (lW (decide (x.2.1=43)))),_,_]);rw[sR hsg]
    ·rw[ao (s35.free hp2')];exact e6p
    ·rw[ao (s35.free hp3')];exact e6r
   ·rw[l23,<- l18];exact hrun
   ·rw[<- l18];have hend:p'+(1+en+(entF (entR j) (5 - j) k2 ((its.drop (p'+1)).drop en)).2)=_:=hend;omega
  ·have hstop:entF (entR j) (5 - j) k' (its.drop p')=([],0):=by
    cases k' with
    |zero=>rfl
    |succ k2=>
     cases hx:its[p']? with
     |none=>rw[l32 (List.getElem?_eq_none_iff.mp hx)];rfl
     |some x=>
      rw[hx] at z;have:=of_decide_eq_false z;obtain⟨hlt,hxe⟩:=List.getElem?_eq_some_iff.mp hx;rw[l25 hlt,hxe];exact if_neg nofun
   rw[hstop] at hrun hend;have hrun:dn++[]=_:=hrun;have hend:p'+0=_:=hend;refine hN _ _ ⟨x4,x5,es,?_,s2.trans s3,s3 _ _ eX,?_⟩
   ·rw[show entR (j+1) (its.drop p)=entF (entR j) (5 - j) (its.drop p).length (its.drop p) from rfl,<- hend];rfl
   ·rw[show entR (j+1) (its.drop p)=entF (entR j) (5 - j) (its.drop p).length (its.drop p) from rfl,<- hrun,l29];exact hn.same s3
end
section
variable {c:Cb}{BT:Addr}{β:Type}{R:Hp->Addr->β->Prop}
abbrev sLvl:Stmt:=top 95
inductive spLvl (vs:List V)(H:Hp)(Q:VK)(u3:XK):Prop
 |mk (l:Addr)(its:List Itm)(_:vs=[.ref l])(_:LAt ItAt H l its)(_:its≠[])(_:its.length<=900)(_:∀r H',Same H H'->H r=none->LAt ItAt (dif H H') r (lvs its)->Q (.ref r) H')
def uL (F:Fun K "leveled" "leveled" sLvl f fd)(T:TxD K mg c BT):FnOk P w K mg base CX0 1 f fd ["items"] spLvl:=by
 have sc:FnScope ["items","told","first","level","far","sign","words"] ["items"] (ad sLvl):=mkS;refine F.oks sc λ{_ _ _ s _ _}H Q hr h=>?_;obtain⟨l,its,rfl,⟨ts,el,hts⟩,hne,hil,q⟩:=h;refine am (xbc (xst (i:=1) sc.nd (xlst xa0))
  (xbc (xst (i:=2) sc.nd (xix aw (xix aT (xv 0) xint (λ_ _=>rfl)) xint (λ_ _=>rfl)))
  (xbc (xst (i:=3) sc.nd (xun gw xint))
  (xbc (xfor PassesOwn.never rfl (xil (xv 0)) (xgt rfl (xgsc (xgm (i:=4) sc.nd) (xgsc (xgm (i:=5) sc.nd) (xgsc (xgm (i:=6) sc.nd) xgs0))))
  (xbc (xst (i:=3) sc.nd (xcB (nU rfl) T.z15 rfl (xac (xcB (my rfl) T.z13 rfl (xac xint (xac (xop dW (xop bM (xv 4) (xv 2)) xint) xa0))) (xac (xop bM (xgI T.g15) xint) (xac (xop av (xv 3) xint) xa0)))))
  (xb1 (bw (xmA (xv 1) (xac (xtup (xac (xv 3) (xac (xv 5) (xac (xv 6) xa0)))) xa0))))))
  (xb1 (xret (xv 1))))))) ?_
 rw[u2];have htl:=hts.len;refine⟨bg0,λX hX=>?_⟩;have s1:=ac hX (.lst []);have e1:upd H X (.lst []) X=some (.lst []):=aa;dsimp only[tAsg.K0,tDrop.K0,Ends.to_nx,Ends.to_rt,al,sA,sB];generalize upd H X (.lst [])=H1 at s1 e1 ⊢;obtain⟨x0,ir,rfl⟩:∃x0 ir,its=x0::ir:=by cases its with |nil=>exact absurd rfl hne |cons a b=>exact⟨a,b,rfl⟩
 obtain⟨t0,tr,rfl⟩:∃t0 tr,ts=t0::tr:=by cases ts with |nil=>cases htl |cons a b=>exact⟨a,b,rfl⟩
 refine⟨_,rfl,l,_,0,_,rfl,rfl,SqL.of (s1 _ _ el),ag (j:=0) rfl,t0,_,0,_,rfl,rfl,SqT.of (s1 _ _ hts.1),ag (j:=0) rfl,?_⟩;dsimp only[tAsg.K0,tDrop.K0,Ends.to_nx,Ends.to_rt,al,sA,sB];refine⟨1,rfl,?_⟩;dsimp only[tAsg.K0,tDrop.K0,Ends.to_nx,Ends.to_rt,al,sA,sB];refine⟨_,rfl,l,rfl,⟨_,SqL.of (s1 _ _ el)⟩,?_⟩;refine cC (xs:=(t0::tr).map V.ref) (λi σ H'=>∃(pv:Nat) (x4 x5 x6:Option V) (rs:List Addr) (dn:List Itm),σ=[some (.ref l),some (.ref X),some (.int (x0.1:Int)),some (.int ((pv:Int) - 1)),x4,x5,x6]/\Same H H'/\H' X=some (.lst (rs.map V.ref))/\(NewQ H [X] H' λG=>Ls (ItAt G) rs dn)/\dn++lvR x0.1 pv ((x0::ir).drop i)=lvs (x0::ir)/\rs.length=i) ⟨0,none,none,none,[],[],rfl,s1,e1,NewQ.triv trivial,rfl,rfl⟩ ?_ ?_ ?_
 ·rintro i σ H3 _ ⟨_,_,_,_,_,_,_,s3,_⟩;exact SqL.of (s3 _ _ el)
 ·rintro i v σ H3 hv ⟨pv,x4,x5,x6,rs,dn,rfl,s3,eX,hn,hrun,hrl⟩;obtain⟨t,x,rfl,hx,hdr,hit⟩:=hts.get hv;have hlt:=(List.getElem?_eq_some_iff.mp hx).1;rw[hdr] at hrun;refine⟨t,_,rfl,SqT.of (s3 _ _ hit),rfl,_,_,rfl,_,_,rfl,_,_,rfl,rfl,?_⟩;dsimp only[tAsg.K0,tDrop.K0,Ends.to_nx,Ends.to_rt,al,sA,sB];refine⟨_,rfl,_,rfl,_,_,rfl,rfl,_,_,rfl,rfl,⟨by decide,by decide⟩,_,_,rfl,_,_,rfl,rfl,_,rfl,_,_,rfl,rfl,_,_,_,rfl,?_⟩;dsimp only[tAsg.K0,tDrop.K0,Ends.to_nx,Ends.to_rt,al,sA,sB];have elv:min (min (if ((x.1:Int) - (x0.1:Int)) / 2 > 0 then ((x.1:Int) - (x0.1:Int)) / 2 else 0) (6 - 1)) ((pv:Int) - 1+1)=((lvl x0.1 pv x.1:Nat):Int):=by
   unfold lvl;split <;> omega
  rw[elv];refine⟨_,rfl, .inl ⟨rfl,_,SqL.of eX⟩,_,rfl,_,rfl,_,rfl,bg3,λt2 ht2=>?_⟩;have s4:=ac ht2 (.tup [.int ((lvl x0.1 pv x.1:Nat):Int),vS [x.2.1],vS x.2.2]);refine⟨X,_,_,rfl,rfl,s4 _ _ eX,by rw[l0,sizeLine_eq];omega,?_⟩;refine⟨lvl x0.1 pv x.1+1,some (.int (x.1:Int)),some (vS [x.2.1]),some (vS x.2.2),rs++[t2],dn++[(lvl x0.1 pv x.1,x.2.1,x.2.2)],?_,ak hX (s3.trans s4),by rw[aa,l17];rfl,?_,by rw[l23];exact hrun,by rw[l8,hrl];rfl⟩
  ·rw[show (((lvl x0.1 pv x.1+1:Nat):Int) - 1)=((lvl x0.1 pv x.1:Nat):Int) by omega]
  ·refine NewQ.upd ?_ l10;refine NewQ.join (hn.same s4) (NewQ.of (H3:=H3) (R:=λG=>ItAt G t2 (lvl x0.1 pv x.1,x.2.1,x.2.2)) s3 (λb' hb' z=>?_) ?_) (λG G' s h=>h.mono λa x=>jD _ _ _ _ s) (λG G' s h=>jD _ _ _ _ s h) λG h1 h2=>h1.snoc h2
   ·rw[l14.mp hb',eX] at z;cases z
   ·show dif _ _ _=_;rw[ao ht2];exact aa
 ·rintro σ H3 ⟨pv,x4,x5,x6,rs,dn,rfl,s3,eX,hn,hrun,hrl⟩;rw[l0,htl,l46] at hrun;have hrun:dn++[]=_:=hrun;refine⟨_,rfl,q X H3 s3 hX ⟨rs,by rw[ao hX];exact eX,?_⟩⟩;rw[<- hrun,l29];exact hn.dif λG G' s h=>h.mono λa x=>jD _ _ _ _ s
abbrev oe:Stmt:=top 94
inductive spListA (c:Cb)(R:Hp->Addr->β->Prop)(vs:List V)(H:Hp)(Q:VK)(u3:XK):Prop
 |mk (rs i d)(_:RwAt vs H rs i d)(_:aW (aG (decide (d < 4)) (rs.drop i))=g9)(_:FndB c R H Q (.lst (entR 6 (lvs (itR (decide (d < 4)) (rs.drop i).length (rs.drop i)).1)).1) (i+(itR (decide (d < 4)) (rs.drop i).length (rs.drop i)).2))
def dQ {k:Nat}(hk:6<=k)(mR:MoR R)(F:Fun K "list_at" "list_at" oe f fd)(T:TxD K mg c BT)(Da:Def P w K mg base 5 "sort_at" p0 (spSortAt K))(Dd:Def P w K mg base 6 "further_words" p0 spFurther)(Dr:Def P w K mg base 1 "leveled" ["items"] spLvl)(Yc:Def P w K mg base k "entries_from" p6 (spEnt c 6))(Ds:New P w K mg base 1 "Listing" c.Listing p14 (spInitL c.Listing "entries")):FnOk P w K mg base CX0 (k+1) f fd p0 (spListA c R):=by
 have sc:FnScope ["rows","place","deep","items","sort","words"] p0 (ad oe):=mkS;refine F.oks sc λ{_ _ _ s _ _}H Q hr h=>?_;obtain⟨rs,i,d,⟨l,rfl,el,hok⟩,hkd,q⟩:=h;refine am (xbc (xst (i:=3) sc.nd (xlst xa0))
  (xbc (xst (i:=4) sc.nd (xcd Da hr (xac (xv 0) (xac (xv 1) (xac (xv 2) xa0)))))
  (xbc (cx PassesOwn.never (az be (xix aw (xv 4) xint (λ_ _=>rfl)) xstr (ai _))
  (xbc (xst (i:=5) sc.nd (xop bN (xlst (xac (xix aw (xv 4) xint (λ_ _=>rfl)) xa0)) (xcd Dd hr (xac (xv 0) (xac (xop av (xv 1) xint) (xac (xv 2) xa0))))))
  (xbc (bw (xmA (xv 3) (xac (xtup (xac (xix aw (xv 4) xint (λ_ _=>rfl)) (xac (xix aw (xv 4) xint (λ_ _=>rfl)) (xac (xm plainAttrs_str slot_str_join type_str_join b8 xstr (xac (xv 5) xa0)) xa0)))) xa0)))
  (xbc (xaug (i:=1) sc.nd rfl (Or.inl rfl) (xcB aj T.u10 PySem.boot_len (xac (xv 5) xa0)) fq)
  (xb1 (xst (i:=4) sc.nd (xcd Da hr (xac (xv 0) (xac (xv 1) (xac (xv 2) xa0))))))))))
  (xb1 (xret (xtup (xac (xnew Ds hr.mono (xac (xix aw (xcd Yc hr (xac (xcd Dr hr (xac (xv 3) xa0)) (xac xint (xac xint xa0)))) xint (λ_ _=>rfl)) xa0)) (xac (xv 1) xa0)))))))) ?_
 rw[ui];generalize hq:decide (d < 4)=qq at hkd q;have hrl:=hok.len;refine⟨bg0,λX hX=>?_⟩;have s1:=ac hX (.lst []);have e1:upd H X (.lst []) X=some (.lst []):=aa;dsimp only[tAsg.K0,tDrop.K0,Ends.to_nx,Ends.to_rt,al,sA,sB];generalize upd H X (.lst [])=H1 at s1 e1 ⊢;refine⟨_,rfl,_,rfl,_,rfl,l,rs,i,d,rfl,s1 _ _ el,hok,λp H2 s2 hp=>?_⟩;rw[hq] at hp;dsimp only[tAsg.K0,tDrop.K0,Ends.to_nx,Ends.to_rt,al,sA,sB];refine bG (λσ H'=>∃(x4 x5:Option V) (ts:List Addr),σ=[some (.ref l),some (.int ((i+(itR qq (rs.drop i).length (rs.drop i)).2:Nat):Int)),some (.int d),some (.ref X),x4,x5]/\Same H H'/\H' X=some (.lst (ts.map V.ref))/\(NewQ H [X] H' λG=>Ls (ItAt G) ts (itR qq (rs.drop i).length (rs.drop i)).1)/\OkI (itR qq (rs.drop i).length (rs.drop i)).1) (λN hN=>?_) ?_;rotate_left
 ·rintro σ H' ⟨x4,x5,ts,rfl,s',eX,hn,hoi⟩;have hne:(itR qq (rs.drop i).length (rs.drop i)).1≠[]:=by
   obtain⟨a,b,x,e⟩:=f7 hkd;cases hd:rs.drop i with
   |nil=>rw[hd] at e;cases e
   |cons r rr=>
    rw[hd] at e;rw[l4,itR,e];simp
  generalize (itR qq (rs.drop i).length (rs.drop i))=z at hne hn hoi q;obtain⟨its,n⟩:=z;obtain⟨ho1,ho2⟩:=hoi.lvs;refine⟨_,rfl,X,its,rfl,⟨ts,eX,?_⟩,hne,hoi.1,λr H3 s3 hr3 hl3=>?_⟩
  ·obtain⟨G,g1,_,_,g2⟩:=hn;exact g2.mono λa x=>jD _ _ _ _ g1
  refine⟨r,lvs its,0,rfl,hl3.same jD dif_same,ho1,ho2,λt r2 H4 s4 et hl4=>?_⟩;obtain⟨bs,er,hbs⟩:=hl4;refine⟨t,_,0,_,rfl,rfl,SqT.of et,ag (j:=0) rfl,λy dx hy hd' hyd=>⟨y,dx,r2,_,rfl,aa,ini0 hy hd' _ _ (dif_same _ _ er),λp2 H6 hp2 kx e6p e6y=>⟨rfl,?_⟩⟩⟩;have s46:=ini hy hd' kx;have s04:=(s'.trans s3).trans s4;have hp2':H4 p2=none:=(ini0 hy hd').free hp2;exact⟨_,rfl,bg2,λt ht=>q.tup mR (s04.trans s46) ⟨dx,p2,by rw[ao (s04.free hy)];exact e6y,bs,by rw[ao (s04.free hp2')];exact e6p,hbs.mono λa x=>dG 6 _ _ _ _ (ar (s'.trans s3) s46)⟩ ht rfl⟩
 refine ce (λm σ H'=>∃(p:Addr) (x5:Option V) (p' k':Nat) (ts:List Addr) (dn:List Itm),σ=[some (.ref l),some (.int (p':Int)),some (.int d),some (.ref X),some (.ref p),x5]/\Same H H'/\H' X=some (.lst (ts.map V.ref))/\(NewQ H [X] H' λG=>Ls (ItAt G) ts dn)/\SrtAt K H' p (aG qq (rs.drop p'))/\dn++(itR qq k' (rs.drop p')).1=(itR qq (rs.drop i).length (rs.drop i)).1/\p'+(itR qq k' (rs.drop p')).2=i+(itR qq (rs.drop i).length (rs.drop i)).2/\rs.length - p'<=k'/\dn.length<=p'/\(dn≠[]->p'<=900)/\(∀x∈dn,(x.2.1=43 ∨ x.2.1=45)/\x.2.2.length<=900/\Asc x.2.2)/\m=rs.length - p') (rs.length - i) ⟨p,none,i,(rs.drop i).length,[],[],rfl,s1.trans s2,s2 _ _ e1,NewQ.triv trivial,hp,rfl,rfl,by rw[l9];exact l5 _,l12 _,λz=>absurd rfl z,(λ_ z=>nomatch z),rfl⟩ ?_;rintro m σ H3 ⟨p,x5,p',k',ts,dn,rfl,s3,eX,hn,hp,hrun,hend,hk',hdl,hd9,hdn,rfl⟩;have htl:ts.length=dn.length:=let ⟨_,_,_,_,h⟩:=hn;h.len
 refine⟨_,aC g9 rfl hp,λz H4 s4=>?_,λz H4 s4=>?_⟩
 ·obtain⟨far,sg,wd,hs⟩:=f7 (of_decide_eq_true z);have hlt:p' < rs.length:=by
   by_cases h:p' < rs.length
   ·exact h
   ·rw[l32 nofun] at hs;cases hs
  obtain⟨k2,rfl⟩:∃k2,k'=k2+1:=⟨k' - 1,by omega⟩;have eit:itR qq (k2+1) (rs.drop p')=((far,sg,aF [32] (wd::au qq (rs.drop p')))::(itR qq k2 ((rs.drop p').drop (1+(au qq (rs.drop p')).length))).1,1+(au qq (rs.drop p')).length+(itR qq k2 ((rs.drop p').drop (1+(au qq (rs.drop p')).length))).2):=by rw[itR,hs]
  rw[eit] at hrun hend;rw[hs] at hp;have hsz:SzS (rs[p']).length (.item far sg wd)/\AscS (.item far sg wd):=by
   rw[l25 hlt] at hs;have h1:=cu qq rs[p'];have h2:=bV (q:=qq) (hok.asc _ (l34 hlt));rw[show srtQ qq rs[p']=_ from hs] at h1 h2;exact⟨h1,h2⟩
  have hsm:SmR (wd::au qq (rs.drop p')):=(hok.drop p').more (by intro z;rw[l25 hlt] at z;cases z) λr hr'=>by
   rw[l25 hlt] at hr';cases hr';exact⟨hsz.1.2,hsz.2.2⟩
  have hml:(au qq (rs.drop p')).length<=rs.length - (p'+1):=by
   have:=dJ (f:=cv) (q:=qq) ((rs.drop p').drop 1);rw[l9,l9] at this;unfold au;omega
  have hp4:=s4 _ _ hp;refine⟨_,rfl,p,_,3,_,rfl,rfl,SqT.of hp4,ag (j:=3) rfl,bg1,λa ha=>?_⟩;have s34:=s3.trans s4;refine⟨_,rfl,_,rfl,_,_,rfl,rfl,_,rfl,l,rs,p'+1,d,rfl,(s34.trans (ac ha _)) _ _ el,hok,λb H5 s5 hb eb=>?_⟩;have e:tkW cv (decide (d < 4)) (rs.drop (p'+1))=au qq (rs.drop p'):=by unfold au;rw[l18,hq]
  rw[e] at eb;generalize au qq (rs.drop p')=ms at hsm eb hrun hend hml;have ea2:=s5 _ _ (aa (H:=H4) (a:=a) (o := .lst [vS wd]));refine⟨a,b,_,_,rfl,rfl,ea2,eb,?_,λY hY=>?_⟩
  ·have:=hsm.len;rw[l4] at this;rw[l0,sizeLine_eq];show 1+_<=_;omega
  dsimp only[tAsg.K0,tDrop.K0,Ends.to_nx,Ends.to_rt,al,sA,sB];have s46:=((ac ha (.lst [vS wd])).trans s5).trans (ac hY (.lst ([vS wd]++ms.map vS)));have eY:upd H5 Y (.lst ([vS wd]++ms.map vS)) Y=some (.lst ((wd::ms).map vS)):=aa;generalize upd H5 Y (.lst ([vS wd]++ms.map vS))=H6 at s46 eY ⊢;have hp6:=s46 _ _ hp4;have eX6:=s46 _ _ (s4 _ _ eX);have hg:=hsm.glue;refine⟨_,rfl, .inl ⟨rfl,_,SqL.of eX6⟩,_,rfl,p,_,1,_,rfl,rfl,SqT.of hp6,ag (j:=1) rfl,_,rfl,p,_,2,_,rfl,rfl,SqT.of hp6,ag (j:=2) rfl,rfl,_,rfl,S [32],Y,(wd::ms).map S,rfl,rfl,SqL.of (by rw[eY,ee]),hsm.fit,?_⟩;rw[ca];refine⟨bg3,λt2 ht2=>?_⟩;have s7:=ac ht2 (.tup [.int far,vS [sg], .str (S (aF [32] (wd::ms)))]);refine⟨X,_,_,rfl,rfl,s7 _ _ eX6,by rw[l0,sizeLine_eq];omega,?_⟩;have s47:=s46.trans s7;have hXY:Y≠X:=λz=>by rw[z,eX6] at eY;exact absurd (congrArg (λo=>match o with |some (HO.lst (v::_))=>some v |_=>none) eY) (by cases ts <;> simp[vS])
  have sU:Same H (upd (upd H6 t2 (.tup [.int far,vS [sg], .str (S (aF [32] (wd::ms)))])) X (.lst (ts.map V.ref++[.ref t2]))):=ak hX (s34.trans s47);have eYU:upd (upd H6 t2 (.tup [.int far,vS [sg], .str (S (aF [32] (wd::ms)))])) X (.lst (ts.map V.ref++[.ref t2])) Y=some (.lst ((wd::ms).map vS)):=(af hXY).trans (s7 _ _ eY);refine⟨_,rfl,_,rfl,Y,_,rfl, .inl (SqL.of eYU),_,_,rfl,rfl,?_⟩;dsimp only[tAsg.K0,tDrop.K0,Ends.to_nx,Ends.to_rt,al,sA,sB];refine⟨_,rfl,_,rfl,_,rfl,l,rs,p'+(1+ms.length),d,?_,sU _ _ el,hok,λp3 H8 s8 hp8=>?_⟩
  ·rw[l0,l4,Nat.add_comm 1];rfl
  dsimp only[tAsg.K0,tDrop.K0,Ends.to_nx,Ends.to_rt,al,sA,sB];rw[hq] at hp8;have elen:(p':Int)+(((wd::ms).map vS).length:Nat)=((p'+(1+ms.length):Nat):Int):=by rw[l0,l4];omega
  rw[elen];refine⟨_,(show rs.length - (p'+(1+ms.length)) < rs.length - p' by omega),p3,some (.ref Y),p'+(1+ms.length),k2,ts++[t2],dn++[(far,sg,aF [32] (wd::ms))],rfl,sU.trans s8,s8 _ _ (by rw[aa,l17];rfl),?_,hp8,?_,?_,by omega,by rw[l8];show _+1<=_;omega,λ_=>by omega,λx hx=>?_,rfl⟩
  ·refine NewQ.same ?_ s8;refine NewQ.upd ?_ l10;refine NewQ.join (((hn.same s4).same s46).same s7) (NewQ.of (H3:=H6) (R:=λG=>ItAt G t2 (far,sg,aF [32] (wd::ms))) (s34.trans s46) (λb' hb' z=>?_) ?_) (λG G' s h=>h.mono λa x=>jD _ _ _ _ s) (λG G' s h=>jD _ _ _ _ s h) λG h1 h2=>h1.snoc h2
   ·rw[l14.mp hb',eX6] at z;cases z
   ·show dif _ _ _=_;rw[ao ht2];exact aa
  ·rw[l23,<- l18];exact hrun
  ·rw[<- l18];have hend:p'+(1+ms.length+(itR qq k2 ((rs.drop p').drop (1+ms.length))).2)=_:=hend;omega
  ·rcases l20.mp hx with z |z
   ·exact hdn x z
   ·rw[l14.mp z];exact⟨hsz.1.1,hg.1,hg.2⟩
 ·have hstop:itR qq k' (rs.drop p')=([],0):=by
   have hz:=of_decide_eq_false z;cases k' with
   |zero=>rfl
   |succ k2=>
    rw[itR];split
    ·rename_i e;rw[e] at hz;exact absurd rfl hz
    ·rfl
  rw[hstop] at hrun hend;have hrun:dn++[]=_:=hrun;have hend:p'+0=_:=hend;rw[l29] at hrun;refine hN _ _ ⟨some (.ref p),x5,ts,?_,s3.trans s4,s4 _ _ eX,?_,?_⟩
  ·rw[<- hend];rfl
  ·rw[<- hrun];exact hn.same s4
  ·rw[<- hrun];refine⟨?_,hdn⟩;by_cases hz:dn=[]
   ·rw[hz];exact l12 _
   ·have:=hd9 hz;omega
end
def Zs {α γ:Type}(P:α->γ->Prop):List α->List γ->Prop
 | [],[]=>True
 |a::as,b::bs=>P a b/\Zs P as bs
 |_,_=>False
theorem Zs.len {α γ:Type}{P:α->γ->Prop}:∀{as:List α} {bs:List γ},Zs P as bs->as.length=bs.length
 | [],[],_=>rfl
 |_::_,_::_,h=>congrArg (· + 1) h.2.len
theorem Zs.mono {α γ:Type}{P P':α->γ->Prop}(k:∀a b,P a b->P' a b):∀{as:List α} {bs:List γ},Zs P as bs->Zs P' as bs
 | [],[],_=>trivial
 |_::_,_::_,h=>⟨k _ _ h.1,h.2.mono k⟩
theorem Zs.all {α γ:Type}{P:α->γ->Prop}{Pr:α->Prop}:∀{as:List α} {bs:List γ},(∀a b,b∈bs->P a b->Pr a)->Zs P as bs->∀a∈as,Pr a
 | [],[],_,_=>λ_ z=>nomatch z
 |_::_,_::_,k,h=>λa ha=>(l6.mp ha).elim (λz=>z▸k _ _ l10 h.1) (h.2.all (λa b hb=>k a b (l7 _ hb)) a)
theorem iI {α γ:Type}{Q:Addr->α->Prop}{P:α->γ->Prop}:∀{as:List Addr} {zs:List γ},Ls (λa z=>∃x,Q a x/\P x z) as zs->∃xs,Ls Q as xs/\Zs P xs zs
 | [],[],_=>⟨[],trivial,trivial⟩
 |_::_,_::_,h=>let ⟨x,h1,h2⟩:=h.1;let ⟨xs,h3,h4⟩:=iI h.2;⟨x::xs,⟨h1,h3⟩,h2,h4⟩
theorem iJ {α γ:Type}{Q:Addr->α->Prop}{P:α->γ->Prop}{R:Addr->γ->Prop}(k:∀a x z,Q a x->P x z->R a z):∀{as:List Addr} {xs:List α} {zs:List γ},Ls Q as xs->Zs P xs zs->Ls R as zs
 | [],[],[],_,_=>trivial
 |_::_,_::_,_::_,h1,h2=>⟨k _ _ _ h1.1 h2.1,iJ k h1.2 h2.2⟩
inductive PX (c:Cp)(G:Hp)(xs:List V)(ps:List PC):Prop
 |mk (as:List Addr)(_:xs=as.map V.ref)(_:PCs c G as ps)
def PX.same {c:Cp}{G G':Hp}{xs:List V}{ps:List PC}(s:Same G G')(h:PX c G xs ps):PX c G' xs ps:=let ⟨as,e,k⟩:=h;⟨as,e,k.same s⟩
def qN {c:Cp}{G:Hp}{r:Addr}{cs:List (List PC)}(h:LAt (PL c) G r cs):∃hss,LV G r hss/\Zs (PX c G) hss cs:=by
 obtain⟨as,e,k⟩:=h;obtain⟨xs,h1,h2⟩:=iI (Q:=λa x=>G a=some (.lst x)) (P:=PX c G) (k.mono λa ps ⟨bs,e,k⟩=>⟨bs.map V.ref,e,bs,rfl,k⟩);exact⟨xs,⟨as,e,h1⟩,h2⟩
def qO {c:Cp}{G:Hp}{as:List Addr}{ls:List (List (List PC))}(k:Ls (LAt (PL c) G) as ls):∃lss,Ls (LV G) as lss/\Zs (Zs (PX c G)) lss ls:=
 iI (Q:=λa x=>LV G a x) (P:=Zs (PX c G)) (k.mono λa cs h=>qN h)
def qP {c:Cp}{G:Hp}{r:Addr}{hss:List (List V)}{cs:List (List PC)}(h:LV G r hss)(k:Zs (PX c G) hss cs):LAt (PL c) G r cs:=
 let ⟨as,e,h1⟩:=h;⟨as,e,iJ (λa x z h1 ⟨bs,e2,h2⟩=>⟨bs,by rw[h1,e2],h2⟩) h1 k⟩
def uM {c:Cp}{G:Hp}{r:Addr}{lss:List (List (List V))}{ls:List (List (List PC))}(h:LAt LV G r lss)(k:Zs (Zs (PX c G)) lss ls):LAt (LAt (PL c)) G r ls:=
 let ⟨as,e,h1⟩:=h;⟨as,e,iJ (Q:=LV G) (P:=Zs (PX c G)) (R:=LAt (PL c) G) (λa x z h1 h2=>qP h1 h2) h1 k⟩
def TxAt (H:Hp)(a:Addr)(ts:List (List Nat)):Prop:=H a=some (.lst (ts.map vS))
def vp:MoR TxAt:=λ_ _ _ _ s h=>s _ _ h
structure OkT (ts:List (List Nat)):Prop where
 pos:1<=ts.length
 len:ts.length<=900
 ok:∀t∈ts,t.length<=900/\Asc t
def kB:∀{ls:List (List (List Nat))} {ts:List (List Nat)},ts∈ls->ts.length<=bZ ls
 |x::ls,ts,h=>by
  show _<=max x.length (bZ ls);rcases l6.mp h with z |z
  ·rw[z];omega
  ·have:=kB z;omega
theorem og:∀{ls:List (List (List Nat))},ls≠[]->∃ts∈ls,bZ ls=ts.length
 | [x],_=>⟨x,l10,by show max x.length 0=_;omega⟩
 |x::y::ls,_=>by
  obtain⟨ts,h1,h2⟩:=og (ls:=y::ls) (by simp);have e:bZ (x::y::ls)=max x.length (bZ (y::ls)):=rfl;by_cases h:bZ (y::ls)<=x.length
  ·exact⟨x,l10,by rw[e];omega⟩
  ·exact⟨ts,l7 _ h1,by rw[e];omega⟩
section
variable {c:Cb}{BT:Addr}{β:Type}{R:Hp->Addr->β->Prop}
abbrev iK:Stmt:=top 93
inductive spCellsOf (c:Cb)(vs:List V)(H:Hp)(Q:VK)(u3:XK):Prop
 |mk (l:Addr)(ts:List (List Nat))(m:Nat)(_:vs=[.ref l, .int m])(_:TxAt H l ts)(_:OkT ts)(_:ts.length<=m)(_:m<=900)(_:∀r H',Same H H'->H r=none->LAt (PL c.cp) (dif H H') r (bA m ts)->Q (.ref r) H')
def me (F:Fun K "cells_of" "cells_of" iK f fd)(T:TxD K mg c BT)(Db:Def P w K mg base 6 "parts_of" ["text"] (spPartsOf c.cp)):FnOk P w K mg base CX0 7 f fd p26 (spCellsOf c):=by
 have sc:FnScope ["texts","columns","lacking"] p26 (ad iK):=mkS;refine F.oks sc λ{_ _ _ s _ _}H Q hr h=>?_;obtain⟨l,ts,m,rfl,el,hok,hm,hm9,q⟩:=h;refine am (xbc (xst (i:=2) sc.nd (xop bM (xv 1) (xcB aj T.u10 PySem.boot_len (xac (xv 0) xa0))))
  (xb1 (xret (xlc0 (own:=["text"])
  (xil (xop bN (xv 0) (xop kM (xlst (xac xstr xa0)) (xv 2))))
  (λ_ _ _ _=>xgm (i:=0) (show (["text"]:List Str).Nodup by decide)) (λ_ _ _ _=>xq0) (λ_ _ _ _=>(xcd Db hr (xac (xv 0) xa0))))))) ?_
 have hs:=sizeLine_eq;have el:H l=some (.lst (ts.map vS)):=el;refine⟨_,rfl,_,rfl,l,_,rfl, .inl (SqL.of el),_,_,rfl,rfl,?_⟩;dsimp only[tAsg.K0,tDrop.K0,Ends.to_nx,Ends.to_rt,al,sA,sB];refine⟨_,rfl,bg1,λa ha=>⟨_,rfl,a,_,_,rfl,rfl,aa,?_,?_,?_,λb hb=>?_⟩⟩
 ·rw[l0];omega
 ·rw[l0];omega
 ·rw[l0,hs];show 1 * _<=_;omega
 rw[l0,show ((m:Int) - (ts.length:Int)).toNat=m - ts.length by omega,List.flatten_replicate_singleton];have s1:=(ac ha (.lst [vS []])).trans (ac hb (.lst (List.replicate (m - ts.length) (vS []))));refine⟨l,b,_,_,rfl,rfl,s1 _ _ el,aa,by rw[l0,l36,hs];omega,λL hL=>⟨L,rfl,⟨_,SqL.of aa⟩,?_⟩⟩;have efull:ts.map vS++List.replicate (m - ts.length) (vS [])=(ts++List.replicate (m - ts.length) []).map vS:=by rw[l17,l82]
 rw[show (upd (upd (upd H a (.lst [V.str (Str.ofString "")])) b (.lst (List.replicate (m - ts.length) (V.str (Str.ofString ""))))) L (.lst (ts.map vS++List.replicate (m - ts.length) (V.str (Str.ofString "")))))=(upd (upd (upd H a (.lst [vS []])) b (.lst (List.replicate (m - ts.length) (vS [])))) L (.lst ((ts++List.replicate (m - ts.length) []).map vS))) by rw[<- efull];rfl];have s2:Same H (upd (upd (upd H a (.lst [vS []])) b (.lst (List.replicate (m - ts.length) (vS [])))) L (.lst ((ts++List.replicate (m - ts.length) []).map vS))):=s1.trans (ac (show upd (upd H a (.lst [vS []])) b (.lst (List.replicate (m - ts.length) (vS []))) L=none from hL) _);have eL:upd (upd (upd H a (.lst [vS []])) b (.lst (List.replicate (m - ts.length) (vS [])))) L (.lst ((ts++List.replicate (m - ts.length) []).map vS)) L=some (.lst ((ts++List.replicate (m - ts.length) []).map vS)):=aa;have hfull:∀t∈ts++List.replicate (m - ts.length) [],t.length<=900/\Asc t:=λt ht=>by
  rcases l20.mp ht with z |z
  ·exact hok.ok t z
  ·rw[(List.mem_replicate.mp z).2];exact⟨l12 _,λ_ y=>nomatch y⟩
 have hfl:(ts++List.replicate (m - ts.length) []).length=m:=by rw[l8,l36];omega
 have q:∀r H',Same H H'->H r=none->LAt (PL c.cp) (dif H H') r ((ts++List.replicate (m - ts.length) []).map bn)->Q (.ref r) H':=q;generalize ts++List.replicate (m - ts.length) []=fs at hfull hfl q s2 eL ⊢;generalize upd (upd (upd H a (.lst [vS []])) b (.lst (List.replicate (m - ts.length) (vS [])))) L (.lst (fs.map vS))=H2 at s2 eL ⊢;refine fZ (λj b G=>PL c.cp G b (bn ((fs[j]?).getD []))) (λi b G G' s h=>fb _ _ _ _ s h) (SqL.of eL) (by rw[l0];omega) ?_ ?_
 ·intro j v hv H3 s3 C N hC;rw[List.getElem?_map] at hv;cases hj:fs[j]? with
  |none=>rw[hj] at hv;cases hv
  |some t=>
  rw[hj] at hv;cases hv;obtain⟨h1,h2⟩:=hfull t (l15 hj);refine⟨(nfLe.refl _ _ _).set ∅ _,iteT (B:=N H3) ⟨_,rfl,t,rfl,by omega,h2,λr as H4 s4 hr4 er hps=>hC r H4 s4 hr4 ⟨as,by rw[ao hr4];exact er,?_⟩⟩⟩;rw[hj];exact hps
 ·intro D H3 bs hD s3 eD hbl hbs;refine q D H3 (s2.trans s3) (s2.free hD) ⟨bs,by rw[ao (s2.free hD)];exact eD,lX (by rw[hbl,l0,l0]) λi b x hb hx=>?_⟩;rw[List.getElem?_map] at hx;obtain⟨t,ht,rfl⟩:=l44.mp hx;have:=hbs i b hb;rw[ht] at this;exact fb _ _ _ _ (ar s2 (Same.refl _)) this
abbrev oh:Stmt:=top 92
inductive spTblOf (c:Cb)(R:Hp->Addr->β->Prop)(vs:List V)(H:Hp)(Q:VK)(u3:XK):Prop
 |mk (l ls)(_:vs=[.ref l])(_:LAt TxAt H l ls)(_:ls≠[])(_:ls.length<=900)(_:∀ts∈ls,OkT ts)(_:∀a H',Same H H'->BAtF c R (dif H H') a (tblR ls)->Q (.ref a) H')
def lm {H H1 H2 H3 H5 H6:Hp}{y dx h' s' l':Addr}{hss:List (List V)}{lss:List (List (List V))}{sd:List Bool}{hd:List (List PC)}{ls:List (List (List PC))}(s1:Same H H1)(s12:Same H1 H2)(s3:Same H H3)(s35:Same H3 H5)(s25:Same H2 H5)(hy:H5 y=none)(hd':H5 dx=none)(kx:KeepX y (upd (upd H5 dx (.own y)) y (.ins c.Table dx [])) H6)
  (z1:Zs (PX c.cp (dif H1 H2)) hss hd)(z2:Zs (Zs (PX c.cp (dif H3 H5))) lss ls)(d1:LV (dif (upd (upd H5 dx (.own y)) y (.ins c.Table dx [])) H6) h' hss)(d2:dif (upd (upd H5 dx (.own y)) y (.ins c.Table dx [])) H6 s'=some (.lst (sd.map λb=>vS (cT b))))(d3:LAt LV (dif (upd (upd H5 dx (.own y)) y (.ins c.Table dx [])) H6) l' lss)
  (e:H6 y=some (.ins c.Table dx [("head", .ref h'),("sides", .ref s'),("lines", .ref l')])):Same H H6/\BAtF c R (dif H H6) y (.table hd sd ls):=by
 have s56:=ini hy hd' kx;have s05:=s3.trans s35;have g:=ar (s05.trans (ini0 (C:=c.Table) hy hd')) (Same.refl H6);exact⟨s05.trans s56,dx,h',s',l',by rw[ao (s05.free hy)];exact e,qP (kq _ _ _ _ g d1) (z1.mono λ_ _ h=>h.same (ar s1 (s25.trans s56))),g _ _ d2,uM (d3.same kq g) (z2.mono λ_ _ h=>h.mono λ_ _ h=>h.same (ar s3 s56))⟩
def LV.sm {G G':Hp}{l:Addr}{xss:List (List V)}(s:Same G G')(h:LV G l xss):LV G' l xss:=kq _ _ _ _ s h
def gf {m:Nat}{ts:List (List Nat)}(h:ts.length<=m):(bA m ts).length=m:=by
 unfold bA;rw[l0,l8,l36];omega
def dR (F:Fun K "table_of" "table_of" oh f fd)(T:TxD K mg c BT)(Dt:Def P w K mg base 1 "is_rule" ["text"] spRule)(Dk:Def P w K mg base 7 "cells_of" p26 (spCellsOf c))(Dl:New P w K mg base 2 "Table" c.Table p19 (spInitT c.Table)):FnOk P w K mg base CX0 8 f fd ["lines"] (spTblOf c R):=by
 have sc:FnScope ["lines","columns","sides"] ["lines"] (ad oh):=mkS;refine F.oks sc λ{_ _ _ s _ _}H Q hr h=>?_;obtain⟨l,ls,rfl,⟨as,el,hls⟩,hne,hll,hok,q⟩:=h;refine am (xbc (xset (i:=1) sc.nd rfl (Or.inr rfl) (xcB (mP rfl) T.z13 rfl (xac (xlc0 (own:=["line"])
  (xil (xv 0))
  (λ_ _ _ _=>xgm (i:=0) (show (["line"]:List Str).Nodup by decide)) (λ_ _ _ _=>xq0) (λ_ _ _ _=>(xcB hZ T.u10 PySem.boot_len (xac (xv 0) xa0)))) xa0)))
  (xbc (xif (xor (az db (xcB aj T.u10 PySem.boot_len (xac (xv 0) xa0)) xint (ai _)) (xor1 (cQ (aZ (xcB (kS rfl) T.z11 rfl (xac (xlc0 (own:=["text"])
  (xil (xix aT (xv 0) xint (λ_ _=>rfl)))
  (λ_ _ _ _=>xgm (i:=0) (show (["text"]:List Str).Nodup by decide)) (λ_ _ _ _=>xq0) (λ_ _ _ _=>(xcd Dt hr (xac (xv 0) xa0)))) xa0)))))).xt (xb1 (xret (xnew Dl hr.mono (xac (xlst xa0) (xac (xlst xa0) (xac (xlc (cl:=[("columns",s.heap.objs.size+1)]) (own:=["line"]) (fr:=[1]) (N':=p27) rfl (lK (xs:=["columns"]) ⟨rfl,trivial⟩ ⟨rfl,rfl, .inl rfl, .inl rfl,trivial⟩ ∅) ∅ ∅ (by with_unfolding_all rfl)
  (xil (xv 0))
  (λ_ _ _ _=>xgm (i:=0) (show (p27:List Str).Nodup by decide)) (λ_ _ _ _=>xq0) (λ_ _ _ _=>(xcd Dk hr (xac (xv 0) (xac (xv 1) xa0))))) xa0)))))) xb0)
  (xbc (pe (i:=2) (own:=["text"]) sc.nd
  (xil (xix aT (xv 0) xint (λ_ _=>rfl)))
  (λ_ _ _ _=>xgm (i:=0) (show (["text"]:List Str).Nodup by decide)) (λ_ _ _ _=>xq0) (λ_ _ _ _=>(xifE (aZ (xmC plainAttrs_str PySem.F.slot_str_endswith PySem.F.type_str_endswith fz (xv 0) (xac xstr xa0))) xstr xstr)))
  (xbc (xst (i:=2) sc.nd (xop bN (xv 2) (xop kM (xlst (xac xstr xa0)) (xop bM (xv 1) (xcB aj T.u10 PySem.boot_len (xac (xv 2) xa0))))))
  (xb1 (xret (xnew Dl hr.mono (xac (xcd Dk hr (xac (xix aT (xv 0) xint (λ_ _=>rfl)) (xac (xv 1) xa0))) (xac (xv 2) (xac (xlc (cl:=[("columns",s.heap.objs.size+1)]) (own:=["line"]) (fr:=[1]) (N':=p27) rfl (lK (xs:=["columns"]) ⟨rfl,trivial⟩ ⟨rfl,rfl, .inl rfl, .inl rfl,trivial⟩ ∅) ∅ ∅ (by with_unfolding_all rfl)
  (xil (xsl bW (xv 0) (xo1 xint) xo0))
  (λ_ _ _ _=>xgm (i:=0) (show (p27:List Str).Nodup by decide)) (λ_ _ _ _=>xq0) (λ_ _ _ _=>(xcd Dk hr (xac (xv 0) (xac (xv 1) xa0))))) xa0)))))))))) ?_
 have hs:=sizeLine_eq;have hal:=hls.len;rw[rB];refine⟨_,rfl,l,rfl,⟨_,SqL.of el⟩,?_⟩;refine lQ (λj=>((ls[j]?).map λts=>V.int (ts.length:Nat)).getD .non) (SqL.of el) (by rw[l0,hs];omega) ?_ ?_
 ·intro j x hx H2 s2 C N hC;obtain⟨a,ts,rfl,htj,_,ha⟩:=hls.get hx;refine⟨(nfLe.refl _ _ _).set ∅ _,iteT (B:=N H2) ⟨_,rfl,a,_,rfl, .inl (SqL.of (s2 _ _ ha)),?_⟩⟩;have:=hC H2 (Same.refl _);rw[htj] at this;rw[l0];exact this
 intro D H1 hD s1 eD;rw[l0,hal,aU] at eD;refine⟨D,ls.map λts=>((ts.length:Nat):Int),rfl,SqL.of (by rw[eD,l26];rfl),by rw[l0];exact List.length_pos_iff.mpr hne,λmi hmi hmax=>?_⟩;obtain⟨t9,ht9,e9⟩:=og hne;have hm:mi=((bZ ls:Nat):Int):=by
  obtain⟨ts,h1,h2⟩:=l16.mp hmi;have h3:=kB h1;have h4:=hmax _ (List.mem_map_of_mem ht9);omega
 subst hm;have hm9:bZ ls<=900:=by rw[e9];exact(hok t9 ht9).len
 dsimp only[tAsg.K0,tDrop.K0,Ends.to_nx,Ends.to_rt,al,sA,sB];have hcl:∀ts∈ls,ts.length<=bZ ls:=λts h=>kB h;have q:∀a H',Same H H'->BAtF c R (dif H H') a (if ls.length < 2 ∨ (ls.getD 1 []).all ej=false then .table [] [] (ls.map (bA (bZ ls))) else .table (bA (bZ ls) (ls.getD 0 [])) ((ls.getD 1 []).map isR++List.replicate (bZ ls - (ls.getD 1 []).length) false) ((ls.drop 2).map (bA (bZ ls))))->Q (.ref a) H':=q;generalize bZ ls=m at hm9 hcl q;have hlA:∀{H':Hp},Same H H'->Ls (TxAt H') as ls:=λs'=>hls.mono λa x=>vp _ _ _ _ s';refine s_if (decide (ls.length < 2) || !(ls.getD 1 []).all ej) (t_or _ _ (cS (eg (K:=K) (ta:=tVar 0) (ev_v rfl) (.inl (SqL.of (s1 _ _ el)))) ev_c (f9 (by rw[l0];omega))) λhz H2 s2=>gk _ λR' k=>?_) (λH2 s2 z=>?_) λH2 s2 z=>?_
 ·have h2:=of_decide_eq_false hz;obtain⟨a1,ha1⟩:∃a1,as[1]? = some a1:=⟨_,List.getElem?_eq_getElem nofun⟩;have hat:(as.map V.ref)[1]? = some (.ref a1):=by rw[List.getElem?_map,ha1];rfl
  obtain⟨a',ts,hv,hts,_,hx⟩:=hls.get hat;cases hv;have e1:ls.getD 1 []=ts:=by rw[l22,hts];rfl
  rw[e1] at k;have hot:=hok ts (l15 hts);have s02:=s1.trans s2;refine⟨_,rfl,l,_,1,_,rfl,rfl,SqL.of (s02 _ _ el),ag (j:=1) hat,a1,rfl,⟨_,SqL.of (s02 _ _ hx)⟩,?_⟩;refine lQ (λj=>((ts[j]?).map λt=>V.bl (ej t)).getD .non) (SqL.of (s02 _ _ hx)) (by rw[l0,hs];have:=hot.len;omega) ?_ ?_
  ·intro j x hx H3 s3 C N hC;rw[List.getElem?_map] at hx;obtain⟨t,ht,rfl⟩:=l44.mp hx;refine⟨(nfLe.refl _ _ _).set ∅ _,iteT (B:=N H3) ⟨_,rfl,t,rfl,by have:=(hot.ok t (l15 ht)).1;omega,λH4 s4=>?_⟩⟩;have:=hC H4 s4;rw[ht] at this;exact this
  ·intro D2 H3 hD2 s3 eD2;rw[l0,aU] at eD2;refine⟨D2,ts.map ej,rfl,SqL.of (by rw[eD2,l26];rfl),_,rfl,?_⟩;rw[List.all_map];exact k H3 s3
 ·have hc:ls.length < 2 ∨ (ls.getD 1 []).all ej=false:=by
   rw[Bool.or_eq_true] at z;rcases z with z |z
   ·exact .inl (of_decide_eq_true z)
   ·exact .inr (by simpa using z)
  rw[if_pos hc] at q;have s02:=s1.trans s2;refine⟨bg0,λp1 hp1=>⟨bg0,λp2 hp2=>?_⟩⟩;have s3:=s02.trans ((ac hp1 (.lst [])).trans (ac hp2 (.lst [])));have ep1:upd (upd H2 p1 (.lst [])) p2 (.lst []) p1=some (.lst []):=ac hp2 _ _ _ aa;have ep2:upd (upd H2 p1 (.lst [])) p2 (.lst []) p2=some (.lst []):=aa;have n1:=s02.free hp1;have n2:=(s02.trans (ac hp1 _)).free hp2;generalize upd (upd H2 p1 (.lst [])) p2 (.lst [])=H3 at s3 ep1 ep2 ⊢;refine⟨_,rfl,l,rfl,⟨_,SqL.of (s3 _ _ el)⟩,?_⟩;refine fZ (λj b G=>LAt (PL c.cp) G b (bA m ((ls[j]?).getD []))) (λi b G G' s h=>h.same fb s) (SqL.of (s3 _ _ el)) (by rw[l0];omega) ?_ ?_
  ·intro j v hv H4 s4 C N hC;obtain⟨a,ts,rfl,htj,_,ha⟩:=hls.get hv;have hmem:=l15 htj;refine⟨(nfLe.refl _ _ _).set ∅ _,iteT (B:=N H4) ⟨_,rfl,_,rfl,a,ts,m,rfl,(s3.trans s4) _ _ ha,hok ts hmem,hcl ts hmem,hm9,λr H5 s5 hr5 d5=>hC r H5 s5 hr5 ?_⟩⟩;rw[htj];exact d5
  intro D3 H4 bs hD3 s4 eD3 hbl hbs;have hL:Ls (LAt (PL c.cp) (dif H3 H4)) bs (ls.map (bA m)):=lX (by rw[hbl,l0,l0,hal]) λi b x hb hx=>by
   rw[List.getElem?_map] at hx;obtain⟨t,ht,rfl⟩:=l44.mp hx;have:=hbs i b hb;rw[ht] at this;exact this
  obtain⟨lss,h1,h2⟩:=qO hL;refine λy dx hy hd' hyd=>⟨y,dx,p1,p2,D3,[],[],lss,rfl,aa,⟨[],(s4.trans (ini0 hy hd')) _ _ ep1,trivial⟩,l12 _,(s4.trans (ini0 hy hd')) _ _ ep2,⟨bs,ini0 hy hd' _ _ eD3,h1.mono λa x h=>h.sm (dif_same.trans (ini0 hy hd'))⟩,by rw[h2.len,l0];omega,h2.all λa b hb h=>?_,λh' s' l' H6 kx d1 d2 d3 e6=>⟨rfl,?_⟩⟩
  ·obtain⟨ts,hts,rfl⟩:=l16.mp hb;rw[h.len,gf (hcl ts hts)];omega
  ·obtain⟨sf,hb⟩:=lm (R:=R) (sd:=[]) (hd:=[]) (hss:=[]) (Same.refl H) (Same.refl H) s3 s4 (s3.trans s4) hy hd' kx trivial h2 d1 d2 d3 e6;exact q y H6 sf hb
 ·have hz:=z;rw[Bool.or_eq_false_iff] at z;have h2:=of_decide_eq_false z.1;have hc:¬ (ls.length < 2 ∨ (ls.getD 1 []).all ej=false):=by
   rintro(h |h)
   ·exact h2 h
   ·rw[h] at z;exact Bool.noConfusion z.2
  rw[if_neg hc] at q;clear hc hz z;have s02:=s1.trans s2;obtain⟨a0,ha0⟩:∃a0,as[0]? = some a0:=⟨_,List.getElem?_eq_getElem nofun⟩;have hat0:(as.map V.ref)[0]? = some (.ref a0):=by rw[List.getElem?_map,ha0];rfl
  obtain⟨_,t0,hv,ht0,_,hx0⟩:=hls.get hat0;cases hv;have e0:ls.getD 0 []=t0:=by rw[l22,ht0];rfl
  obtain⟨a1,ha1⟩:∃a1,as[1]? = some a1:=⟨_,List.getElem?_eq_getElem nofun⟩;have hat1:(as.map V.ref)[1]? = some (.ref a1):=by rw[List.getElem?_map,ha1];rfl
  obtain⟨_,t1,hv,ht1,_,hx1⟩:=hls.get hat1;cases hv;have e1:ls.getD 1 []=t1:=by rw[l22,ht1];rfl
  rw[e0,e1] at q;have m0:=l15 ht0;have m1:=l15 ht1;have ho1:=hok t1 m1;refine⟨_,rfl,l,_,1,_,rfl,rfl,SqL.of (s02 _ _ el),ag (j:=1) hat1,a1,rfl,⟨_,SqL.of (s02 _ _ hx1)⟩,?_⟩;refine lQ (λj=>((t1[j]?).map λt=>vS (cT (isR t))).getD .non) (SqL.of (s02 _ _ hx1)) (by rw[l0,hs];have:=ho1.len;omega) ?_ ?_
  ·intro j x hx H3 s3 C N hC;rw[List.getElem?_map] at hx;obtain⟨t,ht,rfl⟩:=l44.mp hx;have hc:=hC H3 (Same.refl _);rw[ht] at hc;have htl:=(ho1.ok t (l15 ht)).1;refine⟨(nfLe.refl _ _ _).set ∅ _,iteT (B:=N H3) ⟨_,rfl,rfl,_,_,rfl,rfl,bigS nofun,_,rfl,?_⟩⟩;rw[show Txt.endswith (S t) (Str.ofString ":")=isR t from qG t 58];have hc:C (vS (cT (isR t))) H3:=hc;cases hb:isR t with
   |true=>rw[hb] at hc;exact iteT hc
   |false=>rw[hb] at hc;exact iteF hc
  intro D3 H3 hD3 s3 eD3;rw[l0,aU] at eD3;dsimp only[tAsg.K0,tDrop.K0,Ends.to_nx,Ends.to_rt,al,sA,sB];have s03:=s02.trans s3;have ht1m:=hcl t1 m1;refine⟨_,rfl,bg1,λb1 hb1=>⟨_,rfl,_,rfl,D3,_,rfl, .inl (SqL.of (ac hb1 _ _ _ eD3)),_,_,rfl,rfl,b1,_,_,rfl,rfl,aa,?_,?_,?_,λb2 hb2=>?_⟩⟩
  ·rw[l0];omega
  ·rw[l0];omega
  ·rw[l0,hs];show 1 * _<=_;omega
  rw[l0,show ((m:Int) - (t1.length:Int)).toNat=m - t1.length by omega,List.flatten_replicate_singleton];have s34:=(ac hb1 (.lst [V.str (Str.ofString "left")])).trans (ac hb2 (.lst (List.replicate (m - t1.length) (V.str (Str.ofString "left")))));refine⟨D3,b2,_,_,rfl,rfl,s34 _ _ eD3,aa,by rw[l0,l36,hs];omega,λS3 hS3=>?_⟩;have esd:(t1.map λt=>vS (cT (isR t)))++List.replicate (m - t1.length) (V.str (Str.ofString "left"))=(t1.map isR++List.replicate (m - t1.length) false).map λb=>vS (cT b):=by
   rw[l17,l26,l82];rfl
  dsimp only[tAsg.K0,tDrop.K0,Ends.to_nx,Ends.to_rt,al,sA,sB];rw[esd] at *;have s4:=(s03.trans s34).trans (ac hS3 (.lst ((t1.map isR++List.replicate (m - t1.length) false).map λb=>vS (cT b))));generalize hH4:upd (upd (upd H3 b1 (.lst [V.str (Str.ofString "left")])) b2 (.lst (List.replicate (m - t1.length) (V.str (Str.ofString "left"))))) S3 (.lst ((t1.map isR++List.replicate (m - t1.length) false).map λb=>vS (cT b)))=H4 at s4;have eS:H4 S3=some (.lst ((t1.map isR++List.replicate (m - t1.length) false).map λb=>vS (cT b))):=by rw[<- hH4];exact aa
  generalize t1.map isR++List.replicate (m - t1.length) false=sd at eS q;refine⟨_,rfl,l,_,0,_,rfl,rfl,SqL.of (s4 _ _ el),ag (j:=0) hat0,_,rfl,a0,t0,m,rfl,s4 _ _ hx0,hok t0 m0,hcl t0 m0,hm9,λr0 H5 s5 hr0 d0=>?_⟩;obtain⟨hss,g1,g2⟩:=qN d0;have s05:=s4.trans s5;refine⟨_,rfl,_,rfl,_,rfl,l,_,rfl,SqL.of (s05 _ _ el),λL2 hL2=>⟨L2,rfl,⟨_,SqL.of aa⟩,?_⟩⟩;rw[show cutV (as.map V.ref) (some 2) none=(as.map V.ref).drop 2 from f8 _ 2,<- l50] at *;have s6:=s05.trans (ac hL2 (.lst ((as.drop 2).map V.ref)));have s56:=ac hL2 (.lst ((as.drop 2).map V.ref));have eL:upd H5 L2 (.lst ((as.drop 2).map V.ref)) L2=some (.lst ((as.drop 2).map V.ref)):=aa;generalize upd H5 L2 (.lst ((as.drop 2).map V.ref))=H6 at s6 s56 eL ⊢;refine fZ (λj b G=>LAt (PL c.cp) G b (bA m (((ls.drop 2)[j]?).getD []))) (λi b G G' s h=>h.same fb s) (SqL.of eL) (by rw[l0,l9];omega) ?_ ?_
  ·intro j v hv H7 s7 C N hC;rw[l50,List.getElem?_drop] at hv;obtain⟨a,ts,rfl,htj,_,ha⟩:=hls.get hv;have hmem:=l15 htj;refine⟨(nfLe.refl _ _ _).set ∅ _,iteT (B:=N H7) ⟨_,rfl,_,rfl,a,ts,m,rfl,(s6.trans s7) _ _ ha,hok ts hmem,hcl ts hmem,hm9,λr H8 s8 hr8 d8=>hC r H8 s8 hr8 ?_⟩⟩;rw[List.getElem?_drop,htj];exact d8
  intro D7 H7 bs hD7 s7 eD7 hbl hbs;have hL:Ls (LAt (PL c.cp) (dif H6 H7)) bs ((ls.drop 2).map (bA m)):=lX (by rw[hbl,l0,l0,l9,l9,hal]) λi b x hb hx=>by
   rw[List.getElem?_map] at hx;obtain⟨t,ht,rfl⟩:=l44.mp hx;have:=hbs i b hb;rw[ht] at this;exact this
  obtain⟨lss,h1,h3⟩:=qO hL;have s57:=s56.trans s7;refine λy dx hy hd' hyd=>⟨y,dx,r0,S3,D7,hss,_,lss,rfl,aa,g1.sm (dif_same.trans (s57.trans (ini0 hy hd'))),by rw[g2.len,gf (hcl t0 m0)];omega,((s5.trans s57).trans (ini0 hy hd')) _ _ eS,⟨bs,ini0 hy hd' _ _ eD7,h1.mono λa x h=>h.sm (dif_same.trans (ini0 hy hd'))⟩,by rw[h3.len,l0,l9];omega,h3.all λa b hb h=>?_,λh' s' l' H9 kx d1 d2 d3 e9=>⟨rfl,?_⟩⟩
  ·obtain⟨ts,hts,rfl⟩:=l16.mp hb;rw[h.len,gf (hcl ts (l61 hts))];omega
  ·obtain⟨sf,hb⟩:=lm (R:=R) (sd:=sd) s4 s5 s6 s7 s57 hy hd' kx g2 h3 d1 d2 d3 e9;exact q y H9 sf hb
end
def FndB.from {β:Type}{c:Cb}{R:Hp->Addr->β->Prop}{H H1:Hp}{Q:VK}{b:BkF β}{j:Nat}(q:FndB c R H Q b j)(mR:MoR R)(s:Same H H1):FndB c R H1 Q b j:=λt a H' s' ht e hb=>q t a H' (s.trans s') (s.free ht) e (c7 mR _ _ _ _ (ar s (Same.refl _)) hb)
inductive RlC (H:Hp)(v:V)(ts:List (List Nat)):Prop
 |mk (q)(_:v = .ref q)(_:H q=some (.lst (ts.map vS)))(_:ts≠[])
def vq {H:Hp}{vs:List V}{ls:List (List (List Nat))}(h:Zp (RlC H) vs ls):∃as:List Addr,vs=as.map V.ref/\Ls (TxAt H) as ls:=by
 obtain⟨zs,rfl,rfl,hz⟩:=h
 induction zs with
 |nil=>exact⟨[],rfl,trivial⟩
 |cons z zs ih=>
  obtain⟨as,e,k⟩:=ih λx hx=>hz x (l7 _ hx);obtain⟨q,e1,e2,_⟩:=hz z l10;exact⟨q::as,by rw[l13,l13,e,e1],e2,k⟩
section
variable {c:Cb}{BT:Addr}{β:Type}{R:Hp->Addr->β->Prop}
abbrev kC:Stmt:=top 91
inductive spTableA (c:Cb)(R:Hp->Addr->β->Prop)(vs:List V)(H:Hp)(Q:VK)(u3:XK):Prop
 |mk (rs i d)(_:RwAt vs H rs i d)(_:aW (aG (decide (d < 4)) (rs.drop i))=eR)(_:FndB c R H Q (tblR (tkW c9 (decide (d < 4)) (rs.drop i))) (i+(tkW c9 (decide (d < 4)) (rs.drop i)).length))
def pV {s:Srt}{ts:List (List Nat)}(h:c9 s=some ts):s = .cells ts:=by cases s <;> cases h;rfl
def cz (mR:MoR R)(F:Fun K "table_at" "table_at" kC f fd)(T:TxD K mg c BT)(Da:Def P w K mg base 5 "sort_at" p0 (spSortAt K))(Yl:Def P w K mg base 8 "table_of" ["lines"] (spTblOf c R)):FnOk P w K mg base CX0 9 f fd p0 (spTableA c R):=by
 have sc:FnScope ["rows","place","deep","lines","sort"] p0 (ad kC):=mkS;refine F.oks sc λ{_ _ _ s vs _}H Q hr h=>?_;obtain⟨rs,i,d,⟨l,rfl,el,hok⟩,hkd,q⟩:=h;refine am (xbc (xst (i:=3) sc.nd (xlst xa0))
  (xbc (xst (i:=4) sc.nd (xcd Da hr (xac (xv 0) (xac (xv 1) (xac (xv 2) xa0)))))
  (xbc (cx PassesOwn.never (az be (xix aw (xv 4) xint (λ_ _=>rfl)) xstr (ai _))
  (xbc (bw (xmA (xv 3) (xac (xix aw (xv 4) xint (λ_ _=>rfl)) xa0)))
  (xb1 (xst (i:=4) sc.nd (xcd Da hr (xac (xv 0) (xac (xop av (xv 1) (xcB aj T.u10 PySem.boot_len (xac (xv 3) xa0))) (xac (xv 2) xa0))))))))
  (xb1 (xret (xtup (xac (xcd Yl hr (xac (xv 3) xa0)) (xac (xop av (xv 1) (xcB aj T.u10 PySem.boot_len (xac (xv 3) xa0))) xa0)))))))) ?_
 have hne:tkW c9 (decide (d < 4)) (rs.drop i)≠[]:=by
  obtain⟨ts,e⟩:=ma hkd;obtain⟨_,e2⟩:=nS (f:=c9) (q:=decide (d < 4)) (rs:=rs) (i:=i) (x:=ts) rfl (by rw[e];rfl);rw[e2];exact λz=>nomatch z
 have j8:∀ts∈tkW c9 (decide (d < 4)) (rs.drop i),OkT ts:=λts h=>by
  obtain⟨r,h1,h2⟩:=lf h;have h3:=l61 h1;have h4:=cu (decide (d < 4)) r;have h5:=bV (q:=decide (d < 4)) (hok.asc r h3);have h6:=hok.row h3;rw[pV h2] at h4 h5;obtain⟨a1,a2,a3⟩:=h4;exact⟨a1,by omega,λt ht=>⟨by have:=a3 t ht;omega,h5 t ht⟩⟩
 have w6:(tkW c9 (decide (d < 4)) (rs.drop i)).length<=900:=by
  have:=dJ (f:=c9) (q:=decide (d < 4)) (rs.drop i);have:=(hok.drop i).len;omega
 refine iE (K:=K) (f:=c9) (Rl:=RlC) (l:=l) (rs:=rs) (i:=i) (d:=d) (σt:=[]) (Pr:=λs=>∀ts,s = .cells ts->ts≠[]) (λj ts e=>?_) rfl (λσ H p s hσ hp=>?_) (λH p s a hpr hp ha=>?_) (λ_ _ _ _ s ⟨q,e1,e2,e3⟩=>⟨q,e1,s _ _ e2,e3⟩) (λH X vs v v' a a' eX hx _ ⟨q,e1,e2,e3⟩=>⟨q,e1,?_,e3⟩) el hok λX p vs H1 s1 hX eX hz=>?_
 ·rw[cP] at e;cases hr:rs[j]? with
  |none=>rw[hr] at e;cases e
  |some r=>
   rw[hr] at e;have h4:=cu (decide (d < 4)) r;rw[show srtQ (decide (d < 4)) r = .cells ts from e] at h4;intro z;rw[z] at h4;exact absurd h4.1 ∅
 ·refine(aC eR hσ hp).eq ?_;cases s <;> rfl
 ·cases s with
  |cells w=>
   cases ha;obtain⟨q,e1,e2⟩:=hp;exact⟨_,_,e1,ag (j:=1) rfl,q,rfl,e2,hpr _ rfl⟩
  |_=>cases ha
 ·refine(af λz=>?_).trans e2;rw[z,eX] at e2;cases a' with
  |nil=>exact e3 rfl
  |cons t ts=>
   cases e2;obtain⟨b,q',h1,_⟩:=hx (vS t) l10;cases h1
 obtain⟨as,rfl,hls⟩:=vq hz;generalize tkW c9 (decide (d < 4)) (rs.drop i)=ls at hne j8 w6 hls q;refine⟨_,rfl,X,ls,rfl,⟨as,eX,hls⟩,hne,w6,j8,λa H2 s2 hb=>?_⟩;refine⟨_,rfl,_,rfl,X,_,rfl, .inl (SqL.of (s2 _ _ eX)),_,_,rfl,rfl,bg2,λt ht=>q.tup mR (s1.trans s2) (c7 mR _ _ _ _ (ar s1 (Same.refl _)) hb) ht ?_⟩;rw[l0,hls.len];rfl
abbrev jE:Stmt:=top 85
def gg {k d:Nat}{inn:List (List Nat)->List β}{spQ:Sp}(hk:20<=k)(mR:MoR R)(F:Fun K "block_at" "block_at" jE f fd)(T:TxD K mg c BT)(Da:Def P w K mg base 5 "sort_at" p0 (spSortAt K))(Db:Def P w K mg base 6 "parts_of" ["text"] (spPartsOf c.cp))
  (Du:New P w K mg base 1 "Heading" c.Heading p15 (spInitVL c.Heading "level" "parts"))(Dv:New P w K mg base 1 "Naming" c.Naming p17 (spInit2 c.Naming "name" "target"))(Ym:Def P w K mg base 7 "note_at" p0 (spNote c R))(Yn:Def P w K mg base 5 "literal_at" p10 (spLitA c R))
  (Yo:Def P w K mg base k "quote_at" p0 spQ)(hQ:d < 4->∀vs H Q E,spQuoteI c R inn d vs H Q E->spQ vs H Q E)(Yp:Def P w K mg base 9 "table_at" p0 (spTableA c R))(Yq:Def P w K mg base 20 "list_at" p0 (spListA c R))(Yr:Def P w K mg base 7 "para_at" p0 (spPara c R)):
  FnOk P w K mg base CX0 (k+1) f fd p0 (spBlock c R (rdF (decide (d < 4)) inn) d):=by
 have sc:FnScope ["rows","place","deep","sort"] p0 (ad jE):=mkS;refine F.oks sc λH Q hr h=>?_;obtain⟨rs,i,⟨l,rfl,el,hok⟩,q⟩:=h;refine am (xbc (xst (i:=3) sc.nd (xcd Da hr (xac (xv 0) (xac (xv 1) (xac (xv 2) xa0)))))
  (xbc (xif (az be (xix aw (xv 3) xint (λ_ _=>rfl)) xstr (ai _)) (xb1 (xret (xtup (xac (xnew Du hr.mono (xac (xix aw (xv 3) xint (λ_ _=>rfl)) (xac (xcd Db hr (xac (xix aw (xv 3) xint (λ_ _=>rfl)) xa0)) xa0))) (xac (xop av (xv 1) xint) xa0))))) xb0)
  (xbc (xif (az be (xix aw (xv 3) xint (λ_ _=>rfl)) xstr (ai _)) (xb1 (xret (xtup (xac (xnew Dv hr.mono (xac (xix aw (xv 3) xint (λ_ _=>rfl)) (xac (xix aw (xv 3) xint (λ_ _=>rfl)) xa0))) (xac (xop av (xv 1) xint) xa0))))) xb0)
  (xbc (xif (az be (xix aw (xv 3) xint (λ_ _=>rfl)) xstr (ai _)) (xb1 (xret (xcd Ym hr (xac (xv 0) (xac (xv 1) (xac (xv 2) xa0)))))) xb0)
  (xbc (xif (az be (xix aw (xv 3) xint (λ_ _=>rfl)) xstr (ai _)) (xb1 (xret (xcd Yn hr (xac (xv 0) (xac (xv 1) xa0))))) xb0)
  (xbc (xif (az be (xix aw (xv 3) xint (λ_ _=>rfl)) xstr (ai _)) (xb1 (xret (xcd Yo hr (xac (xv 0) (xac (xv 1) (xac (xv 2) xa0)))))) xb0)
  (xbc (xif (az be (xix aw (xv 3) xint (λ_ _=>rfl)) xstr (ai _)) (xb1 (xret (xcd Yp hr (xac (xv 0) (xac (xv 1) (xac (xv 2) xa0)))))) xb0)
  (xbc (xif (az be (xix aw (xv 3) xint (λ_ _=>rfl)) xstr (ai _)) (xb1 (xret (xcd Yq hr (xac (xv 0) (xac (xv 1) (xac (xv 2) xa0)))))) xb0)
  (xb1 (xret (xcd Yr hr (xac (xv 0) (xac (xv 1) (xac (xv 2) xa0)))))))))))))) ?_
 rw[uf];refine⟨_,rfl,_,rfl,_,rfl,l,rs,i,d,rfl,el,hok,λp H1 s1 hp=>?_⟩;dsimp only[tAsg.K0,tDrop.K0,Ends.to_nx,Ends.to_rt,al,sA,sB];have tail:∀{H2:Hp} {b:BkF β} {n:Nat},Same H H2->rdF (decide (d < 4)) inn (rs.drop i)=(b,n)->FndB c R H2 Q b (i+n):=λs2 e=>by
  rw[e] at q;exact q.from mR s2
 have hrw:∀{H2:Hp},Same H H2->RwAt [.ref l, .int i, .int d] H2 rs i d:=λs2=>⟨l,rfl,s2 _ _ el,hok⟩;cases hs:aG (decide (d < 4)) (rs.drop i) with
 |heading lv w=>
  rw[hs] at hp;refine bF ((aC br rfl hp).eq rfl) λH2 s2=>?_;have e:rdF (decide (d < 4)) inn (rs.drop i)=(.heading lv (bn w),1):=by unfold rdF;rw[hs]
  have hp2:=s2 _ _ hp;have hsz:w.length<=900/\Asc w:=by
   rw[cP] at hs;cases hr:rs[i]? with
   |none=>rw[hr] at hs;cases hs
   |some r=>
    rw[hr] at hs;have hm:=l15 hr;have h1:=cu (decide (d < 4)) r;have h2:=bV (q:=decide (d < 4)) (hok.asc r hm);have h3:=hok.row hm;rw[show srtQ (decide (d < 4)) r=_ from hs] at h1 h2;exact⟨l11 h1.2 h3,h2⟩
  refine⟨_,rfl,p,_,1,_,rfl,rfl,SqT.of hp2,ag (j:=1) rfl,_,rfl,p,_,2,_,rfl,rfl,SqT.of hp2,ag (j:=2) rfl,w,rfl,by omega,hsz.2,λr as H3 s3 hr3 er hps=>?_⟩;refine λy dx hy hd' hyd=>⟨y,dx,_,r,_,rfl,aa,ini0 hy hd' _ _ er,λp2 H6 hp2 kx e6p e6y=>⟨rfl,?_⟩⟩;have s36:=ini hy hd' kx;have s02:=s1.trans s2;have s03:=s02.trans s3;have hp2':H3 p2=none:=(ini0 hy hd').free hp2;exact⟨_,rfl,_,_,rfl,rfl,bg2,λt ht=>(tail (Same.refl H) e).tup mR (s03.trans s36) ⟨dx,p2,by rw[ao (s03.free hy)];exact e6y,as,by rw[ao (s03.free hp2')];exact e6p,hps.same (ar s02 s36)⟩ ht rfl⟩
 |name n t=>
  rw[hs] at hp;refine aM ((aC br rfl hp).eq rfl) λH2 s2=>bF ((aC g8 rfl (hp.same s2)).eq rfl) λH2' s2'=>?_;have e:rdF (decide (d < 4)) inn (rs.drop i)=(.name n t,1):=by unfold rdF;rw[hs]
  have hp2:=(s2.trans s2') _ _ hp;refine⟨_,rfl,p,_,1,_,rfl,rfl,SqT.of hp2,ag (j:=1) rfl,_,rfl,p,_,2,_,rfl,rfl,SqT.of hp2,ag (j:=2) rfl,λy dx hy hd' hyd=>?_⟩;obtain⟨m1,m2⟩:=uC (C:=c.Naming) (o1 := .ins c.Naming dx [("name",vS n)]) (o := .ins c.Naming dx [("name",vS n),("target",vS t)]) (s1.trans (s2.trans s2')) hy hd';exact⟨y,dx,_,_,rfl,aa,rfl,_,rfl,_,_,rfl,rfl,bg2,λt ht=>(tail (Same.refl H) e).tup mR m1 ⟨dx,m2⟩ ht rfl⟩
 |note n w=>
  rw[hs] at hp;refine aM ((aC br rfl hp).eq rfl) λH2 s2=>aM ((aC g8 rfl (hp.same s2)).eq rfl) λH3 s3=>bF ((aC jh rfl (hp.same (s2.trans s3))).eq rfl) λH4 s4=>?_;have s04:=s1.trans ((s2.trans s3).trans s4);exact⟨_,rfl,_,rfl,_,rfl,rs,i,d,n,w,hrw s04,hs,tail s04 (by unfold rdF;rw[hs])⟩
 |fence=>
  rw[hs] at hp;refine aM ((aC br rfl hp).eq rfl) λH2 s2=>aM ((aC g8 rfl (hp.same s2)).eq rfl) λH3 s3=>aM ((aC jh rfl (hp.same (s2.trans s3))).eq rfl) λH4 s4=>bF ((aC ba rfl (hp.same ((s2.trans s3).trans s4))).eq rfl) λH5 s5=>?_;have s05:=s1.trans (((s2.trans s3).trans s4).trans s5);exact⟨_,rfl,_,rfl,l,rs,i,rfl,s05 _ _ el,hok,tail s05 (by unfold rdF;rw[hs,l18])⟩
 |quote x=>
  rw[hs] at hp;refine aM ((aC br rfl hp).eq rfl) λH2 s2=>aM ((aC g8 rfl (hp.same s2)).eq rfl) λH3 s3=>aM ((aC jh rfl (hp.same (s2.trans s3))).eq rfl) λH4 s4=>aM ((aC ba rfl (hp.same ((s2.trans s3).trans s4))).eq rfl) λH5 s5=>bF ((aC b7 rfl (hp.same (((s2.trans s3).trans s4).trans s5))).eq rfl) λH6 s6=>?_;have s06:=s1.trans ((((s2.trans s3).trans s4).trans s5).trans s6);have hd4:d < 4:=by
   rw[cP] at hs;cases hr:rs[i]? with
   |none=>rw[hr] at hs;cases hs
   |some r=>
    rw[hr] at hs;have hs:srtQ (decide (d < 4)) r = .quote x:=hs;by_cases h:d < 4
    ·exact h
    ·rw[decide_eq_false h] at hs;by_cases hk:aW (aV r)=b7
     ·rw[qL hk] at hs;cases hs
     ·rw[nX hk] at hs;rw[hs] at hk;exact absurd rfl hk
  exact⟨_,rfl,_,rfl,_,rfl,hQ hd4 _ _ _ _ ⟨rs,i,hrw s06,tail s06 (by unfold rdF;rw[hs])⟩⟩
 |cells x=>
  rw[hs] at hp;refine aM ((aC br rfl hp).eq rfl) λH2 s2=>aM ((aC g8 rfl (hp.same s2)).eq rfl) λH3 s3=>aM ((aC jh rfl (hp.same (s2.trans s3))).eq rfl) λH4 s4=>aM ((aC ba rfl (hp.same ((s2.trans s3).trans s4))).eq rfl) λH5 s5=>aM ((aC b7 rfl (hp.same (((s2.trans s3).trans s4).trans s5))).eq rfl) λH6 s6=>bF ((aC eR rfl (hp.same ((((s2.trans s3).trans s4).trans s5).trans s6))).eq rfl) λH7 s7=>?_;have s07:=s1.trans (((((s2.trans s3).trans s4).trans s5).trans s6).trans s7);exact⟨_,rfl,_,rfl,_,rfl,rs,i,d,hrw s07,by rw[hs];rfl,tail s07 (by unfold rdF;rw[hs])⟩
 |item a b x=>
  rw[hs] at hp;refine aM ((aC br rfl hp).eq rfl) λH2 s2=>aM ((aC g8 rfl (hp.same s2)).eq rfl) λH3 s3=>aM ((aC jh rfl (hp.same (s2.trans s3))).eq rfl) λH4 s4=>aM ((aC ba rfl (hp.same ((s2.trans s3).trans s4))).eq rfl) λH5 s5=>aM ((aC b7 rfl (hp.same (((s2.trans s3).trans s4).trans s5))).eq rfl) λH6 s6=>aM ((aC eR rfl (hp.same ((((s2.trans s3).trans s4).trans s5).trans s6))).eq rfl) λH7 s7=>bF ((aC g9 rfl (hp.same (((((s2.trans s3).trans s4).trans s5).trans s6).trans s7))).eq rfl) λH8 s8=>?_;have s08:=s1.trans ((((((s2.trans s3).trans s4).trans s5).trans s6).trans s7).trans s8);exact⟨_,rfl,_,rfl,_,rfl,rs,i,d,hrw s08,by rw[hs];rfl,tail s08 (by unfold rdF;rw[hs])⟩
 |_=>
  rw[hs] at hp;refine aM ((aC br rfl hp).eq rfl) λH2 s2=>aM ((aC g8 rfl (hp.same s2)).eq rfl) λH3 s3=>aM ((aC jh rfl (hp.same (s2.trans s3))).eq rfl) λH4 s4=>aM ((aC ba rfl (hp.same ((s2.trans s3).trans s4))).eq rfl) λH5 s5=>aM ((aC b7 rfl (hp.same (((s2.trans s3).trans s4).trans s5))).eq rfl) λH6 s6=>aM ((aC eR rfl (hp.same ((((s2.trans s3).trans s4).trans s5).trans s6))).eq rfl) λH7 s7=>aM ((aC g9 rfl (hp.same (((((s2.trans s3).trans s4).trans s5).trans s6).trans s7))).eq rfl) λH8 s8=>?_;have s08:=s1.trans ((((((s2.trans s3).trans s4).trans s5).trans s6).trans s7).trans s8);exact⟨_,rfl,_,rfl,_,rfl,rs,i,d,hrw s08,tail s08 (by unfold rdF;rw[hs])⟩
end
structure TxF (K:Frag)(mg:Str->Option Value)(c:Cb)(dc:Addr)(BT:Addr):Prop extends TxD K mg c BT where
 q34:Inst K dc
 u35:NoAttr K dc "blocks"
section
variable {c:Cb}{BT dc:Addr}{β:Type}{R:Hp->Addr->β->Prop}
abbrev oj:Stmt:=top 19
inductive spNeedT (vs:List V)(H:Hp)(Q:VK)(u3:XK):Prop
 |mk (l:List Nat)(_:vs=[vS l])(_:9∉l)(_:∀H',Same H H'->Q (vS l) H')
def pW (F:Fun K "need_text" "need_text" oj f fd)(T:TxD K mg c BT):FnOk P w K mg base CX0 1 f fd ["thing"] spNeedT:=by
 have sc:FnScope ["thing"] ["thing"] (ad oj):=mkS;refine F.oks sc λH Q hr h=>?_;obtain⟨l,rfl,h9,q⟩:=h;refine am (xbc (xif (cQ (aZ (xcB gV T.q10 rfl (xac (xv 0) (xac (xty (T:="str") T.u11 rfl) xa0))))) (xb1 mN) xb0)
  (xbc (xif (az fu xstr (xv 0) (by with_unfolding_all rfl)) (xb1 mN) xb0)
  (xb1 (xret (xv 0))))) ?_
 refine⟨_,rfl,_,_,_,true,rfl, .str _,gW _ _,_,rfl,?_⟩;refine ite2 (λc=>absurd c ∅) (λ_=>?_);refine aM ((t_in 9 (l:=l) (ta:=tC (.str (Str.ofString "\t"))) ev_c (ev_v rfl)).eq ?_) λH1 s1=>⟨_,rfl,q H1 s1⟩;rw[Bool.eq_false_iff];intro z;exact h9 (by simpa using z)
abbrev kD:Stmt:=top 20
inductive spRowsOf (vs:List V)(H:Hp)(Q:VK)(u3:XK):Prop
 |mk (l:List Nat)(_:vs=[vS l])(_:l.length<=1000000)(_:∀r H',Same H H'->H r=none->H' r=some (.lst ((aD 10 l).map vS))->Q (.ref r) H')
def ol (F:Fun K "rows_of" "rows_of" kD f fd):FnOk P w K mg base CX0 1 f fd ["text"] spRowsOf:=by
 have sc:FnScope ["text"] ["text"] (ad kD):=mkS;refine F.oks sc λH Q hr h=>?_;obtain⟨l,rfl,hl,q⟩:=h;refine am (xb1 (xret (xm plainAttrs_str PySem.F.slot_str_split PySem.F.type_str_split kR (xv 0) (xac xstr xa0)))) ?_;refine⟨_,rfl,rfl,S l,S [10],rfl,rfl,rfl,by rw[aH];omega,λp hp=>q p _ (ac hp _) hp ?_⟩;rw[aa,jS,l26];rfl
abbrev fm:Stmt:=meth 52 0
abbrev fo:Stmt:=meth 52 1
def mf (F:Fun K "__init__" "Document.__init__" fm f fd)(T:TxF K mg c dc BT):FnOk P w K mg base CX0 1 f fd p9 (spInitL dc "blocks"):=by
 have sc:FnScope p9 p9 (ad fm):=mkS;refine F.oks sc λ{_ _ _ _ vs _}H Q hr h=>?_;obtain⟨x,dx,l,xs,rfl,e,el,q⟩:=h;refine am (xb1 (aK (xv 0) (xcTy aq T.g10 rfl (xac (xv 1) xa0)))) ?_;refine⟨_,rfl,l,_,rfl, .inl (SqL.of el),λp hp=>⟨_,rfl,x,_,dx,_,rfl,ac hp _ _ _ e,T.q34.cls,T.u35,by decide,?_⟩⟩;have hpx:p≠x:=(nq e hp);exact q p _ hp ((bt hp).trans keep_upd) ((af hpx).trans aa) aa
inductive DocAt (dc:Addr)(R:Hp->Addr->β->Prop)(H:Hp)(a:Addr)(bs:List β):Prop
 |mk (dx l)(_:H a=some (.ins dc dx [("blocks", .ref l)]))(_:LAt R H l bs)
inductive spDocTold (dc:Addr)(R:Hp->Addr->β->Prop)(f:β->PyData)(ok:β->Prop)(vs:List V)(H:Hp)(Q:VK)(u3:XK):Prop
 |mk (a bs)(_:vs=[.ref a])(_:DocAt dc R H a bs)(_:bs.length<=1000)(_:∀b∈bs,ok b)(_:∀v H',Same H H'->Dn (dif H H') v (.list (bs.map f))->Q v H')
def mh {k:Nat}{fB:β->PyData}{ok:β->Prop}(F:Fun K "told" "Document.told" fo f fd)(T:TxF K mg c dc BT)(hM:MV P w K mg base k "told" R ok (tellsB fB))(mR:MoR R):FnOk P w K mg base CX0 (k+1) f fd ["self"] (spDocTold dc R fB ok):=by
 have sc:FnScope ["self"] ["self"] (ad fo):=mkS;refine F.oks sc λH Q hr h=>?_;obtain⟨a,bs,rfl,⟨dx,l,e,as,el,hls⟩,hl,hok,q⟩:=h;refine am (xb1 (xret (xlc0 (own:=["block"])
  (xil (xfld (xv 0)))
  (λ_ _ _ _=>xgm (i:=0) (show (["block"]:List Str).Nodup by decide)) (λ_ _ _ _=>xq0) (λ_ _ _ _=>(jY (k:=k) (xv 0) hr.mono))))) ?_
 have w6:=hls.len;refine⟨_,rfl,a,_,dx,_,_,rfl,e,T.q34.cls,T.u35,rfl,l,rfl,⟨_,SqL.of el⟩,?_⟩;refine cf (λi=>((bs[i]?).map fB).getD .none) (SqL.of el) (by rw[l0];omega) ?_ ?_
 ·intro i x hx H2 s2 C N hC;obtain⟨a,b,rfl,hei,_,ha⟩:=hls.get hx;obtain⟨Cc,dx,fs,sp,e1,e2,V,hsp⟩:=hM b (hok b (l15 hei)) H2 a (mR _ _ _ _ s2 ha);refine⟨(nfLe.refl _ _ _).set ∅ _,iteT (B:=N H2) ⟨_,rfl,a,Cc,dx,fs,_,sp,rfl,e1,e2,V,hsp _ _ λv H4 ⟨s4,d4⟩=>hC v H4 s4 ?_⟩⟩;rw[hei];exact d4
 ·intro D H2 hD s2 dD;rw[l0,w6,aU] at dD;exact q _ _ s2 dD
abbrev om:Stmt:=top 82
inductive spReadT (dc:Addr)(R:Hp->Addr->β->Prop)(rdg:List (List Nat)->β×Nat)(vs:List V)(H:Hp)(Q:VK)(u3:XK):Prop
 |mk (l:List Nat)(_:vs=[vS l])(_:9∉l)(_:l.length<=100000)(_:SmR (aD 10 l))(_:∀a H',Same H H'->DocAt dc R (dif H H') a ((blkR rdg (aD 10 l).length 0 (aD 10 l)).map (·.1))->Q (.ref a) H')
def pX {k:Nat}{rdg:List (List Nat)->β×Nat}(hk:5<=k)(mR:MoR R)(F:Fun K "read" "read" om f fd)(T:TxF K mg c dc BT)(Yd:Def P w K mg base 1 "need_text" ["thing"] spNeedT)(Ye:Def P w K mg base 1 "rows_of" ["text"] spRowsOf)(DA:Def P w K mg base k "blocks_of" p5 (spBlks R rdg 0))(Yf:New P w K mg base 1 "Document" dc p9 (spInitL dc "blocks")):FnOk P w K mg base CX0 (k+1) f fd ["text"] (spReadT dc R rdg):=by
 have sc:FnScope ["text","triples"] ["text"] (ad om):=mkS;refine F.oks sc λH Q hr h=>?_;obtain⟨l,rfl,h9,hl,hok,q⟩:=h;refine am (xbc (xst (i:=1) sc.nd (xcd DA hr (xac (xcd Ye hr (xac (xcd Yd hr (xac (xv 0) xa0)) xa0)) (xac xint xa0))))
  (xb1 (xret (xnew Yf hr.mono (xac (xlc0 (own:=["triple"])
  (xil (xv 1))
  (λ_ _ _ _=>xgm (i:=0) (show (["triple"]:List Str).Nodup by decide)) (λ_ _ _ _=>xq0) (λ_ _ _ _=>(xix b9 (xv 0) xint (λ_ _=>rfl)))) xa0))))) ?_
 refine⟨_,rfl,l,rfl,h9,λH1 s1=>⟨l,rfl,l11 hl ∅,λrw0 H2 s2 hr2 er2=>⟨rw0,aD 10 l,rfl,er2,hok,λr ts H3 s3 hr3 er hts=>?_⟩⟩⟩;dsimp only[tAsg.K0,tDrop.K0,Ends.to_nx,Ends.to_rt,al,sA,sB];have hbl:=iH (rdg:=rdg) (aD 10 l).length 0 (aD 10 l);have htl:=hts.len;have hwl:=hok.len;obtain⟨as,ha1,ha2,ha3⟩:=kz hts;refine⟨_,rfl,r,rfl,⟨_,SqL.of er⟩,?_⟩;refine lQ (λj=>(((as.map V.ref)[j]?).getD .non)) (SqL.of er) (by rw[l0,sizeLine_eq];omega) ?_ ?_
 ·intro j x hx H4 s4 C N hC;rw[List.getElem?_map] at hx;cases hj:ts[j]? with
  |none=>rw[hj] at hx;cases hx
  |some t=>
  rw[hj] at hx;cases hx;obtain⟨a,x,p1,p2,p3⟩:=ha2 j t hj;refine⟨(nfLe.refl _ _ _).set ∅ _,iteT (B:=N H4) ⟨_,rfl,t,_,0,_,rfl,rfl,SqT.of (s4 _ _ (dif_same _ _ p3)),ag (j:=0) rfl,?_⟩⟩;have:=hC H4 (Same.refl _);rw[List.getElem?_map,p1] at this;exact this
 intro D H4 hD s4 eD;have eD:H4 D=some (.lst (as.map V.ref)):=by
  rw[eD,l0,<- ha1];congr 2;apply l73;intro j;by_cases hj:j < as.length
  ·rw[List.getElem?_map,List.getElem?_range hj,l81,List.getElem?_map,List.getElem?_eq_getElem hj];rfl
  ·rw[List.getElem?_eq_none (by rw[l0,l41];omega),List.getElem?_eq_none (by rw[l0];omega)]
 refine λy dx hy hd' hyd=>⟨y,dx,D,_,rfl,aa,ini0 hy hd' _ _ eD,λp2 H6 hp2 kx e6p e6y=>⟨rfl,?_⟩⟩;have s46:=ini hy hd' kx;have s02:=s1.trans s2;have s04:=(s02.trans s3).trans s4;have hp2':H4 p2=none:=(ini0 hy hd').free hp2;exact q y H6 (s04.trans s46) ⟨dx,p2,by rw[ao (s04.free hy)];exact e6y,as,by rw[ao (s04.free hp2')];exact e6p,ha3.mono λa x=>mR _ _ _ _ (ar s02 (s4.trans s46))⟩
end
end K14
namespace Lw
open PySem L2 Lm
def pY {r:List Nat}(h:aV r = .empty):emp r=true:=by unfold emp;rw[h];rfl
def pZ {q:Bool}{r:List Nat}(h:srtQ q r = .empty):emp r=true:=by
 unfold srtQ at h;split at h
 ·split at h <;> cases h
 ·exact pY h
section
variable {β:Type}{q:Bool}{inn:List (List Nat)->List β}{r:List Nat}{rs:List (List Nat)}
def oo {α:Type}{f:Srt->Option α}{x:α}(h:f (srtQ q r)=some x):1<=(tkW f q (r::rs)).length:=by rw[iC h,l4];omega
def qQ {k:Nat}{a b:Nat}{x:List Nat}(h:aG q rs = .item a b x):1<=(itR q (k+1) rs).2:=by
 rw[itR,h];show 1<=1+_+_;omega
def oq (h:emp r=false):1<=(rdF q inn (r::rs)).2:=by
 unfold rdF;cases hs:aG q (r::rs) with
 |empty=>rw[pZ hs] at h;cases h
 |heading _ _=>exact l5 _
 |name _ _=>exact l5 _
 |note _ _=>exact Nat.le_add_right _ _
 |fence=>exact Nat.le_add_right _ _
 |quote x=>exact oo (f:=fc) (show fc (aG q (r::rs))=some x by rw[hs];rfl)
 |cells x=>exact oo (f:=c9) (show c9 (aG q (r::rs))=some x by rw[hs];rfl)
 |item a b x=>exact qQ hs
 |plain a x=>exact oo (f:=c8) (show c8 (aG q (r::rs))=some x by rw[hs];rfl)
def eG (h:rs≠[]):1+(au q rs).length<=rs.length:=by
 cases rs with
 |nil=>exact absurd rfl h
 |cons r rs=>
  have:=dJ (f:=cv) (q:=q) rs;show 1+(tkW cv q rs).length<=_;rw[l4];omega
theorem ot:∀rs:List (List Nat),(litR rs).2<=rs.length/\(litR rs).1.length<=rs.length/\∀x∈(litR rs).1,x∈rs
 | []=>⟨l5 _,l5 _,λ_ z=>nomatch z⟩
 |r::rs=>by
  obtain⟨h1,h2,h3⟩:=ot rs;by_cases h:aW (aV r)=ba
  ·rw[show litR (r::rs)=([],1) from if_pos h,l4];exact⟨by show 1<=_;omega,l12 _,λ_ z=>nomatch z⟩
  ·rw[show litR (r::rs)=(r::(litR rs).1,(litR rs).2+1) from if_neg h,l4];refine⟨by show _+1<=_;omega,by show (litR rs).1.length+1<=_;omega,λx hx=>?_⟩;rcases l6.mp hx with z |z
   ·rw[z];exact l10
   ·exact l7 _ (h3 x z)
def uN:∀(k:Nat) (rs:List (List Nat)),(itR q k rs).2<=rs.length
 |0,_=>l12 _
 |k+1,rs=>by
  rw[itR];split
  ·rename_i e;have hne:rs≠[]:=λz=>by rw[z] at e;cases e
   have h1:=eG (q:=q) hne;have h2:=uN k (rs.drop (1+(au q rs).length));rw[l9] at h2;show 1+_+_<=_;omega
  ·exact l12 _
def qR (h:rs≠[]):(rdF q inn rs).2<=rs.length:=by
 have h1:1<=rs.length:=List.length_pos_iff.mpr h;unfold rdF;split
 ·exact h1
 ·exact h1
 ·exact eG h
 ·have:=(ot (rs.drop 1)).1;rw[l9] at this;show 1+_<=_;omega
 ·exact dJ rs
 ·exact dJ rs
 ·exact uN _ _
 ·exact dJ rs
def vt (h:SmR rs):OkI (itR q rs.length rs).1:=by
 have key:∀(k:Nat) (rs:List (List Nat)),SmR rs->(itR q k rs).1.length<=rs.length/\∀x∈(itR q k rs).1,(x.2.1=43 ∨ x.2.1=45)/\x.2.2.length<=900/\Asc x.2.2:=by
  intro k
  induction k with
  |zero=>exact λrs _=>⟨l12 _,λ_ z=>nomatch z⟩
  |succ k ih=>
   intro rs h;rw[itR];split
   ·rename_i far sg w e;have hne:rs≠[]:=λz=>by rw[z] at e;cases e
    have h1:=eG (q:=q) hne;obtain⟨i1,i2⟩:=ih (rs.drop (1+(au q rs).length)) (h.drop _);have hz:SzS ((rs.head?).getD []).length (.item far sg w)/\AscS (.item far sg w)/\∀r,rs.head? = some r->w.length<=r.length/\Asc w:=by
     cases rs with
     |nil=>exact absurd rfl hne
     |cons r rs=>
      have a1:=cu q r;have a2:=bV (q:=q) (h.asc r l10);rw[show srtQ q r=_ from e] at a1 a2;exact⟨a1,a2,λr' hr'=>by cases hr';exact⟨a1.2,a2.2⟩⟩
    have hg:=(h.more (q:=q) (w:=w) hne hz.2.2).glue;rw[l9] at i1;refine⟨by show _+1<=_;omega,λx hx=>?_⟩;rcases l6.mp hx with z |z
    ·rw[z];exact⟨hz.1.1,hg.1,hg.2⟩
    ·exact i2 x z
   ·exact⟨l12 _,λ_ z=>nomatch z⟩
 obtain⟨a,b⟩:=key rs.length rs h;exact⟨l11 a h.len,b⟩
def qS:∀(n:Nat) (its:List Itm),OkI its->(entR n its).1.length<=its.length/\∀e∈(entR n its).1,OkE n e
 |0,_,_=>⟨l12 _,λ_ z=>nomatch z⟩
 |n+1,its,h=>by
  have key:∀(k:Nat) (its:List Itm),OkI its->(entF (entR n) (5 - n) k its).1.length<=its.length/\∀e∈(entF (entR n) (5 - n) k its).1,OkE (n+1) e:=by
   intro k
   induction k with
   |zero=>exact λ_ _=>⟨l12 _,λ_ z=>nomatch z⟩
   |succ k ih=>
    intro its h;cases its with
    |nil=>exact⟨l12 _,λ_ z=>nomatch z⟩
    |cons x r=>
     have hr:OkI r:=⟨by have:=h.1;rw[l4] at this;omega,λy hy=>h.2 y (l7 _ hy)⟩;have hd:OkI (r.drop (entR n r).2):=⟨by have:=hr.1;rw[l9];omega,λy hy=>hr.2 y (l61 hy)⟩;obtain⟨i1,i2⟩:=ih _ hd;obtain⟨j1,j2⟩:=qS n r hr;obtain⟨_,x1,x2⟩:=h.2 x l10;rw[entF];split
     ·rw[l9] at i1;refine⟨by show _+1<=_+1;omega,λe he=>?_⟩;rcases l6.mp he with z |z
      ·rw[z];exact⟨bJ x2 x1,l11 j1 (by have:=hr.1;omega),j2⟩
      ·exact i2 e z
     ·exact⟨l12 _,λ_ z=>nomatch z⟩
  exact key its.length its h
def qa {m:Nat}{ts:List (List Nat)}(hm:m<=900)(hl:ts.length<=900)(h:∀t∈ts,t.length<=900/\Asc t):OkCs (bA m ts):=by
 unfold bA;refine⟨by rw[l0,l8,l36];omega,λps hp=>?_⟩;obtain⟨t,ht,rfl⟩:=l16.mp hp;rcases l20.mp ht with z |z
 ·exact bJ (h t z).2 (h t z).1
 ·rw[(List.mem_replicate.mp z).2];exact bJ (λ_ y=>nomatch y) (l12 _)
def uO {ok:β->Prop}{ls:List (List (List Nat))}(hl:ls.length<=900)(h:∀ts∈ls,ts.length<=900/\∀t∈ts,t.length<=900/\Asc t):OkBF ok (tblR (β:=β) ls):=by
 have hm:bZ ls<=900:=by
  clear hl
  induction ls with
  |nil=>exact l12 _
  |cons x ls ih=>
   have h1:=ih λts hts=>h ts (l7 _ hts);have h2:=(h x l10).1;show max x.length (bZ ls)<=_;omega
 have hc:∀ts∈ls,OkCs (bA (bZ ls) ts):=λts hts=>qa hm (h ts hts).1 (h ts hts).2;unfold tblR;split
 ·exact⟨⟨l12 _,λ_ z=>nomatch z⟩,l12 _,by rw[l0];omega,λl hl=>by obtain⟨ts,hts,rfl⟩:=l16.mp hl;exact hc ts hts⟩
 ·rename_i hn;have h2:2<=ls.length:=by
   by_cases h:ls.length < 2
   ·exact absurd (.inl h) hn
   ·omega
  have m0:ls.getD 0 []∈ls:=by rw[l22,List.getElem?_eq_getElem nofun];exact l34 _
  have m1:ls.getD 1 []∈ls:=by rw[l22,List.getElem?_eq_getElem nofun];exact l34 _
  have h3:=(h _ m1).1;exact⟨hc _ m0,by rw[l8,l0,l36];omega,by rw[l0,l9];omega,λl hl=>by obtain⟨ts,hts,rfl⟩:=l16.mp hl;exact hc ts (l61 hts)⟩
def qT {ok:β->Prop}(hin:∀xs,SmR xs->(inn xs).length<=1000/\∀b∈inn xs,ok b)(h:SmR rs):OkBF ok (rdF q inn rs).1:=by
 have hz:SzS 900 (aG q rs)/\AscS (aG q rs)/\∀w,(∃n,aG q rs = .note n w)->rs≠[]/\∀r,rs.head? = some r->w.length<=r.length/\Asc w:=by
  cases rs with
  |nil=>exact⟨trivial,trivial,λw ⟨n,e⟩=>nomatch e⟩
  |cons r rs=>
   have a1:=cu q r;have a2:=bV (q:=q) (h.asc r l10);have a3:=h.row (r:=r) l10;refine⟨?_,a2,λw ⟨n,e⟩=>⟨by simp,λr' hr'=>?_⟩⟩
   ·show SzS 900 (srtQ q r);generalize srtQ q r=s at a1;cases s with
    |empty=>trivial
    |fence=>trivial
    |quote x=>exact l11 a1 a3
    |heading l w=>exact⟨a1.1,l11 a1.2 a3⟩
    |cells ts=>exact⟨a1.1,l11 a1.2.1 a3,λt ht=>l11 (a1.2.2 t ht) a3⟩
    |note a w=>exact⟨l11 a1.1 a3,l11 a1.2 a3⟩
    |name a w=>exact⟨l11 a1.1 a3,l11 a1.2 a3⟩
    |item a b w=>exact⟨a1.1,l11 a1.2 a3⟩
    |plain a w=>exact l11 a1 a3
   ·cases hr';rw[show srtQ q r=_ from e] at a1 a2;exact⟨a1.2,a2.2⟩
 obtain⟨h1,h2,h3⟩:=hz;unfold rdF;cases hs:aG q rs with
 |heading lv w=>rw[hs] at h1 h2;exact⟨h1.1,bJ h2 h1.2⟩
 |name n t=>rw[hs] at h1 h2;exact⟨⟨h2.1,l11 h1.1 ∅⟩,h2.2,l11 h1.2 ∅⟩
 |note n w=>
  obtain⟨a,b⟩:=h3 w ⟨n,hs⟩;have hg:=(h.more (q:=q) a b).glue;rw[hs] at h1 h2;exact⟨⟨h2.1,l11 h1.1 ∅⟩,bJ hg.2 hg.1⟩
 |fence=>
  obtain⟨a,b,d⟩:=ot (rs.drop 1);have:=(h.drop 1).len;exact⟨by omega,λl hl=>⟨(h.drop 1).asc l (d l hl),l11 ((h.drop 1).row (d l hl)) ∅⟩⟩
 |quote x=>exact hin _ (h.tk li jB)
 |cells x=>
  refine uO (l11 (dJ rs) h.len) λts hts=>?_;obtain⟨r,hr,e⟩:=lf hts;have a1:=cu q r;have a2:=bV (q:=q) (h.asc r hr);have a3:=h.row hr;have e:srtQ q r = .cells ts:=by
   generalize srtQ q r=s at e;cases s <;> cases e
   rfl
  rw[e] at a1 a2;exact⟨l11 a1.2.1 a3,λt ht=>⟨l11 (a1.2.2 t ht) a3,a2 t ht⟩⟩
 |item a b x=>
  have ho:=(vt (q:=q) h).lvs.1;obtain⟨e1,e2⟩:=qS 6 _ ho;exact⟨l11 e1 (l11 ho.1 ∅),e2⟩
 |empty=>have hg:=(h.tk (q:=q) dL dM).glue;exact bJ hg.2 hg.1
 |plain a x=>have hg:=(h.tk (q:=q) dL dM).glue;exact bJ hg.2 hg.1
end
theorem dS {β:Type}{rd:List (List Nat)->β×Nat}:∀(k p:Nat) (rs:List (List Nat)),(blkR rd k p rs).length<=k
 |0,_,_=>l5 _
 |_+1,_,[]=>l12 _
 |k+1,p,r::rs=>by
  rw[blkR];split
  ·exact Nat.le_succ_of_le (dS k _ _)
  ·exact Nat.succ_le_succ (dS k _ _)
theorem eH {β:Type}{rd:List (List Nat)->β×Nat}{ok:β->Prop}(h:∀rs,SmR rs->ok (rd rs).1):∀(k p:Nat) (rs:List (List Nat)),SmR rs->∀b∈(blkR rd k p rs),ok b.1
 |0,_,_,_=>λ_ z=>nomatch z
 |_+1,_,[],_=>λ_ z=>nomatch z
 |k+1,p,r::rs,hs=>λb hb=>by
  rw[blkR] at hb;split at hb
  ·exact eH h k _ rs (hs.drop 1) b hb
  ·rcases l6.mp hb with z |z
   ·rw[z];exact h _ hs
   ·exact eH h k _ _ (hs.drop _) b z
def mj:∀(n:Nat) (rs:List (List Nat)),SmR rs->OkB n (rd n rs).1
 |0,rs,h=>qT (ok:=λz:Empty=>nomatch z) (λ_ _=>⟨l12 _,λ_ z=>nomatch z⟩) h
 | n + 1, rs, h => qT (ok := OkB n) (fun xs hx => ⟨by rw[l0];exact l11 (dS _ _ _) (l11 hx.len ∅),λb hb=>by
   obtain⟨t,ht,rfl⟩:=l16.mp hb;exact eH (ok:=OkB n) (λrs hs=>mj n rs hs) _ _ _ hx t ht⟩) h
section
variable {α β:Type}{f:Srt->Option α}{q:Bool}{inn:List (List Nat)->List β}{rs rs':List (List Nat)}{n:Nat}
theorem lq (h0:f .empty=none):∀rs:List (List Nat),f (aG q (rs.drop (tkW f q rs).length))=none
 | []=>h0
 |r::rs=>by
  cases e:f (srtQ q r) with
  |none=>rw[ez (rs:=r::rs) e];exact e
  |some x=>rw[iC e];exact lq h0 rs
def Nx (q:Bool)(rs rs':List (List Nat))(n:Nat):Prop:=aG q (rs'.drop n) = .empty ∨ aG q (rs'.drop n)=aG q (rs.drop n)
def Nx.no (h:Nx q rs rs' n)(h0:f .empty=none)(e:f (aG q (rs.drop n))=none):f (aG q (rs'.drop n))=none:=by
 rcases h with h |h <;> rw[h]
 ·exact h0
 ·exact e
def jF {m:Nat}(ht:rs'.take n=rs.take n)(hm:m < n):aG q (rs'.drop m)=aG q (rs.drop m):=by
 rw[cP,cP];have:rs'[m]? = rs[m]? := by
  have:=congrArg (λl:List (List Nat)=>l[m]?) ht;simp only[List.getElem?_take,hm,if_true] at this;exact this
 rw[this]
def dU {m k:Nat}(ht:rs'.take n=rs.take n)(h:m+k<=n):(rs'.drop m).take k=(rs.drop m).take k:=by
 have:=congrArg (λl:List (List Nat)=>(l.drop m).take k) ht;simp only[List.drop_take,List.take_take] at this;rw[l39 nofun] at this;exact this
def kE (h0:f .empty=none)(ht:rs'.take (tkW f q rs).length=rs.take (tkW f q rs).length)(hx:Nx q rs rs' (tkW f q rs).length):tkW f q rs'=tkW f q rs:=
 nT ht (hx.no h0 (lq h0 rs))
def jG (ht:rs'.take (1+(au q rs).length)=rs.take (1+(au q rs).length))(hx:cv (aG q (rs'.drop (1+(au q rs).length)))=none):au q rs'=au q rs:=by
 unfold au at ht hx ⊢;refine nT (dU ht (l5 _)) ?_;rw[l18];exact hx
theorem ow:∀{rs rs':List (List Nat)},rs'.take (litR rs).2=rs.take (litR rs).2->(1<=(litR rs).2/\aW (aG true (rs.drop ((litR rs).2 - 1)))=ba) ∨ rs'.length=(litR rs).2->litR rs'=litR rs
 | [],rs',_,h=>by
  rcases h with ⟨h,_⟩ |h
  ·exact absurd h ∅
  ·rw[l49 h]
 |r::rs,rs',ht,h=>by
  by_cases hf:aW (aV r)=ba
  ·rw[show litR (r::rs)=([],1) from if_pos hf] at ht ⊢;cases rs' with
   |nil=>cases ht
   |cons r' rs'=>
    have:r'=r:=by injection ht
    subst this;exact if_pos hf
  ·have e:litR (r::rs)=(r::(litR rs).1,(litR rs).2+1):=if_neg hf;rw[e] at ht h ⊢;cases rs' with
   |nil=>cases ht
   |cons r' rs'=>
    have ht:r'::rs'.take (litR rs).2=r::rs.take (litR rs).2:=ht;injection ht with a b
    subst a;have i := ow (rs := rs) (rs' := rs') b (by
     rcases h with ⟨h1,h2⟩ |h
     ·have h2:aW (aG true ((r'::rs).drop (litR rs).2))=ba:=h2;by_cases hz:(litR rs).2=0
      ·rw[hz] at h2;have:aG true (r'::rs)=aV r':=by
        show srtQ true r'=_;unfold srtQ;split
        ·rename_i e;rw[e];rfl
        ·rfl
       rw[show (r'::rs).drop 0=r'::rs from rfl,this] at h2;exact absurd h2 hf
      ·refine .inl ⟨by omega,?_⟩;obtain⟨m,hm⟩:∃m,(litR rs).2=m+1:=⟨(litR rs).2 - 1,by omega⟩;rw[hm] at h2 ⊢;exact h2
     ·exact .inr (by rw[l4] at h;exact Nat.succ.inj h))
    rw[show litR (r'::rs')=(r'::(litR rs').1,(litR rs').2+1) from if_neg hf,i]
def iL:∀(k:Nat) {rs:List (List Nat)},rs.length<=k->itR q k rs=itR q rs.length rs
 |0,rs,h=>by rw[l49 (Nat.le_zero.mp h)];rfl
 |k+1,rs,h=>by
  cases rs with
  |nil=>rfl
  |cons r rs=>
   rw[l4,itR,itR];split
   ·rename_i far sg w e;have h1:=eG (q:=q) (rs:=r::rs) (by simp);rw[l4] at h1 h;have hd:((r::rs).drop (1+(au q (r::rs)).length)).length<=rs.length:=by rw[l9,l4];omega
    rw[iL k (l11 hd nofun),iL rs.length hd]
   ·rfl
termination_by k rs=>k
def qU:∀(k:Nat) {rs rs':List (List Nat)},rs.length<=k->1<=(itR q rs.length rs).2->rs'.take (itR q rs.length rs).2=rs.take (itR q rs.length rs).2->Nx q rs rs' (itR q rs.length rs).2->itR q rs'.length rs'=itR q rs.length rs
 |0,rs,rs',h,h1,_,_=>by rw[l49 (Nat.le_zero.mp h)] at h1;exact absurd (show 1<=0 from h1) ∅
 |k+1,rs,rs',h,h1,ht,hx=>by
  cases rs with
  |nil=>exact absurd (show 1<=0 from h1) ∅
  |cons r rs0=>
   cases hs:aG q (r::rs0) with
   |item far sg w=>
    have ml:=eG (q:=q) (rs:=r::rs0) (by simp);have dl:((r::rs0).drop (1+(au q (r::rs0)).length)).length<=rs0.length:=by rw[l9,l4];omega
    have e:itR q (r::rs0).length (r::rs0)=((far,sg,aF [32] (w::au q (r::rs0)))::(itR q ((r::rs0).drop (1+(au q (r::rs0)).length)).length ((r::rs0).drop (1+(au q (r::rs0)).length))).1,1+(au q (r::rs0)).length+(itR q ((r::rs0).drop (1+(au q (r::rs0)).length)).length ((r::rs0).drop (1+(au q (r::rs0)).length))).2):=by
     rw[l4,itR,hs,iL rs0.length dl]
    rw[e] at ht hx ⊢;rw[l4] at h;generalize hrs:r::rs0=rs at *;have hd:=λ(m:Nat) (hm:m < 1+(au q rs).length+(itR q (rs.drop (1+(au q rs).length)).length (rs.drop (1+(au q rs).length))).2)=>jF (q:=q) ht hm;have hs':aG q rs' = .item far sg w:=by
     have:=hd 0 nofun;rw[l43,l43] at this;rw[this,hs]
    have hend:cv (aG q (rs.drop (1+(au q rs).length)))=none:=by
     have:=lq (f:=cv) (q:=q) rfl (rs.drop 1);rw[l18] at this;exact this
    have hm:au q rs'=au q rs:=by
     refine jG (by have:=dU (m:=0) (k:=1+(au q rs).length) ht nofun;rwa [l43,l43] at this) ?_;by_cases hz:(itR q (rs.drop (1+(au q rs).length)).length (rs.drop (1+(au q rs).length))).2=0
     ·have hx:Nx q rs rs' (1+(au q rs).length+(itR q (rs.drop (1+(au q rs).length)).length (rs.drop (1+(au q rs).length))).2):=hx;rw[hz,Nat.add_zero] at hx;exact hx.no rfl hend
     ·rw[hd _ nofun];exact hend
    have hne':rs'≠[]:=λz=>by rw[z] at hs';cases hs'
    obtain⟨r',rs1,rfl⟩:∃r' rs1,rs'=r'::rs1:=by cases rs' with |nil=>exact absurd rfl hne' |cons a b=>exact⟨a,b,rfl⟩
    have ml':=eG (q:=q) (rs:=r'::rs1) (by simp);have dl':((r'::rs1).drop (1+(au q (r'::rs1)).length)).length<=rs1.length:=by rw[l9,l4];omega
    have e':itR q (r'::rs1).length (r'::rs1)=((far,sg,aF [32] (w::au q (r'::rs1)))::(itR q ((r'::rs1).drop (1+(au q (r'::rs1)).length)).length ((r'::rs1).drop (1+(au q (r'::rs1)).length))).1,1+(au q (r'::rs1)).length+(itR q ((r'::rs1).drop (1+(au q (r'::rs1)).length)).length ((r'::rs1).drop (1+(au q (r'::rs1)).length))).2):=by
     rw[l4,itR,hs',iL rs1.length dl']
    rw[e',hm];have key:itR q ((r'::rs1).drop (1+(au q rs).length)).length ((r'::rs1).drop (1+(au q rs).length))=itR q (rs.drop (1+(au q rs).length)).length (rs.drop (1+(au q rs).length)):=by
     have hx:Nx q rs (r'::rs1) (1+(au q rs).length+(itR q (rs.drop (1+(au q rs).length)).length (rs.drop (1+(au q rs).length))).2):=hx;by_cases hz:(itR q (rs.drop (1+(au q rs).length)).length (rs.drop (1+(au q rs).length))).2=0
     ·-- no further item
      have no:∀zs:List (List Nat),aW (aG q zs)≠g9->itR q zs.length zs=([],0):=λzs hk=>by
       cases zs with
       |nil=>rfl
       |cons z zs=>
        rw[l4,itR];split
        ·rename_i e;rw[e] at hk;exact absurd rfl hk
        ·rfl
      have hk:aW (aG q (rs.drop (1+(au q rs).length)))≠g9:=λz=>by
       obtain⟨a,b,x,e⟩:=f7 z;cases hd2:rs.drop (1+(au q rs).length) with
       |nil=>rw[hd2] at e;cases e
       |cons y ys=>
        rw[hd2] at e hz;have:=qQ (k:=ys.length) e;rw[l4] at hz;omega
      rw[no _ hk,no];rw[hz,Nat.add_zero] at hx;rcases hx with y |y <;> rw[y]
      ·decide
      ·exact hk
     ·refine qU k nofun nofun (dU ht (l5 _)) ?_;unfold Nx at hx ⊢;rw[l18,l18];exact hx
    rw[key]
   |_=>rw[l4,itR,hs] at h1;exact absurd (show 1<=0 from h1) ∅
def ox (hpos:1<=(rdF q inn rs).2)(ht:rs'.take (rdF q inn rs).2=rs.take (rdF q inn rs).2)(hx:Nx q rs rs' (rdF q inn rs).2)(hf:(∃ls,(rdF q inn rs).1 = .lit ls)->(2<=(rdF q inn rs).2/\aW (aG true (rs.drop ((rdF q inn rs).2 - 1)))=ba) ∨ rs'.length=(rdF q inn rs).2):rdF q inn rs'=rdF q inn rs:=by
 have h0:aG q rs'=aG q rs:=by
  have:=jF (q:=q) (m:=0) ht hpos;rwa [l43,l43] at this
 have para:(rdF q inn rs=(.para (bn (aF [32] (tkW c8 q rs))),(tkW c8 q rs).length))->tkW c8 q rs'=tkW c8 q rs:=λe=>by
  rw[e] at ht hx;exact kE rfl ht hx
 unfold rdF at *;rw[h0];cases hs:aG q rs with
 |heading lv w=>rfl
 |name n t=>rfl
 |note n w=>
  rw[hs] at ht hx;have hend:cv (aG q (rs.drop (1+(au q rs).length)))=none:=by
   have:=lq (f:=cv) (q:=q) rfl (rs.drop 1);rw[l18] at this;exact this
  have:=jG ht (hx.no (f:=cv) rfl hend);rw[this]
 |fence=>
  rw[hs] at ht hf;have ht:rs'.take (1+(litR (rs.drop 1)).2)=rs.take (1+(litR (rs.drop 1)).2):=ht;have := ow (rs := rs.drop 1) (rs' := rs'.drop 1) (dU ht (l5 _)) (by
   rcases hf ⟨_,rfl⟩ with ⟨a,b⟩ |a
   ·refine .inl ⟨by have a:2<=1+_:=a;omega,?_⟩;have a:2<=1+(litR (rs.drop 1)).2:=a;have b:aW (aG true (rs.drop (1+(litR (rs.drop 1)).2 - 1)))=ba:=b;rw[l18,show 1+((litR (rs.drop 1)).2 - 1)=1+(litR (rs.drop 1)).2 - 1 by omega];exact b
   ·refine .inr ?_;have a:rs'.length=1+_:=a;rw[l9];omega)
  rw[this]
 |quote x=>
  rw[hs] at ht hx;rw[kE (f:=fc) rfl ht hx]
 |cells x=>
  rw[hs] at ht hx;rw[kE (f:=c9) rfl ht hx]
 |item a b x=>
  rw[hs] at ht hx hpos;rw[qU rs.length (l5 _) hpos ht hx]
 |empty=>rw[para (by rw[hs])]
 |plain a x=>rw[para (by rw[hs])]
end
def LitN:(n:Nat)->Bl n->Prop
 |0,b=>∃ls,b=BkF.lit ls
 |_+1,b=>∃ls,b=BkF.lit ls
theorem gP:∀{n:Nat} {r:List Nat} {rs:List (List Nat)},emp r=false->1<=(rd n (r::rs)).2
 |0,_,_,h=>oq h
 |_+1,_,_,h=>oq h
theorem vv:∀{n:Nat} {rs:List (List Nat)},rs≠[]->(rd n rs).2<=rs.length
 |0,_,h=>qR h
 |_+1,_,h=>qR h
theorem qV:∀{n:Nat} {rs rs':List (List Nat)},1<=(rd n rs).2->rs'.take (rd n rs).2=rs.take (rd n rs).2->Nx (decide (1<=n)) rs rs' (rd n rs).2->(LitN n (rd n rs).1->(2<=(rd n rs).2/\aW (aG true (rs.drop ((rd n rs).2 - 1)))=ba) ∨ rs'.length=(rd n rs).2)->rd n rs'=rd n rs
 |0,_,_,h1,h2,h3,h4=>ox h1 h2 h3 h4
 |n+1,rs,rs',h1,h2,h3,h4=>ox h1 h2 (by rwa [decide_eq_true (show 1<=n+1 by omega)] at h3) h4
def Ris {β:Type}(rdg:List (List Nat)->β×Nat)(rs0:List (List Nat)):Nat->List (β×Nat×Nat)->Prop
 |p,[]=>∀j,p<=j->∀r,rs0[j]? = some r->emp r=true
 |p,x::xs=>p<=x.2.1/\x.2.1 < x.2.2/\x.2.2<=rs0.length/\(∀j,p<=j->j < x.2.1->∀r,rs0[j]? = some r->emp r=true)/\(∃r,rs0[x.2.1]? = some r/\emp r=false)/\rdg (rs0.drop x.2.1)=(x.1,x.2.2 - x.2.1)/\Ris rdg rs0 x.2.2 xs
def Ris.back {β:Type}{rdg:List (List Nat)->β×Nat}{rs0:List (List Nat)}{p:Nat}{xs:List (β×Nat×Nat)}(h:Ris rdg rs0 (p+1) xs)(he:∀r,rs0[p]? = some r->emp r=true):Ris rdg rs0 p xs:=by
 cases xs with
 |nil=>
  intro j hj r hr;by_cases hp:j=p
  ·rw[hp] at hr;exact he r hr
  ·exact h j nofun r hr
 |cons x xs=>
  obtain⟨h1,h2,h3,h4,h5⟩:=h;refine⟨by omega,h2,h3,λj hj hj2 r hr=>?_,h5⟩;by_cases hp:j=p
  ·rw[hp] at hr;exact he r hr
  ·exact h4 j nofun hj2 r hr
def oy {β:Type}{rdg:List (List Nat)->β×Nat}{rs0:List (List Nat)}(hpos:∀r rs,emp r=false->1<=(rdg (r::rs)).2)(hle:∀rs,rs≠[]->(rdg rs).2<=rs.length):∀(k p:Nat),rs0.length - p<=k->Ris rdg rs0 p (blkR rdg k p (rs0.drop p))
 |0,p,h=>λj hj r hr=>by have:=(List.getElem?_eq_some_iff.mp hr).1;omega
 |k+1,p,h=>by
  by_cases hlt:p < rs0.length
  ·have hdr:=l25 hlt;have hg:rs0[p]? = some rs0[p]:=List.getElem?_eq_getElem hlt;rw[hdr,blkR];split
   ·rename_i he;exact(oy hpos hle k (p+1) nofun).back λr hr=>by rw[hg] at hr;cases hr;exact he
   ·rename_i he;have he:emp rs0[p]=false:=Bool.eq_false_iff.mpr he;have h1:=hpos rs0[p] (rs0.drop (p+1)) he;have h2:=hle (rs0[p]::rs0.drop (p+1)) (λz=>nomatch z);rw[<- hdr] at h1 h2 ⊢;rw[l9] at h2;refine⟨l5 _,by show p < p+_;omega,by show p+_<=_;omega,λj hj hj2=>absurd hj2 (Nat.not_lt.mpr hj),⟨_,hg,he⟩,?_,?_⟩
    ·show rdg (rs0.drop p)=((rdg (rs0.drop p)).1,p+(rdg (rs0.drop p)).2 - p);rw[Nat.add_sub_cancel_left]
    ·rw[l18];exact oy hpos hle k (p+(rdg (rs0.drop p)).2) nofun
  ·rw[l32 nofun];intro j hj r hr;have:=(List.getElem?_eq_some_iff.mp hr).1;omega
def ris (n:Nat)(rs:List (List Nat)):Ris (rd n) rs 0 (blks n rs):=oy (λ_ _ h=>gP h) (λ_ h=>vv h) rs.length 0 (Nat.sub_le _ _)
def oz (r:List Nat):aV (62::32::r) = .quote r:=by
 have hb:∃y,bc (62::32::r)=62::y:=by
  have h1:=m4 (62::32::r);cases hl:(bc (62::32::r)).length with
  |zero=>
   have:=(eO _).mp (l49 hl) 62 l10;exact absurd this ∅
  |succ m=>rw[hl] at h1;exact⟨_,h1⟩
 obtain⟨y,hy⟩:=hb;unfold aV;simp only[];rw[hy,if_neg (by simp),if_pos (by rfl)];rfl
theorem tk_q:∀rs:List (List Nat),tkW fc true (rs.map λr=>62::32::r)=rs
 | []=>rfl
 |r::rs=>by
  rw[l13,iC (x:=r),tk_q rs];unfold srtQ;rw[oz];rfl
def dAll (n:Nat)(rs:List (List Nat)):List PyData:=(blks n rs).map λx=>dB n x.1
def vw (n:Nat){rs:List (List Nat)}(h:rs≠[]):dAll (n+1) (rs.map λr=>62::32::r)=[.tuple [.str "quote", .list (dAll n rs)]]:=by
 cases rs with
 |nil=>exact absurd rfl h
 |cons r rs=>
  have he:emp (62::32::r)=false:=by unfold emp;rw[oz];rfl
  have hs:aG true ((r::rs).map λr=>62::32::r) = .quote r:=by
   show srtQ true (62::32::r)=_;unfold srtQ;rw[oz];rfl
  have hr:rd (n+1) ((r::rs).map λr=>62::32::r)=(BkF.quote ((blks n (r::rs)).map (·.1)),(r::rs).length):=by
   show rdF true _ _=_;unfold rdF;rw[hs,tk_q];rfl
  have hb:blks (n+1) ((r::rs).map λr=>62::32::r)=[(BkF.quote ((blks n (r::rs)).map (·.1)),0,0+(r::rs).length)]:=by
   unfold blks;rw[l0,l4,l13,blkR,if_neg (by rw[he];exact Bool.noConfusion),<- l13 (f:=λr=>62::32::r),hr];show _::blkR (rd (n+1)) rs.length _ (List.drop (rs.length+1) _)=_;rw[l32 (by rw[l0];exact l5 _)];have:∀k p,blkR (rd (n+1)) k p []=[]:=λk p=>by cases k <;> rfl
   rw[this];rfl
  unfold dAll;rw[hb];show [PyData.tuple [.str "quote", .list (((blks n (r::rs)).map (·.1)).map (dB n))]]=_;rw[l26];rfl
end Lw
namespace K14
open PySem L2 Lm Lw
def GdR (r:List Nat):Prop:=∀c∈r,c < 128/\c≠10/\c≠9
def GdR.app {a b:List Nat}(h:GdR a)(k:GdR b):GdR (a++b):=λc hc=>(l20.mp hc).elim (h c) (k c)
def okV (m:Nat):V->Bool
 | .str x=>x.cps.toList.all (λc=>decide (c < 128)&&decide (c≠10)&&decide (c≠9))&&decide (x.cps.toList.length<=m)
 |_=>false
theorem oA {m:Nat}:∀{xs:List V},xs.all (okV m)=true->∃ys:List (List Nat),xs=ys.map vS/\∀y∈ys,y.length<=m/\GdR y
 | [],_=>⟨[],rfl,λ_ z=>nomatch z⟩
 |v::xs,h=>by
  rw[List.all_cons,Bool.and_eq_true] at h;obtain⟨ys,e,k⟩:=oA h.2;cases v with
  |str x=>
   have h1:=h.1;unfold okV at h1;rw[Bool.and_eq_true] at h1;refine⟨x.cps.toList::ys,by rw[e,l13],λy hy=>?_⟩;rcases l6.mp hy with z |z
   ·rw[z];refine⟨of_decide_eq_true h1.2,λc hc=>?_⟩;have:=l40.mp h1.1 c hc;rw[Bool.and_eq_true,Bool.and_eq_true] at this;exact⟨of_decide_eq_true this.1.1,of_decide_eq_true this.1.2,of_decide_eq_true this.2⟩
   ·exact k y z
  |_=>exact absurd h.1 (by unfold okV;exact Bool.noConfusion)
def jH {t:TA}{σ:St}{H:Hp}{Q:VK}(m:Nat)(xs:List V)(ht:∀R:List V->Hp->Prop,R xs H->t σ H R)(hok:xs.all (okV m)=true)(hl:xs.length<=1000000)(k:∀a (ys:List (List Nat)),H a=none->xs.length=ys.length->(∀y∈ys,y.length<=m/\GdR y)->Q (.ref a) (upd H a (.lst (ys.map vS)))):tLst t σ H Q:=by
 refine ht _ ⟨big hl,λa ha=>?_⟩;obtain⟨ys,rfl,h⟩:=oA hok;exact k a ys ha (l0 _) h
def uP {t:TA}{g:TG}{u:TS}{D:Ends}{σ:St}{H:Hp}(m:Nat)(xs:List V)(ht:∀R:List V->Hp->Prop,R xs H->t σ H R)(hok:xs.all (okV m)=true)(hl:xs.length<=1000000)(k:∀a (ys:List (List Nat)),H a=none->xs.length=ys.length->(∀y∈ys,y.length<=m/\GdR y)->g (.ref a) σ (upd H a (.lst (ys.map vS))) (u D)):tSeq (tAsg (tLst t) g) u D σ H:=jH (Q:=λx H1=>g x σ H1 (u D)) m xs ht hok hl k
section
abbrev kF:Stmt:=top 99
inductive spCellAt (K:Frag)(vs:List V)(H:Hp)(Q:VK)(u3:XK):Prop
 |mk (a:Addr)(ns:List Int)(k:Nat)(_:vs=[.ref a, .int k])(_:SqL K H a (ns.map V.int))(_:∀i:Int,Q (.int i) H)
def oB (F:Fun K "_law_cell_at" "_law_cell_at" kF f fd)(T:Tx mg):FnOk P w K mg base CX0 1 f fd p20 (spCellAt K):=by
 have sc:FnScope p20 p20 (ad kF):=mkS;refine F.oks sc λH Q hr h=>?_;obtain⟨a,ns,k,rfl,hq,q⟩:=h;refine am (xbc (xif (az db (xv 1) (xcB aj T.u10 PySem.boot_len (xac (xv 0) xa0)) (ai _)) (xb1 (xret (xix aT (xv 0) (xv 1) (λ_ _=>rfl)))) xb0)
  (xb1 (xret xint))) ?_
 refine⟨_,rfl,_,rfl,a,_,rfl, .inl hq,_,_,rfl,rfl,_,rfl,?_⟩;refine ite2 (λc=>?_) (λc=>?_)
 ·have c:=of_decide_eq_true c;rw[l0] at c;have hk:k < ns.length:=by omega
  exact⟨_,rfl,_,rfl,a,_,_, .int ns[k],rfl,rfl,hq,ag (by rw[List.getElem?_map,List.getElem?_eq_getElem hk];rfl),q _⟩
 ·exact q 0
abbrev oC:Stmt:=top 100
def qb (F:Fun K "_law_mixed" "_law_mixed" oC f fd):FnOk P w K mg base CX0 1 f fd p21 spMixed:=by
 have sc:FnScope ["_law_cell","_law_k","_law_number"] p21 (ad oC):=mkS;refine F.oks sc λH Q hr h=>?_;obtain⟨c,k,rfl,h0,h1,q⟩:=h;refine am (xbc (xst (i:=2) sc.nd (xop cU (xop iQ (xop av (xop cU (xv 0) xint) xint) xint) xint))
  (xb1 (xret (xop dW (xop cU (xop iQ (xv 2) (xop av (xop av xint (xop iQ (xop iQ xint (xv 1)) (xv 1))) (xop iQ xint (xv 1)))) xint) xint)))) ?_
 have hk2:0<=k * k/\k * k<=10000:=by
  constructor
  ·exact Int.mul_nonneg h0 h0
  ·calc k * k<=100 * 100:=Int.mul_le_mul h1 h1 h0 nofun
    _=10000:=rfl
 refine⟨_,rfl,_,_,rfl,rfl,show (0:Int) < 1000000007 by omega,_,_,rfl,rfl,_,_,rfl,rfl, .inr nofun,_,_,rfl,rfl,show (0:Int) < 2147483647 by omega,?_⟩;refine⟨_,rfl,_,rfl,_,_,rfl,rfl, .inl nofun,_,rfl,_,_,rfl,rfl, .inr nofun,_,_,rfl,rfl,_,rfl,_,_,rfl,rfl, .inl nofun,_,_,rfl,rfl,_,_,rfl,rfl, .inl ?_,_,_,rfl,rfl,show (0:Int) < 2147483629 by omega,_,_,rfl,rfl,⟨by omega,by omega⟩,?_⟩
 ·have h1:=Int.emod_nonneg ((c % 1000000007+1) * 48271) (show (2147483647:Int)≠0 by omega);have h2:=Int.emod_lt_of_pos ((c % 1000000007+1) * 48271) (show (0:Int) < 2147483647 by omega);constructor
  ·show _ < (c % 1000000007+1) * 48271 % 2147483647;omega
  ·show (c % 1000000007+1) * 48271 % 2147483647 < _;omega
 ·refine q _ ?_;exact Int.ediv_nonneg (Int.emod_nonneg _ nofun) nofun
abbrev sS:Stmt:=top 101
inductive spLRow (vs:List V)(H:Hp)(Q:VK)(u3:XK):Prop
 |mk (n:Int)(ah:List Nat)(_:vs=[.int n,vS ah])(_:ah.length<=1000)(_:GdR ah)(_:∀r H',Same H H'->r.length<=max 11 ah.length+2->GdR r->Q (vS r) H')
def sT (F:Fun K "_law_row" "_law_row" sS f fd):FnOk P w K mg base CX0 1 f fd p22 spLRow:=by
 have sc:FnScope ["_law_cell","_law_ahead","_law_some","_law_row_here"] p22 (ad sS):=mkS;refine F.oks sc λH Q hr h=>?_;obtain⟨n,ah,rfl,hal,hag,q⟩:=h;refine am (xbc (xst (i:=2) sc.nd (xlst (xac xstr (xac xstr (xac xstr (xac xstr (xac xstr (xac xstr (xac xstr (xac xstr (xac xstr (xac xstr (xac xstr (xac xstr (xac xstr (xac xstr (xac xstr xa0)))))))))))))))))
  (xbc (xst (i:=2) sc.nd (xop bN (xv 2) (xlst (xac xstr (xac xstr (xac xstr (xac xstr (xac xstr (xac xstr (xac xstr (xac xstr (xac xstr (xac xstr (xac xstr xa0))))))))))))))
  (xbc (xst (i:=2) sc.nd (xop bN (xv 2) (xlst (xac xstr (xac xstr (xac xstr (xac xstr (xac xstr (xac xstr (xac xstr (xac xstr (xac xstr xa0))))))))))))
  (xbc (xst (i:=2) sc.nd (xop bN (xv 2) (xlst (xac xstr (xac xstr (xac xstr (xac xstr (xac xstr xa0))))))))
  (xbc (xst (i:=3) sc.nd (xix aT (xv 2) (xop cU (xv 0) xint) (λ_ _=>rfl)))
  (xbc (xif (az be (xop cU (xop dW (xv 0) xint) xint) xint (ai _)) (xb1 (xst (i:=3) sc.nd (xv 1))) xb0)
  (xb1 (xret (xop gz (xv 3) (xix aT (xlst (xac xstr (xac xstr (xac xstr (xac xstr (xac xstr (xac xstr xa0))))))) (xop cU (xop dW (xv 0) xint) xint) (λ_ _=>rfl))))))))))) ?_
 have hs:=sizeLine_eq;rw[ue];refine uP 11 _ (by intro R h;exact h) ∅ ∅ λa1 y1 ha1 e1 k1=>?_;dsimp only[tAsg.K0,tDrop.K0,Ends.to_nx,Ends.to_rt,al,sA,sB];have s1:=ac ha1 (.lst (y1.map vS));have h1:upd H a1 (.lst (y1.map vS)) a1=some (.lst (y1.map vS)):=aa;generalize upd H a1 (.lst (y1.map vS))=H1 at s1 h1 ⊢;refine⟨_,rfl,?_⟩;show tLst _ _ _ _;refine jH 11 _ (by intro R h;exact h) ∅ ∅ λa2 y2 ha2 e2 k2=>⟨a1,a2,_,_,rfl,rfl,ac ha2 _ _ _ h1,aa,by rw[l0,l0,<- e1,<- e2,hs];decide,λb2 hb2=>?_⟩;dsimp only[tAsg.K0,tDrop.K0,Ends.to_nx,Ends.to_rt,al,sA,sB];have s2:=(s1.trans (ac ha2 (.lst (y2.map vS)))).trans (ac hb2 (.lst (y1.map vS++y2.map vS)));have h2:upd (upd H1 a2 (.lst (y2.map vS))) b2 (.lst (y1.map vS++y2.map vS)) b2=some (.lst (y1.map vS++y2.map vS)):=aa;generalize upd (upd H1 a2 (.lst (y2.map vS))) b2 (.lst (y1.map vS++y2.map vS))=H2 at s2 h2 ⊢;refine⟨_,rfl,?_⟩;show tLst _ _ _ _;refine jH 11 _ (by intro R h;exact h) ∅ ∅ λa3 y3 ha3 e3 k3=>⟨b2,a3,_,_,rfl,rfl,ac ha3 _ _ _ h2,aa,by rw[l8,l0,l0,l0,<- e1,<- e2,<- e3,hs];decide,λb3 hb3=>?_⟩;dsimp only[tAsg.K0,tDrop.K0,Ends.to_nx,Ends.to_rt,al,sA,sB];have s3:=(s2.trans (ac ha3 (.lst (y3.map vS)))).trans (ac hb3 (.lst (y1.map vS++y2.map vS++y3.map vS)));have h3:upd (upd H2 a3 (.lst (y3.map vS))) b3 (.lst (y1.map vS++y2.map vS++y3.map vS)) b3=some (.lst (y1.map vS++y2.map vS++y3.map vS)):=aa;generalize upd (upd H2 a3 (.lst (y3.map vS))) b3 (.lst (y1.map vS++y2.map vS++y3.map vS))=H3 at s3 h3 ⊢;refine⟨_,rfl,?_⟩;show tLst _ _ _ _;refine jH 11 _ (by intro R h;exact h) ∅ ∅ λa4 y4 ha4 e4 k4=>⟨b3,a4,_,_,rfl,rfl,ac ha4 _ _ _ h3,aa,by rw[l8,l8,l0,l0,l0,l0,<- e1,<- e2,<- e3,<- e4,hs];decide,λb4 hb4=>?_⟩;dsimp only[tAsg.K0,tDrop.K0,Ends.to_nx,Ends.to_rt,al,sA,sB];have s4:=(s3.trans (ac ha4 (.lst (y4.map vS)))).trans (ac hb4 (.lst (y1.map vS++y2.map vS++y3.map vS++y4.map vS)));have h4:upd (upd H3 a4 (.lst (y4.map vS))) b4 (.lst (y1.map vS++y2.map vS++y3.map vS++y4.map vS)) b4=some (.lst ((y1++y2++y3++y4).map vS)):=by rw[aa,l17,l17,l17]
 generalize upd (upd H3 a4 (.lst (y4.map vS))) b4 (.lst (y1.map vS++y2.map vS++y3.map vS++y4.map vS))=H4 at s4 h4 ⊢;have hyl:(y1++y2++y3++y4).length=40:=by rw[l8,l8,l8,<- e1,<- e2,<- e3,<- e4];rfl
 have hyk:∀y∈y1++y2++y3++y4,y.length<=11/\GdR y:=λy hy=>by
  rcases l20.mp hy with z |z
  ·rcases l20.mp z with z |z
   ·rcases l20.mp z with z |z
    ·exact k1 y z
    ·exact k2 y z
   ·exact k3 y z
  ·exact k4 y z
 clear k1 k2 k3 k4 e1 e2 e3 e4 h1 h2 h3;generalize y1++y2++y3++y4=ys at h4 hyl hyk;obtain⟨j,hj⟩:∃j:Nat,n % 40=(j:Int):=⟨(n % 40).toNat,by omega⟩;have hj40:j < ys.length:=by omega
 refine⟨_,rfl,_,rfl,_,_,rfl,rfl,show (0:Int) < 40 by omega,b4,_,_,vS ys[j],rfl,rfl,SqL.of h4,by rw[hj];exact ag (by rw[List.getElem?_map,List.getElem?_eq_getElem hj40];rfl),?_⟩;dsimp only[tAsg.K0,tDrop.K0,Ends.to_nx,Ends.to_rt,al,sA,sB];obtain⟨r1,r2⟩:=hyk ys[j] (l34 hj40);generalize ys[j]=r0 at r1 r2;refine bG (λσ H'=>∃r0:List Nat,σ=[some (.int n),some (vS ah),some (.ref b4),some (vS r0)]/\Same H H'/\r0.length<=max 11 ah.length/\GdR r0) (λN hN=>?_) ?_
 ·refine s_if (decide (n / 40 % 4=1)) (uu (λR k=>⟨_,rfl,_,_,rfl,rfl,⟨by omega,by omega⟩,_,_,rfl,rfl,show (0:Int) < 4 by omega,k⟩) ev_c) (λH5 s5 _=>?_) λH5 s5 _=>?_
  ·exact⟨_,rfl,hN _ _ ⟨ah,rfl,s4.trans s5,by omega,hag⟩⟩
  ·exact hN _ _ ⟨r0,rfl,s4.trans s5,by omega,r2⟩
 ·rintro σ H5 ⟨r0,rfl,s5,r1,r2⟩;obtain⟨i,hi⟩:∃i:Nat,n / 160 % 6=(i:Int):=⟨(n / 160 % 6).toNat,by omega⟩;refine⟨_,rfl,?_⟩;show tLst _ _ _ _;refine jH 2 _ (by intro R h;exact h) ∅ ∅ λa6 y6 ha6 e6 k6=>?_;have e6:y6.length=6:=e6.symm;have hi6:i < y6.length:=by omega
  obtain⟨r3,r4⟩:=k6 y6[i] (l34 hi6);refine⟨_,rfl,_,_,rfl,rfl,⟨by omega,by omega⟩,_,_,rfl,rfl,show (0:Int) < 6 by omega,a6,_,_,vS y6[i],rfl,rfl,SqL.of aa,by rw[hi];exact ag (by rw[List.getElem?_map,List.getElem?_eq_getElem hi6];rfl),_,_,rfl,rfl,by rw[aH,aH,hs];omega,?_⟩;rw[uo];exact q _ _ (s5.trans (ac ha6 _)) (by rw[l8];omega) (r2.app r4)
end
end K14
namespace Lm
open PySem PySem.Builtin PySem.Builtin.Str
end Lm
namespace L2
open PySem PySem.Spec PyProof.Rows
section
variable {X:Cx}{a b:Expr}{rest:List Expr}{ta tb:TE}{pos:Pos}
open Builtin Builtin.Str
inductive tOrL.I (K:Frag)(tb:TE)(σ:St)(Q:VK)(x:V)(H1:Hp):Prop
 |mk (k)(_:TruV K x H1 k)(_:if k=true then Q x H1 else tb σ H1 Q)
def tOrL (K:Frag)(ta tb:TE):TE:=λσ H Q=>ta σ H (tOrL.I K tb σ Q)
def xorL (ha:XE X a ta)(hb:XE X (.BoolOp .Or (b::rest) pos) tb):XE X (.BoolOp .Or (a::b::rest) pos) (tOrL X.K ta tb):=by
 refine⟨λw9 s σ H Q I h=>BoolOp_or (thn (ha.h w9 s σ H _ I h) λv s1 ⟨x,H1,I1,r1,k,e,q1⟩=>?_)⟩;refine thn (tY w9 s1 σ H1 x v (λc H'=>if c=true then Q x H' else tb σ H' Q) I1 r1 ⟨k,e,q1⟩) λc s2 ⟨H2,I2,q2⟩=>?_;cases c with
 |true=>exact⟨x,H2,I2,r1,q2⟩
 |false=>exact hb.h w9 _ σ H2 Q I2 q2
end
end L2
namespace K14
open PySem L2 Lm Lw
def RwG (m n:Nat)(rs:List (List Nat)):Prop:=rs.length<=n/\∀r∈rs,r.length<=m/\GdR r
theorem qW {m:Nat}:∀{rs:List (List Nat)},(∀r∈rs,r.length<=m)->(rs.map λr=>r.length+1).sum<=rs.length * (m+1)
 | [],_=>l12 _
 |r::rs,h=>by
  have h1:=qW λx hx=>h x (l7 _ hx);have h2:=h r l10;rw[l13,l19,l4,Nat.succ_mul];omega
def RwG.sm {m n:Nat}{rs:List (List Nat)}(h:RwG m n rs)(k:n * (m+1)<=900):SmR rs:=⟨l11 (qW λr hr=>(h.2 r hr).1) (l11 (Nat.mul_le_mul_right _ h.1) k),λr hr c hc=>((h.2 r hr).2 c hc).1⟩
section
variable {c:Cb}{BT:Addr}
abbrev lr:Stmt:=top 102
inductive spLRows (K:Frag)(vs:List V)(H:Hp)(Q:VK)(u3:XK):Prop
 |mk (a:Addr)(ns:List Int)(_:vs=[.ref a])(_:SqL K H a (ns.map V.int))(_:∀r rs H',Same H H'->H r=none->H' r=some (.lst (rs.map vS))->RwG 43 16 rs->Q (.ref r) H')
def qd (F:Fun K "_law_rows" "_law_rows" lr f fd)(T:Tx mg)(DC:Def P w K mg base 1 "_law_mixed" p21 spMixed)(DD:Def P w K mg base 1 "_law_row" p22 spLRow):FnOk P w K mg base CX0 2 f fd ["_law_script"] (spLRows K):=by
 have sc:FnScope ["_law_script","_law_rows_here","_law_k","_law_cell"] ["_law_script"] (ad lr):=mkS;refine F.oks sc λ{cdv A _ s _ _}H Q hr h=>?_;obtain⟨a,ns,rfl,hq,q⟩:=h;have hu:(A.deeper (PyProof.Rows.envOfC "_law_rows" (ad lr) s.heap.objs.size f cdv)).units+64 < cLine:=by
  have:=hr.un;omega
 refine am (xbc (xst (i:=1) sc.nd (xlst xa0))
  (xbc (xfor PassesOwn.never rfl (xie T.u12 (xac (xsl bW (xv 0) (xo1 xint) (xo1 xint)) xa0)) (xgt rfl (xgsc (xgm (i:=2) sc.nd) (xgsc (xgm (i:=3) sc.nd) xgs0)))
  (xb1 (bw (xmA (xv 1) (xac (xcd DD hr (xac (xcd DC hr (xac (xv 3) (xac (xv 2) xa0))) (xac (xifE (az (gJ hu) (xv 1) (xlst xa0) (ai _)) (xix aT (xv 1) (xun gw xint) (λ_ _=>rfl)) xstr) xa0))) xa0)))))
  (xb1 (xret (xv 1))))) ?_
 have hs:=sizeLine_eq;rw[ud];refine⟨bg0,λX hX=>?_⟩;have s1:=ac hX (.lst []);have e1:upd H X (.lst []) X=some (.lst []):=aa;dsimp only[tAsg.K0,tDrop.K0,Ends.to_nx,Ends.to_rt,al,sA,sB];generalize upd H X (.lst [])=H1 at s1 e1 ⊢;refine⟨_,rfl,_,rfl,_,rfl,a,_,rfl,s1.seq hq,λL hL=>⟨L,_,rfl,aa,?_⟩⟩;rw[show cutV (ns.map V.int) (some 2) (some 18)=((ns.map V.int).drop 2).take 16 from fk _ 2 18,<- l50,<- l63];have s2:=s1.trans (ac hL (.lst (((ns.drop 2).take 16).map V.int)));have e2:=ac hL (.lst (((ns.drop 2).take 16).map V.int)) _ _ e1;have eL:upd H1 L (.lst (((ns.drop 2).take 16).map V.int)) L=some (.lst (((ns.drop 2).take 16).map V.int)):=aa;have hml:((ns.drop 2).take 16).length<=16:=by rw[l21];omega
 have hLX:L≠X:=(nq e1 hL);generalize (ns.drop 2).take 16=ms at s2 e2 eL hml ⊢;generalize upd H1 L (.lst (ms.map V.int))=H2 at s2 e2 eL ⊢;refine pQ (xs:=ms.map V.int) (λi σ H'=>∃(x2 x3:Option V) (rs:List (List Nat)),σ=[some (.ref a),some (.ref X),x2,x3]/\Same H H'/\H' L=some (.lst (ms.map V.int))/\H' X=some (.lst (rs.map vS))/\rs.length=i/\(∀r∈rs,r.length<=11+2 * i/\GdR r)) ⟨none,none,[],rfl,s2,eL,e2,rfl,λ_ z=>nomatch z⟩ ?_ ?_ ?_
 ·rintro i σ H3 _ ⟨_,_,_,_,_,eL3,_⟩;exact SqL.of eL3
 ·rintro i x σ H3 U hx ⟨x2,x3,rs,rfl,s3,eL3,eX3,hrl,hrk⟩ hU;rw[List.getElem?_map] at hx;obtain⟨n,hn,rfl⟩:=l44.mp hx;have hi:=(List.getElem?_eq_some_iff.mp hn).1;have s3':=ac hU (.tup [.int (i:Nat),V.int n]);refine⟨U,_,rfl,SqT.of aa,rfl,_,_,rfl,_,_,rfl,rfl,?_⟩;dsimp only[tAsg.K0,tDrop.K0,Ends.to_nx,Ends.to_rt,al,sA,sB];have eX4:=s3' _ _ eX3;have eL4:=s3' _ _ eL3;have s4:=s3.trans s3';generalize upd H3 U (.tup [.int (i:Nat),V.int n])=H4 at eX4 eL4 s4 ⊢;refine⟨_,rfl, .inl ⟨rfl,_,SqL.of eX4⟩,_,rfl,_,rfl,n,(i:Int),rfl,by omega,by omega,λm hm=>?_⟩;have go:∀(ah:List Nat) (H5:Hp),Same H4 H5->ah.length<=11+2 * i->GdR ah->spLRow [.int m,vS ah] H5 (λy H'=>rAppend (.ref X) [y] H' λ_ H3=>∃(x2 x3:Option V) (rs':List (List Nat)),[some (V.ref a),some (.ref X),some (.int (i:Int)),some (.int n)]=[some (V.ref a),some (.ref X),x2,x3]/\Same H H3/\H3 L=some (.lst (ms.map V.int))/\H3 X=some (.lst (rs'.map vS))/\rs'.length=i+1/\(∀r∈rs',r.length<=11+2 * (i+1)/\GdR r)) E0:=λah H5 s5 hal hag=>by
   refine⟨m,ah,rfl,by omega,hag,λr H6 s6 hrl' hrg=>⟨X,_,_,rfl,rfl,(s5.trans s6) _ _ eX4,by rw[l0,hs];omega,_,_,rs++[r],rfl,ak hX ((s4.trans s5).trans s6),?_,?_,by rw[l8,hrl];rfl,λx hx=>?_⟩⟩
   ·rw[af hLX];exact(s5.trans s6) _ _ eL4
   ·rw[aa,l17];rfl
   ·rcases l20.mp hx with z |z
    ·obtain⟨a,b⟩:=hrk x z;exact⟨by omega,b⟩
    ·rw[l14.mp z];exact⟨by omega,hrg⟩
  refine⟨_,rfl,bg0,λz0 hz0=>⟨X,z0,_,rfl,rfl,SqL.of (ac hz0 _ _ _ eX4),SqL.of aa,_,rfl,?_⟩⟩;have s5:=ac hz0 (.lst []);refine ite2 (λc=>?_) λc=>?_
  ·obtain⟨rs',r,rfl⟩:∃rs' r,rs=rs'++[r]:=by
    rcases l70 rs with h |⟨rs',r,h⟩
    ·rw[h] at c;exact absurd c ∅
    ·exact⟨rs',r,by rw[h,l79]⟩
   obtain⟨r1,r2⟩:=hrk r (l31 _ l10);refine⟨_,rfl,1,rfl,X,_,_,_,rfl,rfl,SqL.of (s5 _ _ eX4),rS rs' r,?_⟩;exact go r _ s5 r1 r2
  ·exact go [97] _ s5 (by show 1<=_;omega) (by unfold GdR;decide)
 ·rintro σ H3 ⟨x2,x3,rs,rfl,s3,eL3,eX3,hrl,hrk⟩;rw[l0] at hrl hrk;exact⟨_,rfl,q X rs H3 s3 hX eX3 ⟨by omega,λr hr=>⟨by have:=(hrk r hr).1;omega,(hrk r hr).2⟩⟩⟩
abbrev lu:Stmt:=top 103
inductive spBlank (vs:List V)(H:Hp)(Q:VK)(u3:XK):Prop
 |mk (l:List Nat)(_:vs=[vS l])(_:l.length<=1000000)(_:∀H',Same H H'->Q (.bl (emp l)) H')
def sV (l:List Nat):emp l=true ↔ ∀c∈l,c=32:=by
 rw[<- eO];unfold emp;rw[decide_eq_true_iff];constructor
 ·intro h;by_cases hb:bc l=[]
  ·exact hb
  ·exfalso;have:∀s,aV l=s->aW s=kZ->s = .empty:=λs _ h=>by cases s <;> first |rfl |cases h
   have h2:=this _ rfl h;unfold aV at h2;simp only[] at h2;rw[if_neg hb] at h2;split at h2
   ·cases h2
   split at h2
   ·cases h2
   split at h2
   ·cases h2
   split at h2
   ·cases h2
   have hi:fK (bc l) ≠ .empty:=by unfold fK;simp only[];split <;> exact λz=>nomatch z
   cases hd:defC (bc l) with
   |none=>rw[hd] at h2;exact hi h2
   |some d=>
    rw[hd] at h2;have h2:d = .empty:=h2;subst h2;unfold defC at hd;split at hd
    ·cases hd
    ·split at hd
     ·cases hd
     split at hd
     ·cases hd
     split at hd <;> cases hd
 ·intro h;unfold aV;simp only[];rw[if_pos h];rfl
def qe (F:Fun K "_law_is_blank" "_law_is_blank" lu f fd):FnOk P w K mg base CX0 1 f fd ["_law_row_here"] spBlank:=by
 have sc:FnScope ["_law_row_here"] ["_law_row_here"] (ad lu):=mkS;refine F.oks sc λ{cdv A _ s _ _}H Q hr h=>?_;obtain⟨l,rfl,hl,q⟩:=h;have hu:(A.deeper (PyProof.Rows.envOfC "_law_is_blank" (ad lu) s.heap.objs.size f cdv)).units+64 < cLine:=by
  have:=hr.un;omega
 refine am (xb1 (xret (xcmp (qC hu) (xlc0 (own:=["_law_sign"])
  (xis (xv 0))
  (λ_ _ _ _=>xgm (i:=0) (show (["_law_sign"]:List Str).Nodup by decide)) (λ_ _ _ _=>xq1 (az jM (xv 0) xstr (ai _))) (λ_ _ _ _=>(xv 0))) (xlst xa0) (ai _)))) ?_
 refine⟨_,rfl,_,rfl,?_⟩;refine qy (λv => !decide (v=vS [32])) id (bigS hl) ?_ ?_
 ·intro d hd H' sm C N hC hN;refine⟨(nfLe.refl _ _ _).set ∅ _,_,rfl,rfl,_,rfl,?_⟩;refine ite2 (λc=>⟨_,rfl,hC _ (Same.refl _) c⟩) (λc=>hN _ (Same.refl _) (Bool.eq_false_iff.mpr c))
 ·intro D H' hD sm eD;refine⟨bg0,λz0 hz0=>⟨D,z0,_,rfl,rfl,SqL.of (ac hz0 _ _ _ eD),SqL.of aa,?_⟩⟩;have e:(if false=true then !(List.map id (List.filter (λv => !decide (v=vS [32])) (List.map (λc=>V.str ⟨#[c]⟩) (S l).cps.toList))).isEmpty else (List.map id (List.filter (λv => !decide (v=vS [32])) (List.map (λc=>V.str ⟨#[c]⟩) (S l).cps.toList))).isEmpty)=emp l:=by
   rw[if_neg ∅,l58,bD,Bool.eq_iff_iff,sV,List.isEmpty_iff,List.filter_eq_nil_iff];constructor
   ·intro h d hd;have:=h (V.str ⟨#[d]⟩) (List.mem_map_of_mem hd);simp only[Bool.not_eq_true,Bool.not_eq_false',decide_eq_true_iff] at this;have:=df (a:=[d]) (b:=[32]) (V.str.inj this);simpa using this
   ·intro h v hv;obtain⟨d,hd,rfl⟩:=l16.mp hv;rw[h d hd];decide
  rw[e];exact q _ (sm.trans (ac hz0 _))
end
def uQ {G:Hp}{v:V}{ds:List PyData}(h:Dn G v (.tuple ds)):∃a xs,v = .ref a/\G a=some (.tup xs)/\DnAll G xs ds:=by
 cases h with |tup e r=>exact⟨_,_,rfl,e,r⟩
def uR {G:Hp}{v:V}{s:Str}(h:Dn G v (.str s)):v = .str s:=by cases h;rfl
def qf {G:Hp}{vs:List V}{d:PyData}{ds:List PyData}(h:DnAll G vs (d::ds)):∃v us,vs=v::us/\Dn G v d/\DnAll G us ds:=by
 cases h with |cons a b=>exact⟨_,_,rfl,a,b⟩
def da (ps:List PC):(PyData.list (ps.map dP)).depth<=4:=aO λd hd=>by
 obtain⟨p,_,rfl⟩:=l16.mp hd;exact pN p
def oE:∀(n:Nat) (e:En n),(dE n e).depth<=2 * n+4
 |0,e=>nomatch e
 |n+1,e=>by
  refine l11 (bu (n:=2 * n+5) λd hd=>?_) nofun;rcases l6.mp hd with z |hd
  ·rw[z,bI];exact l12 _
  rcases l6.mp hd with z |hd
  ·rw[z];exact l11 (da _) nofun
  rw[l14.mp hd];exact aO λd hd=>by
   obtain⟨x,_,rfl⟩:=l16.mp hd;exact oE n x
def gh (cs:List (List PC)):(jq cs).depth<=5:=aO λd hd=>by
 obtain⟨ps,_,rfl⟩:=l16.mp hd;exact da ps
def lw {β:Type}{f:β->PyData}{n:Nat}(hn:18<=n)(hf:∀b,(f b).depth<=n):∀b:BkF β,(dBF f b).depth<=n+2:=by
 have str:∀s:Str,(PyData.str s).depth<=n+1:=λs=>by rw[bI];exact l12 _
 have int:∀i:Int,(PyData.int i).depth<=n+1:=λi=>by unfold PyData.depth;exact l12 _
 have pts:∀ps:List PC,(PyData.list (ps.map dP)).depth<=n+1:=λps=>l11 (da ps) nofun;have two:∀{a b:PyData},a.depth<=n+1->b.depth<=n+1->(PyData.tuple [a,b]).depth<=n+2:=λha hb=>bu λd hd=>by
  rcases l6.mp hd with z |z
  ·rw[z];exact ha
  ·rw[l14.mp z];exact hb
 have three:∀{a b d:PyData},a.depth<=n+1->b.depth<=n+1->d.depth<=n+1->(PyData.tuple [a,b,d]).depth<=n+2:=λha hb hc=>bu λd hd=>by
  rcases l6.mp hd with z |z
  ·rw[z];exact ha
  ·rcases l6.mp z with z |z
   ·rw[z];exact hb
   ·rw[l14.mp z];exact hc
 intro b;cases b with
 |heading l ps=>exact three (str _) (int _) (pts ps)
 |para ps=>exact two (str _) (pts ps)
 |lst es=>exact two (str _) (aO λd hd=>by obtain⟨e,_,rfl⟩:=l16.mp hd;exact l11 (oE 6 e) nofun)
 |table hd sd ls=>
  refine bu λd h=>?_;rcases l6.mp h with z |h
  ·rw[z];exact str _
  rcases l6.mp h with z |h
  ·rw[z];exact l11 (gh hd) nofun
  rcases l6.mp h with z |h
  ·rw[z];exact l11 (aO (n:=0) λd h=>by obtain⟨b,_,rfl⟩:=l16.mp h;rw[bI];exact l5 _) nofun
  rw[l14.mp h];exact l11 (aO (n:=5) λd h=>by obtain⟨b,_,rfl⟩:=l16.mp h;exact gh b) nofun
 |lit ls=>exact two (str _) (l11 (aO (n:=0) λd h=>by obtain⟨b,_,rfl⟩:=l16.mp h;rw[bI];exact l5 _) nofun)
 |quote bs=>exact two (str _) (aO λd h=>by obtain⟨b,_,rfl⟩:=l16.mp h;exact hf b)
 |name a t=>exact three (str _) (str _) (str _)
 |note a ps=>exact three (str _) (str _) (pts ps)
def iM:∀(n:Nat) (b:Bl n),(dB n b).depth<=2 * n+20
 |0,b=>lw (n:=18) (l5 _) (λz=>nomatch z) b
 |n+1,b=>l11 (lw (n:=2 * n+20) nofun (iM n) b) nofun
def FndN (c:Cb)(n:Nat)(H:Hp)(Q:VK)(b:Bl n)(j:Nat):Prop:=∀t a H',Same H H'->H t=none->H' t=some (.tup [.ref a, .int j])->BAt c n (dif H H') a b->Q (.ref t) H'
inductive spBlkX (c:Cb)(vs:List V)(H:Hp)(Q:VK)(u3:XK):Prop
 |mk (n rs i)(_:n<=4)(_:RwAt vs H rs i (4 - n))(_:FndN c n H Q (rd n (rs.drop i)).1 (i+(rd n (rs.drop i)).2))
def dTl (n:Nat)(rs:List (List Nat)):PyData := .tuple [dB n (rd n rs).1, .int ((rd n rs).2:Nat)]
def qg {n:Nat}(hn:n<=4)(rs:List (List Nat)):(dTl n rs).depth<=64:=by
 refine l11 (bu (n:=28) λd hd=>?_) ∅;rcases l6.mp hd with z |z
 ·rw[z];exact l11 (iM n _) nofun
 ·rw[l14.mp z];unfold PyData.depth;exact l12 _
section
variable {c:Cb}{BT:Addr}
abbrev oF:Stmt:=top 104
inductive spLTold (c:Cb)(vs:List V)(H:Hp)(Q:VK)(u3:XK):Prop
 |mk (n rs i)(_:n<=4)(_:RwAt vs H rs i (4 - n))(_:∀v H',Same H H'->Dn (dif H H') v (dTl n (rs.drop i))->Q v H')
def qh {k:Nat}(F:Fun K "_law_told" "_law_told" oF f fd)(T:TxD K mg c BT)(Yb:Def P w K mg base k "block_at" p0 (spBlkX c))(hM:∀n,n<=4->MV P w K mg base k "told" (BAt c n) (OkB n) (tellsB (dB n))):FnOk P w K mg base CX0 (k+1) f fd p28 (spLTold c):=by
 have sc:FnScope ["_law_rows_here","_law_first","_law_deep","_law_block","_law_behind"] p28 (ad oF):=mkS;refine F.oks sc λH Q hr h=>?_;obtain⟨n,rs,i,hn,⟨l,rfl,el,hok⟩,q⟩:=h;refine am (xbc (xasg (xcd Yb hr (xac (xcTy aq T.g10 rfl (xac (xv 0) xa0)) (xac (xv 1) (xac (xv 2) xa0)))) (xgt rfl (xgsc (xgm (i:=3) sc.nd) (xgsc (xgm (i:=4) sc.nd) xgs0))))
  (xb1 (xret (xtup (xac (xmV0 (k:=k) (xv 3) hr.mono) (xac (xop bM (xv 4) (xv 1)) xa0)))))) ?_
 rw[oV];refine⟨_,rfl,l,_,rfl, .inl (SqL.of el),λp hp=>⟨_,rfl,_,rfl,n,rs,i,hn,⟨p,rfl,aa,hok⟩,λt a H2 s2 ht et hb=>?_⟩⟩;have s02:=(ac hp (.lst (rs.map vS))).trans s2;refine⟨t,_,rfl,SqT.of et,rfl,_,_,rfl,_,_,rfl,rfl,?_⟩;dsimp only[tAsg.K0,tDrop.K0,Ends.to_nx,Ends.to_rt,al,sA,sB];obtain⟨Cc,dx,fs,sp,e1,e2,V,hsp⟩:=hM n hn _ (mj n _ (hok.drop i)) H2 a (ay n _ _ _ _ dif_same hb);refine⟨_,rfl,a,Cc,dx,fs,_,sp,rfl,e1,e2,V,hsp _ _ λv H3 ⟨s3,d3⟩=>?_⟩;refine⟨_,rfl,_,rfl,_,_,rfl,rfl,bg2,λu hu=>?_⟩
 try dsimp only
 rw[show ((i+(rd n (rs.drop i)).2:Nat):Int) - (i:Int)=((rd n (rs.drop i)).2:Nat) by omega];obtain⟨a1,a2⟩:=bz (s02.trans s3) hu (.cons (d3.same (ar s02 (Same.refl _))) (.cons (.int _) .nil));exact q _ _ a1 a2
abbrev oG:Stmt:=top 105
inductive spLacks (vs:List V)(H:Hp)(Q:VK)(u3:XK):Prop
 |mk (n:Nat)(b:Bl n)(l:Addr)(rs:List (List Nat))(v:V)(i j:Nat)(_:vs=[.ref l,v, .int i, .int j])(_:H l=some (.lst (rs.map vS)))(_:SmR rs)(_:Dn H v (dB n b))(_:i < j)(_:j<=rs.length)(_:∀x H',Same H H'->(x=false->LitN n b->2<=j - i/\aW (aG true (rs.drop (j - 1)))=ba)->Q (.bl x) H')
theorem oH:∀{n:Nat} (b:Bl n),∃(x:Str) (ds:List PyData),dB n b = .tuple (.str x::ds)/\(LitN n b->x="literal")
 |0,b=>by cases b <;> exact⟨_,_,rfl,λ⟨_,z⟩=>by cases z <;> rfl⟩
 |n+1,b=>by cases (show BkF (Bl n) from b) <;> exact⟨_,_,rfl,λ⟨_,z⟩=>by cases z <;> rfl⟩
def qi {r:List Nat}(h:bc r=[126,126,126]):aW (aV r)=ba:=by
 unfold aV;simp only[];rw[h,if_neg (by simp),if_neg ∅,if_pos rfl];rfl
def qj (F:Fun K "_law_lacks_fence" "_law_lacks_fence" oG f fd):FnOk P w K mg base CX0 1 f fd p23 spLacks:=by
 have sc:FnScope p23 p23 (ad oG):=mkS;refine F.oks sc λH Q hr h=>?_;obtain⟨n,b,l,rs,v,i,j,rfl,el,hok,dv,hij,hj,q⟩:=h;refine am (xb1 (xret (pd (xcmp be (xix aw (xv 1) xint (λ_ _=>rfl)) xstr (ai _)) (xone (xorV (xcmp be (xop bM (xv 3) (xv 2)) xint (ai _)) (xone (xcmp jM (xm plainAttrs_str PySem.F.slot_str_rstrip PySem.F.type_str_rstrip i7 (xix aT (xv 0) (xop bM (xv 3) xint) (λ_ _=>rfl)) (xac xstr xa0)) xstr (ai _)))))))) ?_;obtain⟨x,ds,ed,hlit⟩:=oH b;rw[ed] at dv;obtain⟨b0,ys,rfl,eb,dy⟩:=uQ dv;obtain⟨y0,ys,rfl,d0,dy⟩:=qf dy;cases uR d0;refine⟨_,rfl,b0,_,0,_,rfl,rfl,SqT.of eb,ag (j:=0) rfl,rfl,_,rfl,?_⟩;refine ite2 (λc=>?_) λc=>?_
 ·refine⟨_,rfl,_,rfl,_,_,rfl,rfl,rfl,_,rfl,?_⟩;refine ite2 (λc2=>?_) λc2=>?_
  ·exact q true H (Same.refl H) λz=>nomatch z
  ·have h2:2<=j - i:=by
    have:¬ ((j:Int) - (i:Int))=1:=λz=>c2 (decide_eq_true (congrArg V.int z));omega
   have hlt:j - 1 < rs.length:=by omega
   have hat:(rs.map vS)[j - 1]? = some (vS rs[j - 1]):=by rw[List.getElem?_map,List.getElem?_eq_getElem hlt];rfl
   refine⟨_,rfl,_,rfl,_,_,rfl,rfl,l,_,(j:Int) - 1,vS rs[j - 1],rfl,rfl,SqL.of el,by rw[show (j:Int) - 1=((j - 1:Nat):Int) by omega];exact ag hat,rfl,_,_,rfl,rfl,bigS (by have:=hok.row (l34 hlt);omega),rfl,?_⟩;refine q _ H (Same.refl H) λz _=>⟨h2,?_⟩;have hb:bc rs[j - 1]=[126,126,126]:=by
    rw[Bool.not_eq_false',decide_eq_true_iff] at z;have z:V.str (Txt.rstripChars (S rs[j - 1]) (S [32]))=V.str (S [126,126,126]):=z;rw[kU _ [32]] at z;exact df (V.str.inj z)
   rw[cP,List.getElem?_eq_getElem hlt];show aW (srtQ true rs[j - 1])=ba;rw[qK];exact qi hb
 ·refine q false H (Same.refl H) λ_ hl=>?_;rw[hlit hl] at c;exact absurd ∅ c
end
end K14
namespace Lw
open PySem L2 Lm
section
variable {n m:Nat}{rs0 zs:List (List Nat)}{b:Bl n}
def sX (h:rd n rs0=(b,m))(h1:1<=m)(hm:m<=rs0.length):rd n (rs0.take m)=rd n rs0:=by
 have e:(rd n rs0).2=m:=by rw[h]
 refine qV nofun ?_ (.inl ?_) λ_ => .inr ?_
 ·rw[e,List.take_take,Nat.min_self]
 ·rw[e,l32 (by rw[l21];omega)];rfl
 ·rw[e,l21];omega
def uS (h:rd n rs0=(b,m))(h1:1<=m)(hm:m<=rs0.length)(hz:aG (decide (1<=n)) zs = .empty ∨ aG (decide (1<=n)) zs=aG (decide (1<=n)) (rs0.drop m))(hf:LitN n b->2<=m/\aW (aG true (rs0.drop (m - 1)))=ba):rd n (rs0.take m++zs)=rd n rs0:=by
 have e:(rd n rs0).2=m:=by rw[h]
 have e1:(rd n rs0).1=b:=by rw[h]
 have hl:(rs0.take m).length=m:=by rw[l21];omega
 refine qV nofun ?_ ?_ λhb => .inl ?_
 ·rw[e,List.take_left' hl]
 ·unfold Nx;rw[e,List.drop_left' hl];exact hz
 ·rw[e1] at hb;rw[e];exact hf hb
end
def SmR.le {a b:List (List Nat)}(h:SmR b)(hs:(a.map λr=>r.length+1).sum<=(b.map λr=>r.length+1).sum)(hm:∀r∈a,r∈b):SmR a:=⟨l11 hs h.sum,λr hr=>h.asc r (hm r hr)⟩
def kG (a b:List (List Nat)):((a++b).map λr=>r.length+1).sum=(a.map λr=>r.length+1).sum+(b.map λr=>r.length+1).sum:=by rw[l17,l74]
def lx (a:List (List Nat))(k:Nat):((a.take k).map λr=>r.length+1).sum+((a.drop k).map λr=>r.length+1).sum=(a.map λr=>r.length+1).sum:=by rw[<- kG,l53]
def SmR.take {rs:List (List Nat)}(h:SmR rs)(k:Nat):SmR (rs.take k):=h.le (by have:=lx rs k;omega) λr hr=>l72 hr
end Lw
namespace K14
open PySem L2 Lm Lw
inductive WyAt (G:Hp)(t:Addr)(x:List (List Nat)×Nat):Prop
 |mk (l)(_:G t=some (.tup [.ref l, .int x.2]))(_:G l=some (.lst (x.1.map vS)))
def qk:MoR WyAt:=λ_ _ _ _ s ⟨l,a,b⟩=>⟨l,s _ _ a,s _ _ b⟩
def iN {H0 H:Hp}{p t:Addr}{rs:List (List Nat)}{i:Nat}(s:Same H0 H)(hp:H p=none)(ht:upd H p (.lst (rs.map vS)) t=none):Same H (upd (upd H p (.lst (rs.map vS))) t (.tup [.ref p, .int i]))/\WyAt (dif H0 (upd (upd H p (.lst (rs.map vS))) t (.tup [.ref p, .int i]))) t (rs,i):=by
 have s1:=ac hp (.lst (rs.map vS));refine⟨s1.trans (ac ht _),p,?_,?_⟩
 ·rw[ao ((s.trans s1).free ht)];exact aa
 ·rw[ao (s.free hp)];exact ac ht _ _ _ aa
def ly {H2 Hb Hc:Hp}{W p t4:Addr}{ts:List Addr}{ws:List (List (List Nat)×Nat)}{zs:List (List Nat)}{i:Nat}(hWn:H2 W=none)(sb:Same H2 Hb)(eW:Hb W=some (.lst (ts.map V.ref)))(hn:NewQ H2 [W] Hb λG=>Ls (WyAt G) ts ws)(sc:Same Hb Hc)(hp:Hb p=none)(ep:Hc p=some (.lst (zs.map vS)))(ht:Hc t4=none):
  Same H2 (upd (upd Hc t4 (.tup [.ref p, .int i])) W (.lst (ts.map V.ref++[.ref t4])))/\upd (upd Hc t4 (.tup [.ref p, .int i])) W (.lst (ts.map V.ref++[.ref t4])) W=some (.lst ((ts++[t4]).map V.ref))/\NewQ H2 [W] (upd (upd Hc t4 (.tup [.ref p, .int i])) W (.lst (ts.map V.ref++[.ref t4]))) λG=>Ls (WyAt G) (ts++[t4]) (ws++[(zs,i)]):=by
 have s4:=ac ht (.tup [.ref p, .int i]);refine⟨ak hWn ((sb.trans sc).trans s4),by rw[aa,l17];rfl,?_⟩;refine NewQ.upd ?_ l10;refine NewQ.join ((hn.same sc).same s4) (NewQ.of (H3:=Hb) (R:=λG=>WyAt G t4 (zs,i)) sb (λb hb z=>?_) ⟨p,?_,?_⟩) (λG G' s h=>h.mono λa x=>qk _ _ _ _ s) (λG G' s h=>qk _ _ _ _ s h) λG h1 h2=>h1.snoc h2
 ·rw[l14.mp hb,eW] at z;cases z
 ·rw[ao (sc.free ht)];exact aa
 ·rw[ao hp];exact s4 _ _ ep
section
variable {c:Cb}{BT:Addr}
abbrev lz:Stmt:=top 106
inductive spAlone (c:Cb)(vs:List V)(H:Hp)(Q:VK)(u3:XK):Prop
 |mk (n:Nat)(l:Addr)(rs:List (List Nat))(t:Addr)(x:Bl n×Nat×Nat)(lo:Addr)(os:List (List Nat))(tn:Int)(_:n<=4)(_:vs=[.ref l, .ref t, .int ((4 - n:Nat):Int), .ref lo, .int tn])(_:H l=some (.lst (rs.map vS)))(_:H lo=some (.lst (os.map vS)))(_:SmR (rs++[]::os))(_:TrAt (BAt c n) H t x)(_:x.2.1 < x.2.2)(_:x.2.2<=rs.length)(_:rd n (rs.drop x.2.1)=(x.1,x.2.2 - x.2.1))(_:∀H',Same H H'->Q (.bl true) H')
def ql {k:Nat}(hk:2<=k)(F:Fun K "_law_alone" "_law_alone" lz f fd)(T:TxD K mg c BT)(TT:Tx mg)(Yg:Def P w K mg base k "_law_told" p28 (spLTold c))(Yh:Def P w K mg base 1 "_law_lacks_fence" p23 spLacks)(hM:∀n,n<=4->MV P w K mg base k "told" (BAt c n) (OkB n) (tellsB (dB n))):FnOk P w K mg base CX0 (k+1) f fd p29 (spAlone c):=by
 have sc:FnScope ["_law_rows_here","_law_triple","_law_deep","_law_others","_law_turn","_law_block","_law_first","_law_behind","_law_due","_law_ways","_law_k","_law_some","_law_at"] p29 (ad lz):=mkS;refine F.oks sc λ{cdv A _ s _ _}H Q hr h=>?_;obtain⟨n,l,rs,t,⟨b,fi,en⟩,lo,os,tn,hn,rfl,el,elo,hok,⟨a,et,hb⟩,hfe,hel,hrd,q⟩:=h;have hfe:fi < en:=hfe;have hel:en<=rs.length:=hel;have hrd:rd n (rs.drop fi)=(b,en - fi):=hrd;have et:H t=some (.tup [.ref a, .int fi, .int en]):=et;have hu:(A.deeper (PyProof.Rows.envOfC "_law_alone" (ad lz) s.heap.objs.size f cdv)).units+64 < cLine:=by
  have:=hr.un;omega
 have T:Tx mg:=TT;refine am (xbc (xasg (xv 1) (xgt rfl (xgsc (xgm (i:=5) sc.nd) (xgsc (xgm (i:=6) sc.nd) (xgsc (xgm (i:=7) sc.nd) xgs0)))))
  (xbc (xst (i:=8) sc.nd (xtup (xac (xmV0 (k:=k) (xv 5) hr.mono) (xac (xop bM (xv 7) (xv 6)) xa0))))
  (xbc (xst (i:=9) sc.nd (xlst (xac (xtup (xac (xsl bW (xv 0) (xo1 (xv 6)) xo0) (xac xint xa0))) (xac (xtup (xac (xsl bW (xv 0) xo0 (xo1 (xv 7))) (xac (xv 6) xa0))) (xac (xtup (xac (xsl bW (xv 0) (xo1 (xv 6)) (xo1 (xv 7))) (xac xint xa0))) xa0)))))
  (xbc (xif (cQ (aZ (xcd Yh hr (xac (xv 0) (xac (xix aw (xv 8) xint (λ_ _=>rfl)) (xac (xv 6) (xac (xv 7) xa0))))))) (xbc (bw (xmA (xv 9) (xac (xtup (xac (xop bN (xop bN (xsl bW (xv 0) xo0 (xo1 (xv 7))) (xorL (xsl bW (xv 0) (xo1 (xv 7)) (xo1 (xop av (xv 7) xint))) (xone (xlst (xac xstr xa0))))) (xv 3)) (xac (xv 6) xa0))) xa0)))
  (xb1 (bw (xmA (xv 9) (xac (xtup (xac (xop bN (xop bN (xsl bW (xv 0) xo0 (xo1 (xv 7))) (xlst (xac xstr xa0))) (xv 3)) (xac (xv 6) xa0))) xa0))))) xb0)
  (xbc (xfor PassesOwn.never rfl (xir1 rfl T.q11 (xac (xcB aj T.u10 PySem.boot_len (xac (xv 9) xa0)) xa0)) (xgm (i:=10) sc.nd)
  (xbc (xasg (xix aT (xv 9) (xop cU (xop av (xv 10) (xv 4)) (xcB aj T.u10 PySem.boot_len (xac (xv 9) xa0))) (λ_ _=>rfl)) (xgt rfl (xgsc (xgm (i:=11) sc.nd) (xgsc (xgm (i:=12) sc.nd) xgs0))))
  (xb1 (xif (az (nK hu) (xcd Yg hr (xac (xv 11) (xac (xv 12) (xac (xv 2) xa0)))) (xv 8) (ai _)) (xb1 (xret xbl)) xb0))))
  (xb1 (xret xbl))))))) ?_
 have hs:=sizeLine_eq;have hrs:SmR rs:=hok.le (by rw[kG];omega) λr hr=>l47 _ hr;have hrl:=hrs.len;have hos:SmR os:=hok.le (by rw[kG,l13,l19];omega) λr hr=>l31 _ (l7 _ hr);have hol:=hos.len;rw[uj];refine⟨_,rfl,t,_,rfl,SqT.of et,rfl,_,_,rfl,_,_,rfl,_,_,rfl,rfl,?_⟩;dsimp only[tAsg.K0,tDrop.K0,Ends.to_nx,Ends.to_rt,al,sA,sB];obtain⟨Cc,dx,fs,sp,e1,e2,hV,hsp⟩:=hM n hn b (by have:=mj n _ (hrs.drop fi);rw[hrd] at this;exact this) H a hb;refine⟨_,rfl,a,Cc,dx,fs,_,sp,rfl,e1,e2,hV,hsp _ _ λv H1 ⟨s1,d1⟩=>?_⟩;refine⟨_,rfl,_,rfl,_,_,rfl,rfl,bg2,λu hu'=>?_⟩;dsimp only[tAsg.K0,tDrop.K0,Ends.to_nx,Ends.to_rt,al,sA,sB];rw[show (en:Int) - (fi:Int)=((en - fi:Nat):Int) by omega];have s2:=s1.trans (ac hu' (.tup [v, .int ((en - fi:Nat):Int)]));have eu:upd H1 u (.tup [v, .int ((en - fi:Nat):Int)]) u=some (.tup [v, .int ((en - fi:Nat):Int)]):=aa;have dv:Dn (upd H1 u (.tup [v, .int ((en - fi:Nat):Int)])) v (dB n b):=d1.same (dif_same.trans (ac hu' _));generalize upd H1 u (.tup [v, .int ((en - fi:Nat):Int)])=H2 at s2 eu dv ⊢;have du:Dn H2 (.ref u) (dTl n (rs.drop fi)):=by
  unfold dTl;rw[hrd];exact .tup eu (.cons dv (.cons (.int _) .nil))
 have good1:((rs.drop fi).drop 0)=rs.drop fi:=rfl;have hm1:en - fi<=(rs.drop fi).length:=by rw[l9];omega
 have cut:=sX hrd nofun hm1;have g2e:(rs.take en).drop fi=(rs.drop fi).take (en - fi):=by rw[List.drop_take]
 have el2:=s2 _ _ el;have elo2:=s2 _ _ elo;refine⟨_,rfl,_,rfl,_,rfl,l,_,rfl,SqL.of el2,λp1 hp1=>⟨bg2,λt1 ht1=>?_⟩⟩;rw[f8,<- l50] at ht1 ⊢;obtain⟨m1,w1⟩:=iN (i:=0) (Same.refl H2) hp1 ht1;have n1:H2 t1=none:=(ac hp1 (.lst ((rs.drop fi).map vS))).free ht1;replace m1:Same H2 (upd (upd H2 p1 (.lst ((rs.drop fi).map vS))) t1 (.tup [.ref p1, .int 0])):=m1;replace w1:WyAt (dif H2 (upd (upd H2 p1 (.lst ((rs.drop fi).map vS))) t1 (.tup [.ref p1, .int 0]))) t1 (rs.drop fi,0):=w1;generalize upd (upd H2 p1 (.lst ((rs.drop fi).map vS))) t1 (.tup [.ref p1, .int 0])=H3 at m1 w1 ⊢;refine⟨_,rfl,_,rfl,_,rfl,l,_,rfl,SqL.of (m1 _ _ el2),λp2 hp2=>⟨_,rfl,bg2,λt2 ht2=>?_⟩⟩;rw[kt,<- l63] at ht2 ⊢;obtain⟨m2,w2⟩:=iN (i:=fi) m1 hp2 ht2;generalize upd (upd H3 p2 (.lst ((rs.take en).map vS))) t2 (.tup [.ref p2, .int fi])=H4 at m2 w2 ⊢;have m12:=m1.trans m2;refine⟨_,rfl,_,rfl,_,rfl,_,rfl,_,rfl,l,_,rfl,SqL.of (m12 _ _ el2),λp3 hp3=>⟨bg2,λt3 ht3=>?_⟩⟩;rw[fk,<- l50,<- l63] at ht3 ⊢;obtain⟨m3,w3⟩:=iN (i:=0) m12 hp3 ht3;replace m3:Same H4 (upd (upd H4 p3 (.lst (((rs.drop fi).take (en - fi)).map vS))) t3 (.tup [.ref p3, .int 0])):=m3;replace w3:WyAt (dif H2 (upd (upd H4 p3 (.lst (((rs.drop fi).take (en - fi)).map vS))) t3 (.tup [.ref p3, .int 0]))) t3 ((rs.drop fi).take (en - fi),0):=w3;generalize upd (upd H4 p3 (.lst (((rs.drop fi).take (en - fi)).map vS))) t3 (.tup [.ref p3, .int 0])=H5 at m3 w3 ⊢;have m13:=m12.trans m3;refine⟨bg3,λW hW=>?_⟩;dsimp only[tAsg.K0,tDrop.K0,Ends.to_nx,Ends.to_rt,al,sA,sB];have hWn:H2 W=none:=m13.free hW;have m5:=ac hW (.lst [V.ref t1, .ref t2, .ref t3]);have eW:upd H5 W (.lst [V.ref t1, .ref t2, .ref t3]) W=some (.lst ([t1,t2,t3].map V.ref)):=aa;have nW:NewQ H2 [W] (upd H5 W (.lst [V.ref t1, .ref t2, .ref t3])) λG=>Ls (WyAt G) [t1,t2,t3] [(rs.drop fi,0),(rs.take en,fi),((rs.drop fi).take (en - fi),0)]:=NewQ.old m5 m13 (λz hz=>by rw[l14.mp hz];exact hW) ⟨qk _ _ _ _ (ar (Same.refl _) (m2.trans m3)) w1,qk _ _ _ _ (ar (Same.refl _) m3) w2,w3,trivial⟩;have sW:=m13.trans m5;generalize upd H5 W (.lst [V.ref t1, .ref t2, .ref t3])=H6 at eW nW sW ⊢;obtain⟨Gw,hGw⟩:∃Gw:List (List Nat)×Nat->Prop,Gw=λx=>SmR x.1/\rd n (x.1.drop x.2)=rd n (rs.drop fi):=⟨_,rfl⟩;have g1:Gw (rs.drop fi,0):=by rw[hGw];exact⟨hrs.drop fi,rfl⟩
 have g2:Gw (rs.take en,fi):=by rw[hGw];exact⟨hrs.take en,by show rd n ((rs.take en).drop fi)=_;rw[g2e,cut]⟩
 have g3:Gw ((rs.drop fi).take (en - fi),0):=by rw[hGw];exact⟨(hrs.drop fi).take _,cut⟩
 refine bG (λσ H'=>∃(ts:List Addr) (ws:List (List (List Nat)×Nat)),σ=[some (.ref l),some (.ref t),some (.int ((4 - n:Nat):Int)),some (.ref lo),some (.int tn),some (.ref a),some (.int fi),some (.int en),some (.ref u),some (.ref W),none,none,none]/\Same H2 H'/\H' W=some (.lst (ts.map V.ref))/\(NewQ H2 [W] H' λG=>Ls (WyAt G) ts ws)/\3<=ws.length/\ws.length<=5/\∀x∈ws,Gw x) (λN hN=>?_) ?_
 ·have du6:=sW _ _ eu;refine⟨_,rfl,_,rfl,u,_,0,_,rfl,rfl,SqT.of du6,ag (j:=0) rfl,_,rfl,_,rfl,n,b,l,rs,v,fi,en,rfl,sW _ _ el2,hrs,dv.same sW,hfe,hel,λx H7 s7 hx=>⟨_,rfl,?_⟩⟩;have s27:=sW.trans s7;have eW7:=s7 _ _ eW;have nW7:=nW.same s7;have el7:=s27 _ _ el2;have elo7:=s27 _ _ elo2;cases x with
  | true => exact iteF (hN _ _ ⟨_,_,rfl,s27,eW7,nW7,l5 _,by show 3<=5;decide,λx hx=>by
    rcases l6.mp hx with z |z
    ·rw[z];exact g1
    rcases l6.mp z with z |z
    ·rw[z];exact g2
    rw[l14.mp z];exact g3⟩)
  |false=>
  have hcl:=hx rfl;have hdm:(rs.drop fi).drop (en - fi)=rs.drop en:=by rw[l18,show fi+(en - fi)=en by omega]
  have hf:LitN n b->2<=en - fi/\aW (aG true ((rs.drop fi).drop (en - fi - 1)))=ba:=λhl=>⟨(hcl hl).1,by rw[l18,show fi+(en - fi - 1)=en - 1 by omega];exact(hcl hl).2⟩;have gon:∀y:List Nat,(y=[] ∨ rs[en]? = some y)->Gw (rs.take en++[y]++os,fi):=λy hy=>by
   rw[hGw];refine⟨?_,?_⟩
   ·refine hok.le ?_ λr hr=>?_
    ·show ((rs.take en++[y]++os).map λr=>r.length+1).sum<=((rs++[]::os).map λr=>r.length+1).sum;have h1:=lx rs en;have h2:y.length+1<=((rs.drop en).map λr=>r.length+1).sum ∨ y.length=0:=by
      rcases hy with z |z
      ·exact .inr (by rw[z];rfl)
      ·have hlt:=(List.getElem?_eq_some_iff.mp z).1;rw[l25 hlt,(List.getElem?_eq_some_iff.mp z).2,l13,l19];exact .inl (Nat.le_add_right _ _)
     simp only[l17,l74,l13,List.map_nil,l19,List.sum_nil,l27];omega
    ·rcases l20.mp hr with z |z
     ·rcases l20.mp z with z |z
      ·exact l47 _ (l72 z)
      ·rw[l14.mp z];rcases hy with y0 |y0
       ·rw[y0];exact l31 _ l10
       ·exact l47 _ (l15 y0)
     ·exact l31 _ (l7 _ z)
   ·show rd n ((rs.take en++[y]++os).drop fi)=_;rw[l23,l60 (by rw[l21];omega),g2e];refine uS hrd nofun hm1 ?_ hf;rw[hdm];rcases hy with z |z
    ·refine .inl ?_;rw[z];show srtQ (decide (1<=n)) [] = .empty;generalize decide (1<=n)=qq;cases qq <;> rfl
    ·have hlt:=(List.getElem?_eq_some_iff.mp z).1;refine .inr ?_;rw[l25 hlt,(List.getElem?_eq_some_iff.mp z).2];rfl
  refine iteT ?_;refine bG (λσ H'=>∃(ts:List Addr) (ws:List (List (List Nat)×Nat)),σ=[some (.ref l),some (.ref t),some (.int ((4 - n:Nat):Int)),some (.ref lo),some (.int tn),some (.ref a),some (.int fi),some (.int en),some (.ref u),some (.ref W),none,none,none]/\Same H2 H'/\H' W=some (.lst (ts.map V.ref))/\(NewQ H2 [W] H' λG=>Ls (WyAt G) ts ws)/\ws.length=4/\∀x∈ws,Gw x) (λN' hN'=>?_) ?_
  ·have last:∀{Ha Hb:Hp} {q1 q2:Addr} {y:List Nat},Same H7 Ha->Ha q1=some (.lst ((rs.take en).map vS))->Ha q2=some (.lst [vS y])->(y=[] ∨ rs[en]? = some y)->∀R:V->Hp->Prop,(∀q5 Hc,Same H7 Hc->H7 q5=none->Hc q5=some (.lst ((rs.take en++[y]++os).map vS))->R (.ref q5) Hc)->rCat (.ref q1) (.ref q2) Ha λx Hx=>tVar 3 [some (.ref l),some (.ref t),some (.int ((4 - n:Nat):Int)),some (.ref lo),some (.int tn),some (.ref a),some (.int fi),some (.int en),some (.ref u),some (.ref W),none,none,none] Hx λy Hy=>rCat x y Hy R:=λ{Ha Hb q1 q2 y} sa e1 e2 hy R hR=>by
    refine⟨q1,q2,_,_,rfl,rfl,e1,e2,by rw[l0,l21,hs];show _+1<=_;omega,λq4 hq4=>⟨_,rfl,q4,lo,_,_,rfl,rfl,aa,ac hq4 _ _ _ (sa _ _ elo7),by rw[l8,l0,l21,l0,hs];show _+1+_<=_;omega,λq5 hq5=>hR q5 _ ((sa.trans (ac hq4 _)).trans (ac hq5 _)) ((sa.trans (ac hq4 _)).free hq5) ?_⟩⟩;rw[aa,l17,l17];rfl
   have fin:∀{y:List Nat},(y=[] ∨ rs[en]? = some y)->∀q5 Hc,Same H7 Hc->H7 q5=none->Hc q5=some (.lst ((rs.take en++[y]++os).map vS))->tCons (tVar 6) tNil [some (V.ref l),some (.ref t),some (.int ((4 - n:Nat):Int)),some (.ref lo),some (.int tn),some (.ref a),some (.int fi),some (.int en),some (.ref u),some (.ref W),none,none,none] Hc λxs H'=>tTup.I (λw H2=>rAppend (.ref W) [w] H2 λ_ H3=>N' [some (V.ref l),some (.ref t),some (.int ((4 - n:Nat):Int)),some (.ref lo),some (.int tn),some (.ref a),some (.int fi),some (.int en),some (.ref u),some (.ref W),none,none,none] H3) (.ref q5::xs) H':=λ{y} hy q5 Hc sc n5 e5=>by
    refine⟨_,rfl,bg2,λt4 ht4=>⟨W,_,_,rfl,rfl,ac ht4 _ _ _ (sc _ _ eW7),by show 3 < _;rw[hs];decide,?_⟩⟩;obtain⟨j1,j2,j3⟩:=ly (i:=fi) hWn s27 eW7 nW7 sc n5 e5 ht4;refine hN' _ _ ⟨_,_,rfl,j1,j2,j3,rfl,λx hx=>?_⟩;rcases l6.mp hx with z |z
    ·rw[z];exact g1
    rcases l6.mp z with z |z
    ·rw[z];exact g2
    rcases l6.mp z with z |z
    ·rw[z];exact g3
    rw[l14.mp z];exact gon y hy
   refine⟨_,rfl, .inl ⟨rfl,_,SqL.of eW7⟩,_,rfl,_,rfl,_,rfl,l,_,rfl,SqL.of el7,λq1 hq1=>?_⟩;rw[kt,<- l63];have sq1:=ac hq1 (.lst ((rs.take en).map vS));have eq1:upd H7 q1 (.lst ((rs.take en).map vS)) q1=some (.lst ((rs.take en).map vS)):=aa;generalize upd H7 q1 (.lst ((rs.take en).map vS))=Ha at sq1 eq1 ⊢;refine⟨_,rfl,_,rfl,_,rfl,_,rfl,_,_,rfl,rfl,_,rfl,l,_,rfl,SqL.of (sq1 _ _ el7),λq2 hq2=>?_⟩;rw[show ((en:Int)+1)=((en+1:Nat):Int) from rfl,fk,show en+1 - en=1 by omega];have sq2:=sq1.trans (ac hq2 (.lst (((rs.map vS).drop en).take 1)));by_cases hlt:en < rs.length
   ·have hy:rs[en]? = some rs[en]:=List.getElem?_eq_getElem hlt;have e1:((rs.map vS).drop en).take 1=[vS rs[en]]:=by rw[<- l50,l25 hlt];rfl
    refine⟨true, .inl ⟨_,SqL.of aa,by rw[e1];rfl⟩,iteT ?_⟩;exact last (Hb:=Ha) sq2 (ac hq2 _ _ _ eq1) (by rw[aa,e1]) (.inr hy) _ (fin (.inr hy))
   ·have e1:((rs.map vS).drop en).take 1=[]:=by rw[l32 (by rw[l0];omega)];rfl
    refine⟨false, .inl ⟨_,SqL.of aa,by rw[e1];rfl⟩,iteF ⟨bg1,λq3 hq3=>?_⟩⟩;exact last (Hb:=Ha) (y:=[]) (sq2.trans (ac hq3 _)) (ac hq3 _ _ _ (ac hq2 _ _ _ eq1)) aa (.inl rfl) _ (fin (.inl rfl))
  ·rintro σ H8 ⟨ts,ws,rfl,s8,eW8,nW8,hw4,hgw⟩;have el8:=s8 _ _ el2;have elo8:=s8 _ _ elo2;have htl:ts.length=ws.length:=let ⟨_,_,_,_,h⟩:=nW8;h.len
   refine⟨_,rfl, .inl ⟨rfl,_,SqL.of eW8⟩,_,rfl,_,rfl,_,rfl,l,_,rfl,SqL.of el8,λq1 hq1=>⟨bg1,λq2 hq2=>?_⟩⟩;rw[kt,<- l63] at hq2 ⊢;have sq2:=(ac hq1 (.lst ((rs.take en).map vS))).trans (ac hq2 (.lst [vS []]));refine⟨q1,q2,_,_,rfl,rfl,ac hq2 _ _ _ aa,aa,by rw[l0,l21,hs];show _+1<=_;omega,λq4 hq4=>⟨_,rfl,q4,lo,_,_,rfl,rfl,aa,ac hq4 _ _ _ (sq2 _ _ elo8),by rw[l8,l0,l21,l0,hs];show _+1+_<=_;omega,λq5 hq5=>?_⟩⟩;refine⟨_,rfl,bg2,λt4 ht4=>⟨W,_,_,rfl,rfl,ac ht4 _ _ _ ((ac hq5 _) _ _ ((ac hq4 _) _ _ (sq2 _ _ eW8))),by rw[l0,hs];omega,?_⟩⟩;have sq5:=(sq2.trans (ac hq4 (.lst ((rs.take en).map vS++[vS []])))).trans (ac hq5 (.lst ((rs.take en).map vS++[vS []]++os.map vS)));obtain⟨j1,j2,j3⟩:=ly (zs:=rs.take en++[[]]++os) (i:=fi) hWn s8 eW8 nW8 sq5 ((sq2.trans (ac hq4 _)).free hq5) (by rw[aa,l17,l17];rfl) ht4;refine hN _ _ ⟨_,_,rfl,j1,j2,j3,by rw[l8];omega,by rw[l8,hw4];exact l5 _,λx hx=>?_⟩;rcases l20.mp hx with z |z
   ·exact hgw x z
   ·rw[l14.mp z];exact gon [] (.inl rfl)
 ·rintro σ H7 ⟨ts,ws,rfl,s7,eW7,nW7,hw3,hw5,hgw⟩;have htl:ts.length=ws.length:=let ⟨_,_,_,_,h⟩:=nW7;h.len
  refine⟨_,rfl,W,_,rfl, .inl (SqL.of eW7),((ws.length:Nat):Int),by rw[l0,htl],by omega,by omega,?_⟩;rw[l45];refine ft (n:=ws.length) (λi σ H'=>∃x10 x11 x12,σ=[some (.ref l),some (.ref t),some (.int ((4 - n:Nat):Int)),some (.ref lo),some (.int tn),some (.ref a),some (.int fi),some (.int en),some (.ref u),some (.ref W),x10,x11,x12]/\Same H7 H') ⟨none,none,none,rfl,Same.refl _⟩ ?_ ?_
  ·rintro i σ H8 hi ⟨x10,x11,x12,rfl,s8⟩;dsimp only[tAsg.K0,tDrop.K0,Ends.to_nx,Ends.to_rt,al,sA,sB];have eW8:=s8 _ _ eW7;obtain⟨j,hj⟩:∃j:Nat,(0+(i:Int)+tn) % ((ws.length:Nat):Int)=(j:Int):=⟨((0+(i:Int)+tn) % ((ws.length:Nat):Int)).toNat,by have:=Int.emod_nonneg (0+(i:Int)+tn) (show ((ws.length:Nat):Int)≠0 by omega);omega⟩;have hjl:j < ws.length:=by have:=Int.emod_lt_of_pos (0+(i:Int)+tn) (show (0:Int) < ((ws.length:Nat):Int) by omega);omega
   obtain⟨G,gs,_,_,gl⟩:=nW7;obtain⟨tj,htj⟩:∃tj,ts[j]? = some tj:=⟨_,List.getElem?_eq_getElem nofun⟩;have hat:(ts.map V.ref)[j]? = some (.ref tj):=by rw[List.getElem?_map,htj];rfl
   obtain⟨_,x,hv,hx,_,p,ep,el⟩:=gl.get hat;cases hv;have hgx:=hgw x (l15 hx);rw[hGw] at hgx;obtain⟨hx1,hx2⟩:=hgx;have ep8:=s8 _ _ (gs _ _ ep);have el8:=s8 _ _ (gs _ _ el);refine⟨_,rfl,_,rfl,_,rfl,_,_,rfl,rfl,_,rfl,W,_,rfl, .inl (SqL.of eW8),_,_,rfl,rfl,by rw[l0,htl];show (0:Int) < _;omega,W,_,_, .ref tj,rfl,rfl,SqL.of eW8,by rw[l0,htl,hj];exact ag hat,tj,_,rfl,SqT.of ep8,rfl,_,_,rfl,_,_,rfl,rfl,?_⟩;dsimp only[tAsg.K0,tDrop.K0,Ends.to_nx,Ends.to_rt,al,sA,sB];refine⟨_,rfl,_,rfl,_,rfl,n,x.1,x.2,hn,⟨p,rfl,el8,hx1⟩,λv2 H9 s9 d9=>⟨_,rfl,dTl n (rs.drop fi),?_,?_,qg hn _,_,rfl,?_⟩⟩
   ·have:=(d9.same dif_same).den (K:=K);unfold dTl at this ⊢;rw[hx2] at this;exact this
   ·exact(du.same ((s7.trans s8).trans s9)).den
   ·exact iteF ⟨_,_,_,rfl,s8.trans s9⟩
  ·rintro σ H8 ⟨x10,x11,x12,rfl,s8⟩;exact q H8 (s2.trans (s7.trans s8))
end
end K14
namespace L2
open PySem PySem.Spec PyProof.Rows
section
variable {X:Cx}{a b c d:Expr}{ta tb tc td:TE}{pos:Pos}
inductive tCh3.I (r' r'':R2)(tc td:TE)(σ:St)(R:(Bool->Hp->Prop))(y z:V)(H3:Hp):Prop
 |mk (k)(_:z = .bl k)(_:if k=true then (tc σ H3 λw H4=>r' y w H4 λz' H5=>∃k',z' = .bl k'/\if k'=true then (td σ H5 λv H6=>r'' w v H6 λz'' H7=>∃k'',z'' = .bl k''/\R k'' H7) else R false H5) else R false H3)
abbrev tCh3.K1 (r:R2) (r':R2) (r'':R2) (tc:TE) (td:TE) (σ:St) (R:(Bool->Hp->Prop)) (x:V) (y:V) (H2:Hp):Prop:=r x y H2 (tCh3.I r' r'' tc td σ R y)
abbrev tCh3.K0 (r:R2) (r':R2) (r'':R2) (tb:TE) (tc:TE) (td:TE) (σ:St) (R:(Bool->Hp->Prop)) (x:V) (H1:Hp):Prop:=tb σ H1 (tCh3.K1 r r' r'' tc td σ R x)
def tCh3 (r r' r'':R2)(ta tb tc td:TE):TT:=λσ H R=>ta σ H (tCh3.K0 r r' r'' tb tc td σ R)
def vx {op op' op'':CmpOp}{r r' r'':R2}(ho:OpR X (compareOp op) r)(ho':OpR X (compareOp op') r')(ho'':OpR X (compareOp op'') r'')(ha:XE X a ta)(hb:XE X b tb)(hc:XE X c tc)(hd:XE X d td)(hm:lastMarks [op,op',op''] [b,c,d]=false:=by with_unfolding_all rfl):
  XT X (.Compare a [op,op',op''] [b,c,d] pos) (tCh3 r r' r'' ta tb tc td):=by
 refine⟨λw9 s σ H Q I h=>?_⟩;refine isTrue_chain (thn (ha.h w9 s σ H _ I h) fun v s1 ⟨x, H1, I1, r1, q1⟩ => test_link (thn (hb.h w9 s1 σ H1 _ I1 q1) λu s2 ⟨y,H2,I2,r2,q2⟩=>
  thn (ho w9 s2 σ H2 x y v u _ I2 r1 r2 q2) λd s3 ⟨z,H3,I3,r3,k,e,q3⟩=>?_)) hm
 subst e;cases r3;refine wpAny_truthy_bool ?_;cases k with
 |false=>exact ite_ff ⟨H3,I3,q3⟩
 |true=>
  refine ite_tt (test_link (thn (hc.h w9 s3 σ H3 _ I3 q3) λw' s4 ⟨z',H4,I4,r4,q4⟩=>thn (ho' w9 s4 σ H4 y z' u w' _ I4 r2 r4 q4) λd' s5 ⟨z2,H5,I5,r5,k2,e2,q5⟩=>?_));subst e2;cases r5;refine wpAny_truthy_bool ?_;cases k2 with
  |false=>exact ite_ff ⟨H5,I5,q5⟩
  |true=>
   refine ite_tt (test_last (thn (hd.h w9 s5 σ H5 _ I5 q5) λw3 s6 ⟨z3,H6,I6,r6,q6⟩=>thn (ho'' w9 s6 σ H6 z' z3 w' w3 _ I6 r4 r6 q6) λd3 s7 ⟨z4,H7,I7,r7,k3,e3,q7⟩=>?_));subst e3;cases r7;exact wpAny_truthy_bool ⟨H7,I7,q7⟩
end
end L2
namespace K14
open PySem L2 Lm Lw
inductive spBlksX (c:Cb)(vs:List V)(H:Hp)(Q:VK)(u3:XK):Prop
 |mk (n l rs)(_:n<=4)(_:vs=[.ref l, .int ((4 - n:Nat):Int)])(_:H l=some (.lst (rs.map vS)))(_:SmR rs)(_:∀r ts H',Same H H'->H r=none->H' r=some (.lst (ts.map V.ref))->Ls (TrAt (BAt c n) (dif H H')) ts (blks n rs)->Q (.ref r) H')
theorem qX {β:Type}{rdg:List (List Nat)->β×Nat}{rs0:List (List Nat)}:∀{xs:List (β×Nat×Nat)} {p:Nat},Ris rdg rs0 p xs->∀x∈xs,x.2.1 < x.2.2/\x.2.2<=rs0.length/\rdg (rs0.drop x.2.1)=(x.1,x.2.2 - x.2.1)
 |y::xs,p,⟨_,h2,h3,_,_,h6,h7⟩,x,hx=>by
  rcases l6.mp hx with z |z
  ·rw[z];exact⟨h2,h3,h6⟩
  ·exact qX h7 x z
def qpre:Nat->List Nat
 |0=>[]
 |d+1=>62::32::qpre d
def qw:Nat->PyData->PyData
 |0,d=>d
 |i+1,d => .list [.tuple [.str "quote",qw i d]]
def mulq {d:Nat}(h:d<=4):Txt.mul "> " (d:Int)=S (qpre d):=by
 have:d=0 ∨ d=1 ∨ d=2 ∨ d=3 ∨ d=4:=by omega
 rcases this with rfl |rfl |rfl |rfl |rfl <;> rfl
def kH:∀d:Nat,(qpre d).length=2 * d/\GdR (qpre d)
 |0=>⟨rfl,λ_ z=>nomatch z⟩
 |d+1=>by
  obtain⟨a,b⟩:=kH d;refine⟨by show (qpre d).length+1+1=_;omega,λc hc=>?_⟩;rcases l6.mp hc with z |z
  ·rw[z];decide
  rcases l6.mp z with z |z
  ·rw[z];decide
  exact b c z
def lA {rs:List (List Nat)}(n:Nat)(hr:rs≠[]):∀d:Nat,PyData.list (dAll (n+d) (rs.map λr=>qpre d++r))=qw d (.list (dAll n rs))
 |0=>by
  show PyData.list (dAll n (rs.map λr=>r))=_;rw[List.map_id'];rfl
 |d+1=>by
  have e:(rs.map λr=>qpre (d+1)++r)=(rs.map λr=>qpre d++r).map λr=>62::32::r:=by rw[l26];rfl
  rw[e,<- Nat.add_assoc,vw (n+d) (by simpa using hr),lA n hr d];rfl
def vy {ws:List (List Nat)}(h:SmR ws):((ws.map S).map (·.length)).sum+(ws.map S).length * (S [10]).length<=sizeLine:=by
 have e:(S [10]).length=1:=aH _;have:=iG ws;have:=h.sum;rw[fM,l0,e,Nat.mul_one,sizeLine_eq];omega
theorem qY:∀(ws:List (List Nat)),(aF [10] ws).length<=(ws.map λr=>r.length+1).sum/\∀c∈aF [10] ws,c=10 ∨ ∃r∈ws,c∈r
 | []=>⟨l12 _,λ_ z=>nomatch z⟩
 | [p]=>⟨by show p.length<=p.length+1+0;omega,λc hc => .inr ⟨p,l10,hc⟩⟩
 |p::q::r=>by
  obtain⟨a,b⟩:=qY (q::r);refine⟨?_,λc hc=>?_⟩
  ·show (p++[10]++aF [10] (q::r)).length<=_;rw[l8,l8,l13,l19];show p.length+1+_<=_;omega
  ·rcases l20.mp (show c∈p++[10]++aF [10] (q::r) from hc) with z |z
   ·rcases l20.mp z with z |z
    ·exact .inr ⟨p,l10,z⟩
    ·exact .inl (l14.mp z)
   ·rcases b c z with y |⟨x,hx,y⟩
    ·exact .inl y
    ·exact .inr ⟨x,l7 _ hx,y⟩
def sY {rs:List (List Nat)}{p m:Nat}{r:List Nat}(h:r∈(rs.drop p).take m):∃j,p<=j/\j < p+m/\rs[j]? = some r:=by
 obtain⟨i,hi⟩:=List.getElem?_of_mem h;rw[List.getElem?_take] at hi;split at hi
 ·rw[List.getElem?_drop] at hi;exact⟨p+i,by omega,by omega,hi⟩
 ·cases hi
section
variable {c:Cb}{BT dc:Addr}
def oI {G:Hp}{a:Addr}{rs:List (List Nat)}(e:G a=some (.lst (rs.map vS)))(h:SmR rs):Dn G (.ref a) (.list (rs.map λr => .str (S r))):=
 .lst e (pO λr hr=>⟨h.asc r hr,by have:=h.row hr;omega⟩) (by rw[l0];have:=h.len;omega)
abbrev eT:Stmt:=top 107
abbrev vz:List Str:=["_law_script","_law_rows_here","_law_deep","_law_handed","_law_triples","_law_place","_law_block","_law_first","_law_behind","_law_others","_law_k","_law_order","_law_triple","_law_told_here","_law_due","_law_turn","_law_quoted","_law_again"]
inductive spLaw14 (K:Frag)(vs:List V)(H:Hp)(Q:VK)(u3:XK):Prop
 |mk (a:Addr)(ns:List Int)(_:vs=[.ref a])(_:SqL K H a (ns.map V.int))(_:∀H',Same H H'->Q (.bl true) H')
def qm {k:Nat}(hk:6<=k)(F:Fun K "law" "law" eT f fd)(T:Tx mg)(Dw:Def P w K mg base 1 "_law_cell_at" p20 (spCellAt K))(DC:Def P w K mg base 1 "_law_mixed" p21 spMixed)(DD:Def P w K mg base 1 "_law_row" p22 spLRow)(Yi:Def P w K mg base 2 "_law_rows" ["_law_script"] (spLRows K))
  (DE:Def P w K mg base 1 "_law_is_blank" ["_law_row_here"] spBlank)(Yj:Def P w K mg base k "_law_alone" p29 (spAlone c))(DA:Def P w K mg base k "blocks_of" p5 (spBlksX c))(Yk:Def P w K mg base k "read" ["text"] (spReadT dc (BAt c 4) (rd 4)))
  (hM:∀n,n<=4->MV P w K mg base k "told" (BAt c n) (OkB n) (tellsB (dB n)))(hDoc:MethV P w K mg base k dc "told" ["self"] (spDocTold dc (BAt c 4) (dB 4) (OkB 4))):FnOk P w K mg base CX0 (k+1) f fd ["_law_script"] (spLaw14 K):=by
 have sc:FnScope vz ["_law_script"] (ad eT):=mkS;refine F.oks sc λ{cdv A _ s _ _}H Q hr h=>?_;obtain⟨a,ns,rfl,hq,q⟩:=h;have hu:(A.deeper (PyProof.Rows.envOfC "law" (ad eT) s.heap.objs.size f cdv)).units+64 < cLine:=by
  have:=hr.un;omega
 refine am (xbc (xst (i:=1) sc.nd (xcd Yi hr (xac (xv 0) xa0)))
  (xbc (xset (i:=2) sc.nd rfl (Or.inr rfl) (xop cU (xcd Dw hr (xac (xv 0) (xac xint xa0))) xint))
  (xbc (xst (i:=3) sc.nd (xcTy aq T.g10 rfl (xac (xv 1) xa0)))
  (xbc (xst (i:=4) sc.nd (xcd DA hr (xac (xv 3) (xac (xv 2) xa0))))
  (xbc (xst (i:=5) sc.nd xint)
  (xbc (xfor PassesOwn.never rfl (xil (xv 4)) (xgt rfl (xgsc (xgm (i:=6) sc.nd) (xgsc (xgm (i:=7) sc.nd) (xgsc (xgm (i:=8) sc.nd) xgs0))))
  (xbc (xif (xor (cQ (vx rj db rj (xv 5) (xv 7) (xv 8) (xcB aj T.u10 PySem.boot_len (xac (xv 1) xa0)))) (xor1 (aZ (xcd DE hr (xac (xix aT (xv 1) (xv 7) (λ_ _=>rfl)) xa0))))).xt (xb1 (xret xbl)) xb0)
  (xbc (xif (az (gJ hu) (xlc0 (own:=["_law_row_here"])
  (xil (xsl bW (xv 1) (xo1 (xv 5)) (xo1 (xv 7))))
  (λ_ _ _ _=>xgm (i:=0) (show (["_law_row_here"]:List Str).Nodup by decide)) (λ_ _ _ _=>xq1 (cQ (aZ (xcd DE hr (xac (xv 0) xa0))))) (λ_ _ _ _=>(xv 0))) (xlst xa0) (ai _)) (xb1 (xret xbl)) xb0)
  (xb1 (xst (i:=5) sc.nd (xv 8))))))
  (xbc (xif (xor (az (gJ hu) (xlc0 (own:=["_law_row_here"])
  (xil (xsl bW (xv 1) (xo1 (xv 5)) xo0))
  (λ_ _ _ _=>xgm (i:=0) (show (["_law_row_here"]:List Str).Nodup by decide)) (λ_ _ _ _=>xq1 (cQ (aZ (xcd DE hr (xac (xv 0) xa0))))) (λ_ _ _ _=>(xv 0))) (xlst xa0) (ai _)) (xor1 (az (nK hu) (xv 3) (xv 1) (ai _)))).xt (xb1 (xret xbl)) xb0)
  (xbc (xst (i:=9) sc.nd (xlst xa0))
  (xbc (xfor PassesOwn.never rfl (xir1 rfl T.q11 (xac (xop cU (xop dW (xcd Dw hr (xac (xv 0) (xac xint xa0))) xint) xint) xa0)) (xgm (i:=10) sc.nd)
  (xb1 (bw (xmA (xv 9) (xac (xcd DD hr (xac (xcd DC hr (xac (xcd Dw hr (xac (xv 0) (xac xint xa0))) (xac (xv 10) xa0))) (xac xstr xa0))) xa0)))))
  (xbc (xst (i:=11) sc.nd (xifE (az be (xop cU (xop dW (xcd Dw hr (xac (xv 0) (xac xint xa0))) xint) xint) xint (ai _)) (u9 (xv 4)) (xv 4)))
  (xbc (xfor PassesOwn.never rfl (xil (xv 11)) (xgm (i:=12) sc.nd)
  (xb1 (xif (cQ (aZ (xcd Yj hr (xac (xv 1) (xac (xv 12) (xac (xv 2) (xac (xv 9) (xac (xcd Dw hr (xac (xv 0) (xac xint xa0))) xa0)))))))) (xb1 (xret xbl)) xb0)))
  (xbc (pe (i:=13) (own:=["_law_triple"]) sc.nd
  (xil (xv 4))
  (λ_ _ _ _=>xgm (i:=0) (show (["_law_triple"]:List Str).Nodup by decide)) (λ_ _ _ _=>xq0) (λ_ _ _ _=>(jY (k:=k) (xix b9 (xv 0) xint (λ_ _=>rfl)) hr.mono)))
  (xbc (xst (i:=14) sc.nd (xv 13))
  (xbc (xfor PassesOwn.never rfl (xir1 rfl T.q11 (xac (xv 2) xa0)) (xgm (i:=15) sc.nd)
  (xb1 (xst (i:=14) sc.nd (xlst (xac (xtup (xac xstr (xac (xv 14) xa0))) xa0)))))
  (xbc (xslc (i:=16) sc.nd rfl rfl (cl:=[("_law_deep",s.heap.objs.size+1)]) (own:=["_law_row_here"]) (fr:=[2]) (N':=["_law_row_here","_law_deep"]) rfl (lK (xs:=["_law_deep"]) ⟨rfl,trivial⟩ ⟨rfl,rfl, .inl rfl, .inl rfl,trivial⟩ ∅) ∅ ∅ (by with_unfolding_all rfl)
  (xil (xv 1))
  (λ_ _ _ _=>xgm (i:=0) (show (["_law_row_here","_law_deep"]:List Str).Nodup by decide)) (λ_ _ _ _=>xq0) (λ_ _ _ _=>(xop gz (xop rN xstr (xv 1)) (xv 0))))
  (xbc (xif (xand (az (gJ hu) (xv 1) (xlst xa0) (ai _)) (jR (az (nK hu) (xmV0 (k:=k) (xcd Yk hr (xac (xm plainAttrs_str slot_str_join type_str_join b8 xstr (xac (xv 16) xa0)) xa0)) hr.mono) (xv 14) (ai _)))).xt (xb1 (xret xbl)) xb0)
  (xbc (xst (i:=17) sc.nd (xcd DA hr (xac (xv 3) (xac (xv 2) xa0))))
  (xb1 (xret (xcmp (uE hu) (xlc0 (own:=["_law_one"])
  (xil (xv 17))
  (fun _ _ _ _ => xgm (i := 0) (show (["_law_one"] : List Str).Nodup by decide)) (fun _ _ _ _ => xq0) (fun _ _ _ _ => (xtup (xac (jY (k := k) (xix b9 (xv 0) xint (fun _ _ => rfl)) hr.mono) (xac (xix b9 (xv 0) xint (fun _ _ => rfl)) (xac (xix b9 (xv 0) xint (fun _ _ => rfl)) xa0)))))) (xlc0 (own:=["_law_one"])
  (xil (xv 4))
  (λ_ _ _ _=>xgm (i:=0) (show (["_law_one"]:List Str).Nodup by decide)) (λ_ _ _ _=>xq0) (λ_ _ _ _=>(xtup (xac (jY (k:=k) (xix b9 (xv 0) xint (λ_ _=>rfl)) hr.mono) (xac (xix b9 (xv 0) xint (λ_ _=>rfl)) (xac (xix b9 (xv 0) xint (λ_ _=>rfl)) xa0)))))) (ai _))))))))))))))))))))) ?_
 have hs:=sizeLine_eq;rw[uk];refine⟨_,rfl,a,ns,rfl,hq,λr0 rs H1 s1 n0 e0 hrw=>?_⟩;dsimp only[tAsg.K0,tDrop.K0,Ends.to_nx,Ends.to_rt,al,sA,sB];have hsm:SmR rs:=hrw.sm ∅;refine⟨_,rfl,a,ns,0,rfl,s1.seq hq,λi0=>⟨_,_,rfl,rfl,show (0:Int) < 5 by omega,?_⟩⟩;dsimp only[tAsg.K0,tDrop.K0,Ends.to_nx,Ends.to_rt,al,sA,sB];obtain⟨n,hn,hd⟩:∃n:Nat,n<=4/\i0 % 5=((4 - n:Nat):Int):=⟨4 - (i0 % 5).toNat,by omega,by omega⟩;rw[hd];refine⟨_,rfl,r0,_,rfl, .inl (SqL.of e0),λp3 hp3=>?_⟩;dsimp only[tAsg.K0,tDrop.K0,Ends.to_nx,Ends.to_rt,al,sA,sB];have s2:=s1.trans (ac hp3 (.lst (rs.map vS)));have e3:upd H1 p3 (.lst (rs.map vS)) p3=some (.lst (rs.map vS)):=aa;have e02:=ac hp3 (.lst (rs.map vS)) _ _ e0;generalize upd H1 p3 (.lst (rs.map vS))=H2 at s2 e3 e02 ⊢;refine⟨_,rfl,_,rfl,n,p3,rs,hn,rfl,e3,hsm,λtr ts H3 s3 hr3 etr hts=>?_⟩;dsimp only[tAsg.K0,tDrop.K0,Ends.to_nx,Ends.to_rt,al,sA,sB];have s03:=s2.trans s3;have e33:=s3 _ _ e3;have e03:=s3 _ _ e02;have hts:Ls (TrAt (BAt c n) H3) ts (blks n rs):=hts.mono λt x=>pU (ay n) _ _ _ _ dif_same;have htl:=hts.len;have hbl:(blks n rs).length<=900:=l11 (dS _ _ _) hsm.len;have hris:=ris n rs;have hgood:=qX hris;refine ny ?_;dsimp only[tAsg.K0,tDrop.K0,Ends.to_nx,Ends.to_rt,al,sA,sB];have blanks:∀{σ:St} {H':Hp} {xs:List (List Nat)} {X:Addr},H' X=some (.lst (xs.map vS))->xs.length<=900->(∀r∈xs,r.length<=900/\emp r=true)->∀R:Addr->Hp->Prop,(∀D H'',Same H' H''->H' D=none->H'' D=some (.lst [])->R D H'')->rLC 1 [] (al 0) (λσ H Q=>tNot (tB (tCall spBlank [] E0 (tCons (tVar 0) tNil))) σ H Q) (tVar 0) σ (Itl K X) H' R:=λ{σ H' xs X} eX hxl hx R hR=>by
  refine mM (λ_=>false) id (SqL.of eX) (by rw[l0,hs];omega) ?_ ?_
  ·intro v hv H'' sm C N hC hN;obtain⟨r,hr,rfl⟩:=l16.mp hv;refine⟨(nfLe.refl _ _ _).set ∅ _,_,rfl,r,rfl,by have:=(hx r hr).1;omega,λH5 s5=>⟨_,rfl,?_⟩⟩;rw[(hx r hr).2];exact iteF (hN _ s5 rfl)
  ·intro D H'' hD sm eD;refine hR D H'' sm hD ?_;rw[eD,List.filter_eq_nil_iff.mpr λ_ _ z=>Bool.noConfusion z];rfl
 refine bG (λσ H'=>∃(pl:Nat) (x6 x7 x8:Option V),σ=[some (V.ref a),some (.ref r0),some (.int ((4 - n:Nat):Int)),some (.ref p3),some (.ref tr),some (.int (pl:Int)),x6,x7,x8,none,none,none,none,none,none,none,none,none]/\Same H3 H'/\∀j,pl<=j->∀r,rs[j]? = some r->emp r=true) (λN hN=>?_) ?_
 ·refine⟨_,rfl,tr,rfl,⟨_,SqL.of etr⟩,?_⟩;refine cC (xs:=ts.map V.ref) (λi σ H'=>∃(pl:Nat) (x6 x7 x8:Option V),σ=[some (V.ref a),some (.ref r0),some (.int ((4 - n:Nat):Int)),some (.ref p3),some (.ref tr),some (.int (pl:Int)),x6,x7,x8,none,none,none,none,none,none,none,none,none]/\Same H3 H'/\Ris (rd n) rs pl ((blks n rs).drop i)) ⟨0,none,none,none,rfl,Same.refl _,hris⟩ ?_ ?_ ?_
  ·rintro i σ H4 _ ⟨_,_,_,_,_,s4,_⟩;exact SqL.of (s4 _ _ etr)
  ·rintro i v σ H4 hv ⟨pl,x6,x7,x8,rfl,s4,hri⟩;obtain⟨t,x,rfl,hxi,hdr,a1,et,hb⟩:=hts.get hv;rw[hdr] at hri;obtain⟨b,fi,en⟩:=x;obtain⟨h1,h2,h3,h4,⟨rf,h5,h6⟩,h7,h8⟩:=hri;have h1:pl<=fi:=h1;have h2:fi < en:=h2;have h3:en<=rs.length:=h3;have h5:rs[fi]? = some rf:=h5;have et:H3 t=some (.tup [.ref a1, .int fi, .int en]):=et;refine⟨t,_,rfl,SqT.of (s4 _ _ et),rfl,_,_,rfl,_,_,rfl,_,_,rfl,rfl,?_⟩;dsimp only[tAsg.K0,tDrop.K0,Ends.to_nx,Ends.to_rt,al,sA,sB];have hrf:rf.length<=900:=hsm.row (l15 h5);have e04:=s4 _ _ e03;refine aM (t_or false false (gk true λR kk=>?_) λ_ H5 s5=>λR kk=>?_) λH5 s5=>?_
   ·refine⟨_,rfl,_,rfl,_,_,rfl,rfl,_,rfl,?_⟩;rw[decide_eq_true (show (pl:Int)<=(fi:Int) by omega)];refine iteT ⟨_,rfl,_,_,rfl,rfl,_,rfl,?_⟩;rw[decide_eq_true (show (fi:Int) < (en:Int) by omega)];refine iteT ⟨_,rfl,r0,_,rfl, .inl (SqL.of e04),_,_,rfl,rfl,_,rfl,?_⟩;rw[l0,decide_eq_true (show (en:Int)<=((rs.length:Nat):Int) by omega)];exact kk _ (Same.refl _)
   ·refine⟨_,rfl,_,rfl,r0,_,_,vS rf,rfl,rfl,SqL.of (s5 _ _ e04),ag (by rw[List.getElem?_map,h5];rfl),rf,rfl,by omega,λH6 s6=>⟨_,rfl,?_⟩⟩;rw[h6];exact kk _ s6
   ·refine aM (λR kk=>?_) λH6 s6=>?_
    ·refine⟨_,rfl,_,rfl,_,rfl,_,rfl,_,rfl,r0,_,rfl,SqL.of (s5 _ _ e04),λX hX=>⟨X,rfl,⟨_,SqL.of aa⟩,?_⟩⟩;rw[fk,<- l50,<- l63];refine blanks (xs:=(rs.drop pl).take (fi - pl)) aa (by rw[l21,l9];have:=hsm.len;omega) (λr hr=>?_) _ λD H7 s7 hD eD=>?_
     ·obtain⟨j,j1,j2,j3⟩:=sY hr;exact⟨hsm.row (l15 j3),h4 j j1 (show j < fi by omega) r j3⟩
     ·refine⟨bg0,λz0 hz0=>⟨D,z0,[],rfl,rfl,SqL.of (ac hz0 _ _ _ eD),SqL.of aa,_,rfl,?_⟩⟩;exact kk _ ((((ac hX _).trans s7).trans (ac hz0 _)))
    ·exact⟨_,rfl,en,_,_,_,rfl,s4.trans (s5.trans s6),h8⟩
  ·rintro σ H4 ⟨pl,x6,x7,x8,rfl,s4,hri⟩;rw[l0,htl,l46] at hri;exact hN _ _ ⟨pl,x6,x7,x8,rfl,s4,hri⟩
 ·rintro σ H4 ⟨pl,x6,x7,x8,rfl,s4,hpl⟩;have e04:=s4 _ _ e03;have e34:=s4 _ _ e33;refine aM (t_or false false (λR kk=>?_) λ_ H5 s5=>λR kk=>?_) λH5 s5=>?_
  ·refine⟨_,rfl,_,rfl,_,rfl,r0,_,rfl,SqL.of e04,λX hX=>⟨X,rfl,⟨_,SqL.of aa⟩,?_⟩⟩;rw[f8,<- l50];refine blanks (xs:=rs.drop pl) aa (by rw[l9];have:=hsm.len;omega) (λr hr=>?_) _ λD H7 s7 hD eD=>?_
   ·obtain⟨i,hi⟩:=List.getElem?_of_mem hr;rw[List.getElem?_drop] at hi;exact⟨hsm.row (l15 hi),hpl _ nofun r hi⟩
   ·refine⟨bg0,λz0 hz0=>⟨D,z0,[],rfl,rfl,SqL.of (ac hz0 _ _ _ eD),SqL.of aa,_,rfl,?_⟩⟩;exact kk _ ((((ac hX _).trans s7).trans (ac hz0 _)))
  ·refine⟨_,rfl,_,rfl, .list (rs.map λr => .str (S r)),(oI (s5 _ _ e34) hsm).den,(oI (s5 _ _ e04) hsm).den,?_,_,rfl,kk _ (Same.refl _)⟩;exact l11 (aO (n:=0) λd h=>by obtain⟨b,_,rfl⟩:=l16.mp h;rw[bI];exact l5 _) ∅
  clear blanks hpl hris;have s35:=s4.trans s5;clear s4 s5 e04 e34;refine⟨bg0,λlo hlo=>?_⟩;dsimp only[tAsg.K0,tDrop.K0,Ends.to_nx,Ends.to_rt,al,sA,sB];have s36:=s35.trans (ac hlo (.lst []));have nlo:H3 lo=none:=s35.free hlo;have elo:upd H5 lo (.lst []) lo=some (.lst []):=aa;generalize upd H5 lo (.lst [])=H6 at s36 elo ⊢;refine bG (λσ H'=>∃(x10:Option V) (os:List (List Nat)),σ=[some (V.ref a),some (.ref r0),some (.int ((4 - n:Nat):Int)),some (.ref p3),some (.ref tr),some (.int (pl:Int)),x6,x7,x8,some (.ref lo),x10,none,none,none,none,none,none,none]/\Same H3 H'/\H' lo=some (.lst (os.map vS))/\RwG 13 3 os) (λN hN=>?_) ?_
  ·refine⟨_,rfl,a,ns,0,rfl,(s03.trans s36).seq hq,λi1=>⟨_,_,rfl,rfl,⟨by omega,by omega⟩,_,_,rfl,rfl,show (0:Int) < 4 by omega,?_⟩⟩;obtain⟨m,hm⟩:∃m:Nat,i1 / 5 % 4=(m:Int):=⟨(i1 / 5 % 4).toNat,by omega⟩;have hm3:m<=3:=by omega
   refine⟨(m:Int),congrArg (λz=>[V.int z]) hm,by omega,by omega,?_⟩;rw[l45];refine ft (n:=m) (λi σ H'=>∃(x10:Option V) (os:List (List Nat)),σ=[some (V.ref a),some (.ref r0),some (.int ((4 - n:Nat):Int)),some (.ref p3),some (.ref tr),some (.int (pl:Int)),x6,x7,x8,some (.ref lo),x10,none,none,none,none,none,none,none]/\Same H3 H'/\H' lo=some (.lst (os.map vS))/\os.length=i/\∀r∈os,r.length<=13/\GdR r) ⟨none,[],rfl,s36,elo,rfl,λ_ z=>nomatch z⟩ ?_ ?_
   ·rintro i σ H7 hi ⟨x10,os,rfl,s7,elo7,hol,hok⟩;dsimp only[tAsg.K0,tDrop.K0,Ends.to_nx,Ends.to_rt,al,sA,sB];refine⟨_,rfl, .inl ⟨rfl,_,SqL.of elo7⟩,_,rfl,a,ns,1,rfl,(s03.trans s7).seq hq,λi2=>⟨_,rfl,i2,0+(i:Int),rfl,by omega,by omega,λm2 hm2=>⟨m2,[45,32,121],rfl,by decide,by unfold GdR;decide,λr H8 s8 hrl hrg=>⟨lo,_,_,rfl,rfl,s8 _ _ elo7,by rw[l0,hs];omega,?_⟩⟩⟩⟩;refine⟨_,os++[r],rfl,ak nlo (s7.trans s8),by rw[aa,l17];rfl,by rw[l8,hol];rfl,λx hx=>?_⟩;rcases l20.mp hx with z |z
    ·exact hok x z
    ·rw[l14.mp z];exact⟨by have:max 11 3+2=13:=rfl;exact hrl,hrg⟩
   ·rintro σ H7 ⟨x10,os,rfl,s7,elo7,hol,hok⟩;exact hN _ _ ⟨x10,os,rfl,s7,elo7,by omega,hok⟩
  rintro σ H7 ⟨x10,os,rfl,s7,elo7,hos⟩;clear elo s36 s35 hlo;have j8 : SmR (rs ++ [] :: os) := RwG.sm (m := 43) (n := 20) ⟨by rw[l8,l4];have:=hrw.1;have:=hos.1;omega,λr hr=>by
   rcases l20.mp hr with z |z
   ·exact hrw.2 r z
   ·rcases l6.mp z with z |z
    ·rw[z];exact⟨l12 _,λ_ y=>nomatch y⟩
    ·exact⟨l11 (hos.2 r z).1 ∅,(hos.2 r z).2⟩⟩ ∅
  refine bG (λσ H'=>∃(od:Addr) (us:List Addr),σ=[some (V.ref a),some (.ref r0),some (.int ((4 - n:Nat):Int)),some (.ref p3),some (.ref tr),some (.int (pl:Int)),x6,x7,x8,some (.ref lo),x10,some (.ref od),none,none,none,none,none,none]/\Same H7 H'/\H' od=some (.lst (us.map V.ref))/\∀t∈us,t∈ts) (λN hN=>?_) ?_
  ·refine⟨_,rfl,a,ns,0,rfl,(s03.trans s7).seq hq,λi1=>⟨_,_,rfl,rfl,⟨by omega,by omega⟩,_,_,rfl,rfl,show (0:Int) < 2 by omega,rfl,_,rfl,?_⟩⟩;refine ite2 (λ_=>?_) λ_=>?_
   ·refine⟨_,rfl,tr,_,rfl,SqL.of (s7 _ _ etr),λod hod=>?_⟩;exact hN _ _ ⟨od,ts.reverse,rfl,ac hod _,by rw[aa,List.map_reverse],λt ht=>List.mem_reverse.mp ht⟩
   ·exact⟨_,rfl,hN _ _ ⟨tr,ts,rfl,Same.refl _,s7 _ _ etr,λt ht=>ht⟩⟩
  rintro σ H8 ⟨od,us,rfl,s8,eod,hus⟩;refine bG (λσ H'=>∃(x12:Option V),σ=[some (V.ref a),some (.ref r0),some (.int ((4 - n:Nat):Int)),some (.ref p3),some (.ref tr),some (.int (pl:Int)),x6,x7,x8,some (.ref lo),x10,some (.ref od),x12,none,none,none,none,none]/\Same H3 H') (λN hN=>?_) ?_
  ·refine⟨_,rfl,od,rfl,⟨_,SqL.of eod⟩,?_⟩;refine cC (xs:=us.map V.ref) (λi σ H'=>∃(x12:Option V),σ=[some (V.ref a),some (.ref r0),some (.int ((4 - n:Nat):Int)),some (.ref p3),some (.ref tr),some (.int (pl:Int)),x6,x7,x8,some (.ref lo),x10,some (.ref od),x12,none,none,none,none,none]/\Same H8 H') ⟨none,rfl,Same.refl _⟩ ?_ ?_ ?_
   ·rintro i σ H9 _ ⟨_,_,s9⟩;exact SqL.of (s9 _ _ eod)
   ·rintro i v σ H9 hv ⟨x12,rfl,s9⟩;rw[List.getElem?_map] at hv;obtain⟨t,ht,rfl⟩:=l44.mp hv;obtain⟨i',hi'⟩:=List.getElem?_of_mem (hus t (l15 ht));obtain⟨_,x,hv2,hx,_,htr⟩:=hts.get (i:=i') (v := .ref t) (by rw[List.getElem?_map,hi'];rfl);cases hv2;obtain⟨g1,g2,g3⟩:=hgood x (l15 hx);have s39:=s7.trans (s8.trans s9);dsimp only[tAsg.K0,tDrop.K0,Ends.to_nx,Ends.to_rt,al,sA,sB];refine s_if false (gk true λR kk=>?_) (λ_ _ z=>Bool.noConfusion z) λH10 s10 _=>⟨_,rfl,s9.trans s10⟩;exact⟨_,rfl,_,rfl,_,rfl,_,rfl,_,rfl,a,ns,1,rfl,(s03.trans s39).seq hq,λi3=>⟨n,r0,rs,t,x,lo,os,i3,hn,rfl,s39 _ _ e03,(s8.trans s9) _ _ elo7,j8,pU (ay n) _ _ _ _ s39 htr,g1,g2,g3,λH10 s10=>⟨_,rfl,kk _ s10⟩⟩⟩
   ·rintro σ H9 ⟨x12,rfl,s9⟩;exact hN _ _ ⟨x12,rfl,s7.trans (s8.trans s9)⟩
  rintro σ H9 ⟨x12,rfl,s9⟩;clear j8 hos elo7 s7 eod hus s8 nlo hgood;refine⟨_,rfl,tr,rfl,⟨_,SqL.of (s9 _ _ etr)⟩,?_⟩;refine cf (λi=>(((blks n rs)[i]?).map λx=>dB n x.1).getD .none) (SqL.of (s9 _ _ etr)) (by rw[l0];omega) ?_ ?_
  ·intro i v hv H10 s10 C N hC;obtain⟨t,x,rfl,hx,_,a1,et,hb⟩:=hts.get hv;have hxo:OkB n x.1:=eH (ok:=OkB n) (λrs h=>mj n rs h) _ _ _ hsm x (l15 hx);have s310:=s9.trans s10;obtain⟨Cc,dx,fs,sp,e1,e2,hV,hsp⟩:=hM n hn x.1 hxo H10 a1 (ay n _ _ _ _ s310 hb);refine⟨(nfLe.refl _ _ _).set ∅ _,iteT (B:=N H10) ⟨_,rfl,t,_,0,_,rfl,rfl,SqT.of (s310 _ _ et),ag (j:=0) rfl,a1,Cc,dx,fs,_,sp,rfl,e1,e2,hV,hsp _ _ λv H11 ⟨s11,d11⟩=>hC v H11 s11 ?_⟩⟩;rw[hx];exact d11
  intro D H10 hD s10 dD;rw[l0,htl,aU] at dD;dsimp only[tAsg.K0,tDrop.K0,Ends.to_nx,Ends.to_rt,al,sA,sB];have dD:Dn H10 (.ref D) (.list (dAll n rs)):=dD.same dif_same;have s310:=s9.trans s10;refine⟨_,rfl,?_⟩;dsimp only[tAsg.K0,tDrop.K0,Ends.to_nx,Ends.to_rt,al,sA,sB];refine bG (λσ H'=>∃(v14:V) (x15:Option V),σ=[some (V.ref a),some (.ref r0),some (.int ((4 - n:Nat):Int)),some (.ref p3),some (.ref tr),some (.int (pl:Int)),x6,x7,x8,some (.ref lo),x10,some (.ref od),x12,some (.ref D),some v14,x15,none,none]/\Same H10 H'/\Dn H' v14 (qw (4 - n) (.list (dAll n rs)))) (λN hN=>?_) ?_
  ·refine⟨_,rfl,((4 - n:Nat):Int),rfl,by omega,by omega,?_⟩;rw[l45];refine ft (n:=4 - n) (λi σ H'=>∃(v14:V) (x15:Option V),σ=[some (V.ref a),some (.ref r0),some (.int ((4 - n:Nat):Int)),some (.ref p3),some (.ref tr),some (.int (pl:Int)),x6,x7,x8,some (.ref lo),x10,some (.ref od),x12,some (.ref D),some v14,x15,none,none]/\Same H10 H'/\Dn H' v14 (qw i (.list (dAll n rs)))) ⟨_,none,rfl,Same.refl _,dD⟩ ?_ ?_
   ·rintro i σ H11 hi ⟨v14,x15,rfl,s11,d11⟩;dsimp only[tAsg.K0,tDrop.K0,Ends.to_nx,Ends.to_rt,al,sA,sB];refine⟨_,rfl,bg2,λt ht=>⟨bg1,λL hL=>?_⟩⟩;have st:=ac ht (.tup [V.str "quote",v14]);have sL:=ac hL (.lst [V.ref t]);refine⟨_,_,rfl,(s11.trans st).trans sL,?_⟩;exact .lst aa (.cons (.tup (sL _ _ aa) (.cons (dn_k (k:="quote")) (.cons (d11.same (st.trans sL)) .nil))) .nil) (by show 1<=_;decide)
   ·rintro σ H11 ⟨v14,x15,rfl,s11,d11⟩;exact hN _ _ ⟨v14,x15,rfl,s11,d11⟩
  rintro σ H11 ⟨v14,x15,rfl,s11,d11⟩;have s311:=s310.trans s11;have e011:=s311 _ _ e03;obtain⟨qs,hqs⟩:∃qs,qs=rs.map λr=>qpre (4 - n)++r:=⟨_,rfl⟩;have hqg:RwG 51 16 qs:=by
   refine⟨by rw[hqs,l0];exact hrw.1,λr hr=>?_⟩;rw[hqs] at hr;obtain⟨r',hr',rfl⟩:=l16.mp hr;obtain⟨z1,z2⟩:=kH (4 - n);obtain⟨z3,z4⟩:=hrw.2 r' hr';exact⟨by rw[l8];omega,z2.app z4⟩
  have hqm:SmR qs:=hqg.sm ∅;refine⟨_,rfl,r0,rfl,⟨_,SqL.of e011⟩,?_⟩;refine lQ (λi=>((rs[i]?).map λr=>vS (qpre (4 - n)++r)).getD .non) (SqL.of e011) (by rw[l0,hs];have:=hsm.len;omega) ?_ ?_
  ·intro i v hv H12 s12 C N hC;rw[List.getElem?_map] at hv;obtain⟨r,hri,rfl⟩:=l44.mp hv;have hrl:=hsm.row (l15 hri);have hc:=hC H12 (Same.refl _);rw[hri] at hc;refine⟨(nfLe.refl _ _ _).set ∅ _,iteT (B:=N H12) ⟨_,rfl,_,_,rfl,rfl,by decide,by omega,by omega,?_⟩⟩;rw[mulq (show 4 - n<=4 by omega)];refine⟨_,rfl,_,_,rfl,rfl,by rw[aH,aH,hs,(kH (4 - n)).1];omega,?_⟩;rw[uo];exact hc
  intro D2 H12 hD2 s12 eD2;rw[l0,aU] at eD2;have eD2:H12 D2=some (.lst (qs.map vS)):=by rw[eD2,hqs,l26];rfl
  dsimp only[tAsg.K0,tDrop.K0,Ends.to_nx,Ends.to_rt,al,sA,sB];have s312:=s311.trans s12;refine aM (t:=tAnd _ _) ?_ λH13 s13=>?_
  ·by_cases hz:rs=[]
   ·refine eZ false false (λR kk=>⟨_,rfl,bg0,λz0 hz0=>⟨r0,z0,_,rfl,rfl,SqL.of (ac hz0 _ _ _ (s312 _ _ e03)),SqL.of aa,_,rfl,?_⟩⟩) λz=>nomatch z;rw[hz];exact kk _ (ac hz0 _)
   ·refine eZ true false (λR kk=>⟨_,rfl,bg0,λz0 hz0=>⟨r0,z0,_,rfl,rfl,SqL.of (ac hz0 _ _ _ (s312 _ _ e03)),SqL.of aa,_,rfl,?_⟩⟩) λ_ H13 s13=>λR kk=>?_
    ·obtain⟨x,xs,hx⟩:∃x xs,rs=x::xs:=by cases rs with |nil=>exact absurd rfl hz |cons x xs=>exact⟨x,xs,rfl⟩
     rw[hx];exact kk _ (ac hz0 _)
    ·have hqz:qs≠[]:=by rw[hqs];simpa using hz
     obtain⟨gl1,gl2⟩:=qY qs;have hsp:aD 10 (aF [10] qs)=qs:=dX 10 qs hqz λp hp z=>((hqg.2 p hp).2 10 z).2.1 rfl;have h9:9∉aF [10] qs:=λz=>by
      rcases gl2 9 z with y |⟨r,hr,y⟩
      ·exact absurd y ∅
      ·exact((hqg.2 r hr).2 9 y).2.2 rfl
     refine⟨rfl,_,rfl,S [10],D2,qs.map S,rfl,rfl,SqL.of (by rw[s13 _ _ eD2,ee]),vy hqm,?_⟩;rw[ca];refine⟨aF [10] qs,rfl,h9,by have:=hqm.sum;omega,by rw[hsp];exact hqm,λdd H14 s14 hdoc=>?_⟩;rw[hsp] at hdoc;obtain⟨dx,lb,edoc,hlb⟩:=hdoc;have hbo:∀b∈(blks 4 qs).map (·.1),OkB 4 b:=λb hb=>by
      obtain⟨x,hx,rfl⟩:=l16.mp hb;exact eH (ok:=OkB 4) (λrs h=>mj 4 rs h) _ _ _ hqm x hx
     refine⟨dd,dc,dx,_,_,_,rfl,dif_same _ _ edoc,rfl,hDoc,dd,(blks 4 qs).map (·.1),rfl,⟨dx,lb,dif_same _ _ edoc,hlb.same (ay 4) dif_same⟩,by rw[l0];exact l11 (dS _ _ _) (l11 hqm.len ∅),hbo,λv15 H15 s15 d15=>⟨_,rfl, .list (dAll 4 qs),?_,?_,?_,_,rfl,kk _ (s14.trans s15)⟩⟩
     ·have:=(d15.same dif_same).den (K:=K);rw[l26] at this;exact this
     ·have e:=lA n hz (4 - n);rw[show n+(4 - n)=4 by omega,<- hqs] at e;rw[e];exact(d11.same (((s12.trans s13).trans s14).trans s15)).den
     ·exact l11 (aO (n:=28) λd hd=>by obtain⟨x,_,rfl⟩:=l16.mp hd;exact iM 4 _) ∅
  have s313:=s312.trans s13;refine⟨_,rfl,_,rfl,n,p3,rs,hn,rfl,s313 _ _ e33,hsm,λg2 ts2 H14 s14 hr14 eg2 hts2=>?_⟩;dsimp only[tAsg.K0,tDrop.K0,Ends.to_nx,Ends.to_rt,al,sA,sB];have hts2:Ls (TrAt (BAt c n) H14) ts2 (blks n rs):=hts2.mono λt x=>pU (ay n) _ _ _ _ dif_same;have s314:=s313.trans s14;have hxo:∀x∈blks n rs,OkB n x.1:=λx hx=>eH (ok:=OkB n) (λrs h=>mj n rs h) _ _ _ hsm x hx;obtain⟨d3,hd3⟩:∃d3:Bl n×Nat×Nat->PyData,d3=λx => .tuple [dB n x.1, .int x.2.1, .int x.2.2]:=⟨_,rfl⟩;have htl2:=hts2.len;have dep : (PyData.list ((blks n rs).map d3)).depth <= 64 := l11 (aO (n:=29) λd hd=>by
   obtain⟨x,_,rfl⟩:=l16.mp hd;rw[hd3];refine bu λd hd=>?_;rcases l6.mp hd with z |z
   ·rw[z];exact l11 (iM n _) nofun
   rcases l6.mp z with z |z
   ·rw[z];unfold PyData.depth;exact l12 _
   ·rw[l14.mp z];unfold PyData.depth;exact l12 _) ∅
  refine⟨_,rfl,g2,rfl,⟨_,SqL.of eg2⟩,?_⟩;refine cf (λi=>(((blks n rs)[i]?).map d3).getD .none) (SqL.of eg2) (by rw[l0];omega) ?_ ?_
  ·intro i v hv H15 s15 C N hC;obtain⟨t,x,rfl,hx,_,a1,et,hb⟩:=hts2.get hv;obtain⟨Cc,dx,fs,sp,e1,e2,hV,hsp⟩:=hM n hn x.1 (hxo x (l15 hx)) H15 a1 (ay n _ _ _ _ s15 hb);refine⟨(nfLe.refl _ _ _).set ∅ _,iteT (B:=N H15) ⟨_,rfl,t,_,0,_,rfl,rfl,SqT.of (s15 _ _ et),ag (j:=0) rfl,a1,Cc,dx,fs,_,sp,rfl,e1,e2,hV,hsp _ _ λv H16 ⟨s16,d16⟩=>⟨_,rfl,t,_,1,_,rfl,rfl,SqT.of (s16 _ _ (s15 _ _ et)),ag (j:=1) rfl,_,rfl,t,_,2,_,rfl,rfl,SqT.of (s16 _ _ (s15 _ _ et)),ag (j:=2) rfl,bg3,λu hu'=>?_⟩⟩⟩;obtain⟨b1,b2⟩:=bz s16 hu' (.cons d16 (.cons (.int _) (.cons (.int _) .nil)));refine hC _ _ b1 ?_;rw[hx,hd3];exact b2
  intro D5 H15 hD5 s15 dD5;rw[l0,htl2,aU] at dD5;have dD5:Dn H15 (.ref D5) (.list ((blks n rs).map d3)):=dD5.same dif_same;have s315:=s314.trans s15;refine⟨_,rfl,tr,rfl,⟨_,SqL.of (s315 _ _ etr)⟩,?_⟩;refine cf (λi=>(((blks n rs)[i]?).map d3).getD .none) (SqL.of (s315 _ _ etr)) (by rw[l0];omega) ?_ ?_
  ·intro i v hv H16 s16 C N hC;obtain⟨t,x,rfl,hx,_,a1,et,hb⟩:=hts.get hv;have s316:=s315.trans s16;obtain⟨Cc,dx,fs,sp,e1,e2,hV,hsp⟩:=hM n hn x.1 (hxo x (l15 hx)) H16 a1 (ay n _ _ _ _ s316 hb);refine⟨(nfLe.refl _ _ _).set ∅ _,iteT (B:=N H16) ⟨_,rfl,t,_,0,_,rfl,rfl,SqT.of (s316 _ _ et),ag (j:=0) rfl,a1,Cc,dx,fs,_,sp,rfl,e1,e2,hV,hsp _ _ λv H17 ⟨s17,d17⟩=>⟨_,rfl,t,_,1,_,rfl,rfl,SqT.of (s17 _ _ (s316 _ _ et)),ag (j:=1) rfl,_,rfl,t,_,2,_,rfl,rfl,SqT.of (s17 _ _ (s316 _ _ et)),ag (j:=2) rfl,bg3,λu hu'=>?_⟩⟩⟩;obtain⟨b1,b2⟩:=bz s17 hu' (.cons d17 (.cons (.int _) (.cons (.int _) .nil)));refine hC _ _ b1 ?_;rw[hx,hd3];exact b2
  intro D6 H16 hD6 s16 dD6;rw[l0,htl,aU] at dD6;have dD6:Dn H16 (.ref D6) (.list ((blks n rs).map d3)):=dD6.same dif_same;exact⟨_,(dD5.same s16).den,dD6.den,dep,q _ (s03.trans (s315.trans s16))⟩
end
def b1 {α:Type}{p:List α->Prop}(h:∀a,p [a])(us:List α)(hl:us.length=1):p us:=match us,hl with | [a],_=>h a
def b2 {α:Type}{p:List α->Prop}(h:∀a b,p [a,b])(us:List α)(hl:us.length=2):p us:=match us,hl with | [a,b],_=>h a b
def b3 {α:Type}{p:List α->Prop}(h:∀a b c,p [a,b,c])(us:List α)(hl:us.length=3):p us:=match us,hl with | [a,b,c],_=>h a b c
def b4 {α:Type}{p:List α->Prop}(h:∀a b c d,p [a,b,c,d])(us:List α)(hl:us.length=4):p us:=match us,hl with | [a,b,c,d],_=>h a b c d
def b5 {α:Type}{p:List α->Prop}(h:∀a b c d e,p [a,b,c,d,e])(us:List α)(hl:us.length=5):p us:=match us,hl with | [a,b,c,d,e],_=>h a b c d e
def eU {P:Program}{w:World}{K:Frag}{mg:Str->Option Value}{base:Heap}{j k:Nat}{x:Str}{ps:List Str}{sp:Sp}(D:Def P w K mg base j x ps sp)(h:j<=k:=by omega):Def P w K mg base k x ps sp:=let ⟨f,fd,a,r⟩:=D.ex;⟨f,fd,a.mono h,r⟩
def sZ {P:Program}{w:World}{K:Frag}{mg:Str->Option Value}{base:Heap}{j k:Nat}{β:Type}{m:Str}{R:Hp->Addr->β->Prop}{ok:β->Prop}{post:β->Hp->V->Hp->Prop}(M:MV P w K mg base j m R ok post)(h:j<=k):MV P w K mg base k m R ok post:=λb hb H a x=>let ⟨C,dx,fs,sp,e1,e2,V,g⟩:=M b hb H a x;⟨C,dx,fs,sp,e1,e2,V.mono h,g⟩
def FnOk.ex.{u}{P:Program}{w:World}{K:Frag}{mg:Str->Option Value}{base:Heap}{CX:CXT}{k:Nat}{f:Addr}{fd:FuncData}{ps:List Str}{ι:Sort u}{sp:ι->Sp}(F:∀i,FnOk P w K mg base CX k f fd ps (sp i)):FnOk P w K mg base CX k f fd ps (λvs H Q E=>∃i,sp i vs H Q E):=
 ⟨λvs H Q E ⟨i,h⟩=>(F i).len vs H Q E h,λA outer s H args us vs Q E hr e b v ⟨i,h⟩=>(F i).run A outer s H args us vs Q E hr e b v h⟩
def RE:Hp->Addr->Empty->Prop:=λ_ _ z=>nomatch z
def kI:MoR RE:=λ_ _ _ z=>nomatch z
structure FnIn (K:Frag)(x:Str)(st:Stmt):Prop where
 ex:∃(f:Addr) (oc:Value) (od:Option Addr) (kV dc pm:Value) (an:Option Addr) (cd ct:Value) (sl:Array (Option Value)),nsIn K mainGlobals x=some (some (.ref f)) ∧
  K.lookup f=some ⟨oc,od, .func (fnOf x x (bv st) (bf st) (ad st) .none kV dc pm an cd ct),sl⟩/\codeIn K cd x=true/\keepIn K (.ref f)=true
def fnIn_mk {K:Frag}{x:Str}{st:Stmt}{f:Addr}{oc:Value}{od:Option Addr}{kV dc pm:Value}{an:Option Addr}{cd ct:Value}{sl:Array (Option Value)}(a:nsIn K mainGlobals x=some (some (.ref f)))
  (l:K.lookup f=some ⟨oc,od, .func (fnOf x x (bv st) (bf st) (ad st) .none kV dc pm an cd ct),sl⟩)(c:codeIn K cd x=true)(k:keepIn K (.ref f)=true):FnIn K x st:=
 ⟨f,oc,od,kV,dc,pm,an,cd,ct,sl,a,l,c,k⟩
section
variable {P:Program}{w:World}{K:Frag}{h:Heap}{mg:Str->Option Value}{base:Heap}{x:Str}{st:Stmt}{ps:List Str}{k:Nat}{sp:Sp}
def ae (X:K.In h)(G:h.Ns mainGlobals mg)(F:FnIn K x st)
  (hb:∀(kV doc pm:Value)(an:Option Addr)(cdv ct:Value)(us:List Value),us.length=ps.length->bindArgs (fnOf x x (bv st) (bf st) (ad st) .none kV doc pm an cdv ct) ⟨us,[]⟩=pure (ps.zip us))
  (ok:∀f fd,Fun K x x st f fd->FnOk P w K mg base CX0 k f fd ps sp):Def P w K mg base k x ps sp:=by
 obtain⟨f,oc,od,kV,dc,pm,an,cd,ct,sl,a,l,c,kp⟩:=F.ex;have F1:=kN (st:=st) l c kp;exact⟨f,_,ok f _ F1,mg_of X G a,F1.kp,F1.binds hb⟩
def spNo:Sp:=λ_ _ _ _=>False
def uT {CX:CXT}{f:Addr}{fd:FuncData}:FnOk P w K mg base CX k f fd ps spNo:=⟨λ_ _ _ _ z=>z.elim,λ_ _ _ _ _ _ _ _ _ _ _ _ _ z=>z.elim⟩
end
def cst_mk {K:Frag}{x:Str}{p:Value->Prop}{v:Value}(e:nsIn K mainGlobals x=some (some v))(f:p v):∃v,nsIn K mainGlobals x=some (some v)/\p v:=⟨v,e,f⟩
def ownx_VE {K:Frag}{C:Addr}(q:excIn K C [.type "ValueError", .type "Exception", .type "BaseException", .type "object"] "ValueError.__new__"=true):OwnX K C:=⟨_,_,_,_,q,PySem.F.excBase_ValueError⟩
structure MIn (K:Frag)(C:Addr)(x qual:Str)(st:Stmt):Prop where
 ex:∃(f:Addr) (oc:Value) (od:Option Addr) (kV dc pm:Value) (an:Option Addr) (cd ct:Value) (sl:Array (Option Value)),findIn K (.ref C) x=some (some (.ref f))/\isFn K (.ref f)=true ∧
  K.lookup f=some ⟨oc,od, .func (fnOf x qual (bv st) (bf st) (ad st) .none kV dc pm an cd ct),sl⟩/\codeIn K cd qual=true/\keepIn K (.ref f)=true
def mIn_mk {K:Frag}{C:Addr}{x qual:Str}{st:Stmt}{f:Addr}{oc:Value}{od:Option Addr}{kV dc pm:Value}{an:Option Addr}{cd ct:Value}{sl:Array (Option Value)}(a:findIn K (.ref C) x=some (some (.ref f)))(i:isFn K (.ref f)=true)
  (l:K.lookup f=some ⟨oc,od, .func (fnOf x qual (bv st) (bf st) (ad st) .none kV dc pm an cd ct),sl⟩)(c:codeIn K cd qual=true)(k:keepIn K (.ref f)=true):MIn K C x qual st:=
 ⟨f,oc,od,kV,dc,pm,an,cd,ct,sl,a,i,l,c,k⟩
def bK {P:Program}{w:World}{K:Frag}{mg:Str->Option Value}{base:Heap}{x qual:Str}{C:Addr}{st:Stmt}{ps:List Str}{k:Nat}{sp:Sp}(hm:mg x=some (.ref C))(mk:makesIn K C=true)(kc:keepIn K (.ref C)=true)(M:MIn K C "__init__" qual st)
  (hb:∀(kV doc pm:Value)(an:Option Addr)(cdv ct:Value)(us:List Value),us.length=ps.length->bindArgs (fnOf "__init__" qual (bv st) (bf st) (ad st) .none kV doc pm an cdv ct) ⟨us,[]⟩=pure (ps.zip us))
  (ok:∀f fd,Fun K "__init__" qual st f fd->FnOk P w K mg base CX0 k f fd ps sp):New P w K mg base k x C ps sp:=by
 obtain⟨f,oc,od,kV,dc,pm,an,cd,ct,sl,a,i,l,c,kp⟩:=M.ex;have F1:=kN (st:=st) l c kp;exact⟨f,_,⟨mk,a,i,kc⟩,ok f _ F1,hm,F1.binds hb⟩
def bd {P:Program}{w:World}{K:Frag}{mg:Str->Option Value}{base:Heap}{x qual:Str}{C:Addr}{st:Stmt}{ps:List Str}{k:Nat}{sp:Sp}(hc:Cls K C)(M:MIn K C x qual st)
  (hb:∀(kV doc pm:Value)(an:Option Addr)(cdv ct:Value)(us:List Value),us.length=ps.length->bindArgs (fnOf x qual (bv st) (bf st) (ad st) .none kV doc pm an cdv ct) ⟨us,[]⟩=pure (ps.zip us))
  (ok:∀f fd,Fun K x qual st f fd->FnOk P w K mg base CX0 k f fd ps sp):MethV P w K mg base k C x ps sp:=by
 obtain⟨f,oc,od,kV,dc,pm,an,cd,ct,sl,a,i,l,c,kp⟩:=M.ex;have F1:=kN (st:=st) l c kp;exact⟨f,_,hc,⟨a,i,kp⟩,ok f _ F1,F1.binds hb⟩
structure PIn (K:Frag)(C:Addr):Prop where
 mkc:makesIn K C=true
 kc:keepIn K (.ref C)=true
 pg:plainGet K C Str.empty=true
 hd:hasDictIn K C=true
 po:plainOver K C=true
 sa:findIn K (.ref C) "__setattr__"=some (some (.builtin "object.__setattr__"))
 ha:findIn K (.ref C) "__class__"=some (some (.builtin "object.__class__"))
 hn:specialIn K (.builtin "object.__class__") "__get__"=some (some (.builtin "getset_descriptor.__get__"))
 ht:takesIn K (.builtin "object.__class__")=some true
 hm:mroIn K C (.type "object")=some true
def PIn.cls {K:Frag}{C:Addr}(p:PIn K C):Cls K C:=⟨p.pg,p.hd,p.po,p.sa⟩
def PIn.inst {K:Frag}{C:Addr}(p:PIn K C):Inst K C:=⟨p.cls,p.ha,p.hn,p.ht,p.hm⟩
structure Addrs where
 BadName:Addr
 Plain:Addr
 Code:Addr
 Strong:Addr
 Link:Addr
 Mark:Addr
 Heading:Addr
 Para:Addr
 Literal:Addr
 Quote:Addr
 Naming:Addr
 Noting:Addr
 Entry:Addr
 Listing:Addr
 Table:Addr
 Document:Addr
structure ClsT (K:Frag)(c:Addrs):Prop where
 u14:nsIn K mainGlobals "BadName"=some (some (.ref c.BadName))
 g13:nsIn K mainGlobals "Plain"=some (some (.ref c.Plain))
 q23:nsIn K mainGlobals "Code"=some (some (.ref c.Code))
 u24:nsIn K mainGlobals "Strong"=some (some (.ref c.Strong))
 g24:nsIn K mainGlobals "Link"=some (some (.ref c.Link))
 z24:nsIn K mainGlobals "Mark"=some (some (.ref c.Mark))
 q24:nsIn K mainGlobals "Heading"=some (some (.ref c.Heading))
 u25:nsIn K mainGlobals "Para"=some (some (.ref c.Para))
 g25:nsIn K mainGlobals "Literal"=some (some (.ref c.Literal))
 z25:nsIn K mainGlobals "Quote"=some (some (.ref c.Quote))
 q25:nsIn K mainGlobals "Naming"=some (some (.ref c.Naming))
 u26:nsIn K mainGlobals "Noting"=some (some (.ref c.Noting))
 g26:nsIn K mainGlobals "Entry"=some (some (.ref c.Entry))
 z26:nsIn K mainGlobals "Listing"=some (some (.ref c.Listing))
 q26:nsIn K mainGlobals "Table"=some (some (.ref c.Table))
 u27:nsIn K mainGlobals "Document"=some (some (.ref c.Document))
 q22:OwnX K c.BadName
 q16:PIn K c.Plain
 g35:findIn K (.ref c.Plain) "signs"=some none
 u17:PIn K c.Code
 z35:findIn K (.ref c.Code) "signs"=some none
 g17:PIn K c.Strong
 q35:findIn K (.ref c.Strong) "parts"=some none
 z17:PIn K c.Link
 u36:findIn K (.ref c.Link) "words"=some none
 g36:findIn K (.ref c.Link) "name"=some none
 q17:PIn K c.Mark
 z36:findIn K (.ref c.Mark) "name"=some none
 u18:PIn K c.Heading
 q36:findIn K (.ref c.Heading) "level"=some none
 u37:findIn K (.ref c.Heading) "parts"=some none
 g18:PIn K c.Para
 g37:findIn K (.ref c.Para) "parts"=some none
 z18:PIn K c.Literal
 z37:findIn K (.ref c.Literal) "lines"=some none
 q18:PIn K c.Quote
 q37:findIn K (.ref c.Quote) "blocks"=some none
 u19:PIn K c.Naming
 u38:findIn K (.ref c.Naming) "name"=some none
 g38:findIn K (.ref c.Naming) "target"=some none
 g19:PIn K c.Noting
 z38:findIn K (.ref c.Noting) "name"=some none
 q38:findIn K (.ref c.Noting) "parts"=some none
 z19:PIn K c.Entry
 u39:findIn K (.ref c.Entry) "sign"=some none
 g39:findIn K (.ref c.Entry) "parts"=some none
 z39:findIn K (.ref c.Entry) "entries"=some none
 q19:PIn K c.Listing
 q39:findIn K (.ref c.Listing) "entries"=some none
 u20:PIn K c.Table
 u40:findIn K (.ref c.Table) "head"=some none
 g40:findIn K (.ref c.Table) "sides"=some none
 z40:findIn K (.ref c.Table) "lines"=some none
 g20:PIn K c.Document
 q40:findIn K (.ref c.Document) "blocks"=some none
 u41:kitOne K (.ref c.Plain) (.ref c.Plain)=some true
 g41:kitOne K (.ref c.Plain) (.type "str")=some false
 z41:kitOne K (.ref c.Code) (.ref c.Plain)=some false
 q41:kitOne K (.ref c.Code) (.type "str")=some false
 u42:kitOne K (.ref c.Strong) (.ref c.Plain)=some false
 g42:kitOne K (.ref c.Strong) (.type "str")=some false
 z42:kitOne K (.ref c.Link) (.ref c.Plain)=some false
 q42:kitOne K (.ref c.Link) (.type "str")=some false
 u43:kitOne K (.ref c.Mark) (.ref c.Plain)=some false
 g43:kitOne K (.ref c.Mark) (.type "str")=some false
 z43:MIn K c.Document "__init__" "Document.__init__" fm
 q43:MIn K c.Document "told" "Document.told" fo
 u44:MIn K c.Plain "__init__" "Plain.__init__" cF
 g44:MIn K c.Plain "told" "Plain.told" cG
 z44:MIn K c.Code "__init__" "Code.__init__" dm
 q44:MIn K c.Code "told" "Code.told" dt
 u45:MIn K c.Strong "__init__" "Strong.__init__" cg
 g45:MIn K c.Strong "told" "Strong.told" ci
 z45:MIn K c.Link "__init__" "Link.__init__" dq
 q45:MIn K c.Link "told" "Link.told" dz
 u46:MIn K c.Mark "__init__" "Mark.__init__" dr
 g46:MIn K c.Mark "told" "Mark.told" dA
 z46:MIn K c.Heading "__init__" "Heading.__init__" bP
 q46:MIn K c.Heading "told" "Heading.told" bS
 u47:MIn K c.Para "__init__" "Para.__init__" dH
 g47:MIn K c.Para "told" "Para.told" dI
 z47:MIn K c.Literal "__init__" "Literal.__init__" bQ
 q47:MIn K c.Literal "told" "Literal.told" bT
 u48:MIn K c.Quote "__init__" "Quote.__init__" cJ
 g48:MIn K c.Quote "told" "Quote.told" cM
 z48:MIn K c.Naming "__init__" "Naming.__init__" cm
 q48:MIn K c.Naming "told" "Naming.told" cq
 u49:MIn K c.Noting "__init__" "Noting.__init__" cn
 g49:MIn K c.Noting "told" "Noting.told" cr
 z49:MIn K c.Entry "__init__" "Entry.__init__" cK
 q49:MIn K c.Entry "told" "Entry.told" cN
 u50:MIn K c.Listing "__init__" "Listing.__init__" bR
 g50:MIn K c.Listing "told" "Listing.told" bU
 z50:MIn K c.Table "__init__" "Table.__init__" cL
 q50:MIn K c.Table "told" "Table.told" cO
def cls_mk {K:Frag}{aBadName aPlain aCode aStrong aLink aMark aHeading aPara aLiteral aQuote aNaming aNoting aEntry aListing aTable aDocument:Addr}
  (u14:nsIn K mainGlobals "BadName"=some (some (.ref aBadName)))
  (g13:nsIn K mainGlobals "Plain"=some (some (.ref aPlain)))
  (q23:nsIn K mainGlobals "Code"=some (some (.ref aCode)))
  (u24:nsIn K mainGlobals "Strong"=some (some (.ref aStrong)))
  (g24:nsIn K mainGlobals "Link"=some (some (.ref aLink)))
  (z24:nsIn K mainGlobals "Mark"=some (some (.ref aMark)))
  (q24:nsIn K mainGlobals "Heading"=some (some (.ref aHeading)))
  (u25:nsIn K mainGlobals "Para"=some (some (.ref aPara)))
  (g25:nsIn K mainGlobals "Literal"=some (some (.ref aLiteral)))
  (z25:nsIn K mainGlobals "Quote"=some (some (.ref aQuote)))
  (q25:nsIn K mainGlobals "Naming"=some (some (.ref aNaming)))
  (u26:nsIn K mainGlobals "Noting"=some (some (.ref aNoting)))
  (g26:nsIn K mainGlobals "Entry"=some (some (.ref aEntry)))
  (z26:nsIn K mainGlobals "Listing"=some (some (.ref aListing)))
  (q26:nsIn K mainGlobals "Table"=some (some (.ref aTable)))
  (u27:nsIn K mainGlobals "Document"=some (some (.ref aDocument)))
  (q22:OwnX K aBadName)
  (q16:PIn K aPlain)
  (g35:findIn K (.ref aPlain) "signs"=some none)
  (u17:PIn K aCode)
  (z35:findIn K (.ref aCode) "signs"=some none)
  (g17:PIn K aStrong)
  (q35:findIn K (.ref aStrong) "parts"=some none)
  (z17:PIn K aLink)
  (u36:findIn K (.ref aLink) "words"=some none)
  (g36:findIn K (.ref aLink) "name"=some none)
  (q17:PIn K aMark)
  (z36:findIn K (.ref aMark) "name"=some none)
  (u18:PIn K aHeading)
  (q36:findIn K (.ref aHeading) "level"=some none)
  (u37:findIn K (.ref aHeading) "parts"=some none)
  (g18:PIn K aPara)
  (g37:findIn K (.ref aPara) "parts"=some none)
  (z18:PIn K aLiteral)
  (z37:findIn K (.ref aLiteral) "lines"=some none)
  (q18:PIn K aQuote)
  (q37:findIn K (.ref aQuote) "blocks"=some none)
  (u19:PIn K aNaming)
  (u38:findIn K (.ref aNaming) "name"=some none)
  (g38:findIn K (.ref aNaming) "target"=some none)
  (g19:PIn K aNoting)
  (z38:findIn K (.ref aNoting) "name"=some none)
  (q38:findIn K (.ref aNoting) "parts"=some none)
  (z19:PIn K aEntry)
  (u39:findIn K (.ref aEntry) "sign"=some none)
  (g39:findIn K (.ref aEntry) "parts"=some none)
  (z39:findIn K (.ref aEntry) "entries"=some none)
  (q19:PIn K aListing)
  (q39:findIn K (.ref aListing) "entries"=some none)
  (u20:PIn K aTable)
  (u40:findIn K (.ref aTable) "head"=some none)
  (g40:findIn K (.ref aTable) "sides"=some none)
  (z40:findIn K (.ref aTable) "lines"=some none)
  (g20:PIn K aDocument)
  (q40:findIn K (.ref aDocument) "blocks"=some none)
  (u41:kitOne K (.ref aPlain) (.ref aPlain)=some true)
  (g41:kitOne K (.ref aPlain) (.type "str")=some false)
  (z41:kitOne K (.ref aCode) (.ref aPlain)=some false)
  (q41:kitOne K (.ref aCode) (.type "str")=some false)
  (u42:kitOne K (.ref aStrong) (.ref aPlain)=some false)
  (g42:kitOne K (.ref aStrong) (.type "str")=some false)
  (z42:kitOne K (.ref aLink) (.ref aPlain)=some false)
  (q42:kitOne K (.ref aLink) (.type "str")=some false)
  (u43:kitOne K (.ref aMark) (.ref aPlain)=some false)
  (g43:kitOne K (.ref aMark) (.type "str")=some false)
  (z43:MIn K aDocument "__init__" "Document.__init__" fm)
  (q43:MIn K aDocument "told" "Document.told" fo)
  (u44:MIn K aPlain "__init__" "Plain.__init__" cF)
  (g44:MIn K aPlain "told" "Plain.told" cG)
  (z44:MIn K aCode "__init__" "Code.__init__" dm)
  (q44:MIn K aCode "told" "Code.told" dt)
  (u45:MIn K aStrong "__init__" "Strong.__init__" cg)
  (g45:MIn K aStrong "told" "Strong.told" ci)
  (z45:MIn K aLink "__init__" "Link.__init__" dq)
  (q45:MIn K aLink "told" "Link.told" dz)
  (u46:MIn K aMark "__init__" "Mark.__init__" dr)
  (g46:MIn K aMark "told" "Mark.told" dA)
  (z46:MIn K aHeading "__init__" "Heading.__init__" bP)
  (q46:MIn K aHeading "told" "Heading.told" bS)
  (u47:MIn K aPara "__init__" "Para.__init__" dH)
  (g47:MIn K aPara "told" "Para.told" dI)
  (z47:MIn K aLiteral "__init__" "Literal.__init__" bQ)
  (q47:MIn K aLiteral "told" "Literal.told" bT)
  (u48:MIn K aQuote "__init__" "Quote.__init__" cJ)
  (g48:MIn K aQuote "told" "Quote.told" cM)
  (z48:MIn K aNaming "__init__" "Naming.__init__" cm)
  (q48:MIn K aNaming "told" "Naming.told" cq)
  (u49:MIn K aNoting "__init__" "Noting.__init__" cn)
  (g49:MIn K aNoting "told" "Noting.told" cr)
  (z49:MIn K aEntry "__init__" "Entry.__init__" cK)
  (q49:MIn K aEntry "told" "Entry.told" cN)
  (u50:MIn K aListing "__init__" "Listing.__init__" bR)
  (g50:MIn K aListing "told" "Listing.told" bU)
  (z50:MIn K aTable "__init__" "Table.__init__" cL)
  (q50:MIn K aTable "told" "Table.told" cO)
  : ∃c:Addrs,ClsT K c:=⟨⟨aBadName,aPlain,aCode,aStrong,aLink,aMark,aHeading,aPara,aLiteral,aQuote,aNaming,aNoting,aEntry,aListing,aTable,aDocument⟩,⟨u14,g13,q23,u24,g24,z24,q24,u25,g25,z25,q25,u26,g26,z26,q26,u27,q22,q16,g35,u17,z35,g17,q35,z17,u36,g36,q17,z36,u18,q36,u37,g18,g37,z18,z37,q18,q37,u19,u38,g38,g19,z38,q38,z19,u39,g39,z39,q19,q39,u20,u40,g40,z40,g20,q40,u41,g41,z41,q41,u42,g42,z42,q42,u43,g43,z43,q43,u44,g44,z44,q44,u45,g45,z45,q45,u46,g46,z46,q46,u47,g47,z47,q47,u48,g48,z48,q48,u49,g49,z49,q49,u50,g50,z50,q50⟩⟩
structure Top (K:Frag):Prop where
 u51:FnIn K "told_parts" nc
 q52:FnIn K "is_parting_bar" sBar
 u53:FnIn K "words_of" ng
 g53:FnIn K "tidy" rZ
 z53:FnIn K "split_cells" nh
 q53:FnIn K "is_name" se
 u54:FnIn K "name_of" ke
 g54:FnIn K "rest_of_quote" si
 z54:FnIn K "heading_level" sk
 q54:FnIn K "is_cells" sIsC
 u55:FnIn K "definition_of" sDef
 g55:FnIn K "item_or_plain" so
 z55:FnIn K "sort_of" sr
 q55:FnIn K "is_rule" sw
 u56:FnIn K "takes_next" nA
 g56:FnIn K "freed" nE
 z56:FnIn K "closings_of" fY
 q56:FnIn K "code_at" kj
 u57:FnIn K "mark_at" kl
 g57:FnIn K "link_at" km
 z57:FnIn K "piece_at" iu
 q57:FnIn K "pieces_of" kn
 u58:FnIn K "merged" iv
 g58:FnIn K "with_strong" fj
 z58:FnIn K "parts_of" iw
 q58:FnIn K "own_cells" sOwn
 g51:FnIn K "told_entries" ks
 u59:FnIn K "told_cells" nP
 g59:FnIn K "is_empty" nV
 z59:FnIn K "sort_at" ku
 q59:FnIn K "further_words" iF
 z20:FnIn K "para_at" sO
 q20:FnIn K "note_at" sP
 u21:FnIn K "literal_at" sQ
 g21:FnIn K "quote_at" kA
 q15:FnIn K "blocks_of" jC
 q12:FnIn K "entries_from" sEnt
 u60:FnIn K "leveled" sLvl
 z21:FnIn K "list_at" oe
 g60:FnIn K "cells_of" iK
 q21:FnIn K "table_of" oh
 u22:FnIn K "table_at" kC
 u16:FnIn K "block_at" jE
 z60:FnIn K "need_text" oj
 q60:FnIn K "rows_of" kD
 u61:FnIn K "read" om
 f__law_cell_at:FnIn K "_law_cell_at" kF
 f__law_mixed:FnIn K "_law_mixed" oC
 f__law_row:FnIn K "_law_row" sS
 f__law_rows:FnIn K "_law_rows" lr
 f__law_is_blank:FnIn K "_law_is_blank" lu
 f__law_told:FnIn K "_law_told" oF
 f__law_lacks_fence:FnIn K "_law_lacks_fence" oG
 f__law_alone:FnIn K "_law_alone" lz
 g61:FnIn K "law" eT
 g10:nsIn K mainGlobals "list"=some none
 u10:nsIn K mainGlobals "len"=some none
 q10:nsIn K mainGlobals "isinstance"=some none
 z11:nsIn K mainGlobals "all"=some none
 u11:nsIn K mainGlobals "str"=some none
 u13:nsIn K mainGlobals "tuple"=some none
 q11:nsIn K mainGlobals "range"=some none
 z22:nsIn K mainGlobals "int"=some none
 u12:nsIn K mainGlobals "enumerate"=some none
 g22:nsIn K mainGlobals "bool"=some none
 z15:nsIn K mainGlobals "min"=some none
 z13:nsIn K mainGlobals "max"=some none
 g12:∃v,nsIn K mainGlobals "NAME_SIGNS"=some (some v)/\∃t,v = .str (S nameSigns) t
 g11:∃v,nsIn K mainGlobals "LONGEST_NAME"=some (some v)/\∃t,v = .int 12 t
 z12:∃v,nsIn K mainGlobals "FENCE"=some (some v)/\∃t,v = .str (S [126,126,126]) t
 g16:∃v,nsIn K mainGlobals "DEEPEST_HEADING"=some (some v)/\∃t,v = .int 3 t
 q13:∃v,nsIn K mainGlobals "NAME_END"=some (some v)/\∃t,v = .str (S [93,58,32]) t
 g14:∃v,nsIn K mainGlobals "TAKEN"=some (some v)/\∃t,v = .str (S takenC) t
 u15:∃v,nsIn K mainGlobals "MOST_QUOTES"=some (some v)/\∃t,v = .int 4 t
 g15:∃v,nsIn K mainGlobals "MOST_ENTRIES"=some (some v)/\∃t,v = .int 6 t
 cl:∃c:Addrs,ClsT K c
def all_law {P:Program}{w:World}{K:Frag}{h:Heap}{mg:Str->Option Value}{fa:Addr}(X:K.In h)(G:h.Ns mainGlobals mg)(hfa:mg "law"=some (.ref fa))(t:Top K):
  ∃fd:FuncData,(∀(s:Shared) (v:Value),BindsTo s fd ⟨[v],[]⟩ [("_law_script",v)])/\∀base:Heap,K.In base->base.Ns mainGlobals mg->FnOk P w K mg base CX0 47 fa fd ["_law_script"] (spLaw14 K):=by
 obtain⟨z,L⟩:=t.cl
 let cp:Cp:=⟨0,z.Plain,z.Code,z.Strong,z.Link,z.Mark⟩
 let c:Cb:=⟨cp,z.Heading,z.Para,z.Literal,z.Quote,z.Naming,z.Noting,z.Entry,z.Listing,z.Table⟩
 have g10:=mg_none_of X G t.g10;have u10:=mg_none_of X G t.u10;have q10:=mg_none_of X G t.q10;have z11:=mg_none_of X G t.z11;have u11:=mg_none_of X G t.u11;have u13:=mg_none_of X G t.u13;have q11:=mg_none_of X G t.q11;have z22:=mg_none_of X G t.z22;have u12:=mg_none_of X G t.u12;have g22:=mg_none_of X G t.g22;have z15:=mg_none_of X G t.z15;have z13:=mg_none_of X G t.z13;have g12:∃t,mg "NAME_SIGNS"=some (.str (S nameSigns) t):=by obtain⟨v,e,k,rfl⟩:=t.g12;exact⟨k,mg_of X G e⟩
 have g11:∃t,mg "LONGEST_NAME"=some (.int 12 t):=by obtain⟨v,e,k,rfl⟩:=t.g11;exact⟨k,mg_of X G e⟩
 have z12:∃t,mg "FENCE"=some (.str (S [126,126,126]) t):=by obtain⟨v,e,k,rfl⟩:=t.z12;exact⟨k,mg_of X G e⟩
 have g16:∃t,mg "DEEPEST_HEADING"=some (.int 3 t):=by obtain⟨v,e,k,rfl⟩:=t.g16;exact⟨k,mg_of X G e⟩
 have q13:∃t,mg "NAME_END"=some (.str (S [93,58,32]) t):=by obtain⟨v,e,k,rfl⟩:=t.q13;exact⟨k,mg_of X G e⟩
 have g14:∃t,mg "TAKEN"=some (.str (S takenC) t):=by obtain⟨v,e,k,rfl⟩:=t.g14;exact⟨k,mg_of X G e⟩
 have u15:∃t,mg "MOST_QUOTES"=some (.int 4 t):=by obtain⟨v,e,k,rfl⟩:=t.u15;exact⟨k,mg_of X G e⟩
 have g15:∃t,mg "MOST_ENTRIES"=some (.int 6 t):=by obtain⟨v,e,k,rfl⟩:=t.g15;exact⟨k,mg_of X G e⟩
 have u14:=mg_of X G L.u14;have g13:=mg_of X G L.g13;have q23:=mg_of X G L.q23;have u24:=mg_of X G L.u24;have g24:=mg_of X G L.g24;have z24:=mg_of X G L.z24;have q24:=mg_of X G L.q24;have u25:=mg_of X G L.u25;have g25:=mg_of X G L.g25;have z25:=mg_of X G L.z25;have q25:=mg_of X G L.q25;have u26:=mg_of X G L.u26;have g26:=mg_of X G L.g26;have z26:=mg_of X G L.z26;have q26:=mg_of X G L.q26;have u27:=mg_of X G L.u27;have T : TxP K mg cp z.BadName := {
  g10:=g10
  u10:=u10
  q10:=q10
  z11:=z11
  u11:=u11
  u13:=u13
  g12:=g12
  g11:=g11
  u14:=u14
  q22:=L.q22
  g13:=g13
  g27:=L.q16.inst
  z27:=L.u17.inst
  q27:=L.g17.inst
  z16:=L.z17.inst
  u28:=L.q17.inst
  g28:=L.g35
  z28:=L.z35
  q28:=L.q35
  u29:=L.u36
  g29:=L.g36
  z29:=L.z36
  z61:=L.u41
  q61:=L.z41
  u62:=L.u42
  g62:=L.z42
  z62:=L.u43
 }
 have TI:TxI K mg cp z.BadName:={ T with g14:=g14,z51:=L.g41,q51:=L.q41,u52:=L.g42,g52:=L.q42,z52:=L.g43 };have TB:TxB K mg c z.BadName:={ TI with z12:=z12,u12:=u12,u23:=L.u18.inst,q29:=L.g18.inst,u30:=L.z18.inst,g30:=L.q18.inst,g23:=L.u19.inst,z23:=L.g19.inst,z14:=L.z19.inst,z30:=L.q19.inst,q14:=L.u20.inst,q30:=L.q36,u31:=L.u37,g31:=L.g37,z31:=L.z37,q31:=L.q37,u32:=L.u38,g32:=L.g38,z32:=L.z38,q32:=L.q38,u33:=L.u39,g33:=L.g39,z33:=L.z39,q33:=L.q39,u34:=L.u40,g34:=L.g40,z34:=L.z40 };have TD:TxD K mg c z.BadName:={ TB with u15:=u15,g15:=g15,z15:=z15,z13:=z13 };have TF:TxF K mg c z.Document z.BadName:={ TD with q34:=L.g20.inst,u35:=L.q40 };have TX:Tx mg:=⟨u10,q11,q10,z11,u11,g22,u13,u12,z22,g10,g12,g11,z12,g16,q13⟩;obtain⟨f,oc,od,kV,dc,pm,an,cd,ct,sl,a,l,cc,kp⟩:=t.g61.ex;have e:=hfa.symm.trans (mg_of X G a);cases e;refine⟨fnOf "law" "law" (bv eT) (bf eT) (ad eT) .none kV dc pm an cd ct,λs v => .of_eq rfl,λbase _ _=>?_⟩;have DG:Def P w K mg base 1 "own_cells" ["cells"] spOwn:=ae X G t.q58 (λ_ _ _ _ _ _=>b1 λ_=>rfl) λf fd F=>uJ F TB;have DF:New P w K mg base 1 "Plain" cp.Plain p7 (spInit1 cp.Plain "signs"):=bK g13 L.q16.mkc L.q16.kc L.u44 (λ_ _ _ _ _ _=>b2 λ_ _=>rfl) λf fd F=>ji F T;have DO:New P w K mg base 1 "Code" cp.Code p7 (spInit1 cp.Code "signs"):=bK q23 L.u17.mkc L.u17.kc L.z44 (λ_ _ _ _ _ _=>b2 λ_ _=>rfl) λf fd F=>jZ F T;have DX:New P w K mg base 1 "Strong" cp.Strong p8 (spInitS cp.Strong):=bK u24 L.g17.mkc L.g17.kc L.u45 (λ_ _ _ _ _ _=>b2 λ_ _=>rfl) λf fd F=>ic F T;have DQ:New P w K mg base 1 "Link" cp.Link p13 (spInit2 cp.Link "words" "name"):=bK g24 L.z17.mkc L.z17.kc L.z45 (λ_ _ _ _ _ _=>b3 λ_ _ _=>rfl) λf fd F=>j7 F T;have DP:New P w K mg base 1 "Mark" cp.Mark p12 (spInit1 cp.Mark "name"):=bK z24 L.q17.mkc L.q17.kc L.u46 (λ_ _ _ _ _ _=>b2 λ_ _=>rfl) λf fd F=>j5 F T;have Du:New P w K mg base 1 "Heading" c.Heading p15 (spInitVL c.Heading "level" "parts"):=bK q24 L.u18.mkc L.u18.kc L.z46 (λ_ _ _ _ _ _=>b3 λ_ _ _=>rfl) λf fd F=>gq F TB;have Dm:New P w K mg base 1 "Para" c.Para p8 (spInitL c.Para "parts"):=bK u25 L.g18.mkc L.g18.kc L.u47 (λ_ _ _ _ _ _=>b2 λ_ _=>rfl) λf fd F=>ko F TB;have Dp:New P w K mg base 1 "Literal" c.Literal p11 (spInitL c.Literal "lines"):=bK g25 L.z18.mkc L.z18.kc L.z47 (λ_ _ _ _ _ _=>b2 λ_ _=>rfl) λf fd F=>gn F TB;have DB:New P w K mg base 1 "Quote" c.Quote p9 (spInitL c.Quote "blocks"):=bK z25 L.q18.mkc L.q18.kc L.u48 (λ_ _ _ _ _ _=>b2 λ_ _=>rfl) λf fd F=>jr F TB;have Dv:New P w K mg base 1 "Naming" c.Naming p17 (spInit2 c.Naming "name" "target"):=bK q25 L.u19.mkc L.u19.kc L.z48 (λ_ _ _ _ _ _=>b3 λ_ _ _=>rfl) λf fd F=>iz F TB;have Do:New P w K mg base 1 "Noting" c.Noting p16 (spInitVL c.Noting "name" "parts"):=bK u26 L.g19.mkc L.g19.kc L.u49 (λ_ _ _ _ _ _=>b3 λ_ _ _=>rfl) λf fd F=>iy F TB;have Dj:New P w K mg base 1 "Entry" c.Entry p18 (spInitE c.Entry):=bK g26 L.z19.mkc L.z19.kc L.z49 (λ_ _ _ _ _ _=>b4 λ_ _ _ _=>rfl) λf fd F=>js F TB;have Ds:New P w K mg base 1 "Listing" c.Listing p14 (spInitL c.Listing "entries"):=bK z26 L.q19.mkc L.q19.kc L.u50 (λ_ _ _ _ _ _=>b2 λ_ _=>rfl) λf fd F=>gp F TB;have Dl:New P w K mg base 2 "Table" c.Table p19 (spInitT c.Table):=bK q26 L.u20.mkc L.u20.kc L.z50 (λ_ _ _ _ _ _=>b4 λ_ _ _ _=>rfl) λf fd F=>jt F TB DG;have V_Plain:MethV P w K mg base 1 cp.Plain "told" ["self"] (spTold cp λp=>∃s,p = .one (.plain s)):=bd L.q16.cls L.g44 (λ_ _ _ _ _ _=>b1 λ_=>rfl) λf fd F=>jj F T;have V_Code:MethV P w K mg base 1 cp.Code "told" ["self"] (spTold cp λp=>∃s,p = .one (.code s)):=bd L.u17.cls L.q44 (λ_ _ _ _ _ _=>b1 λ_=>rfl) λf fd F=>ka F T;have V_Mark:MethV P w K mg base 1 cp.Mark "told" ["self"] (spTold cp λp=>∃s,p = .one (.note s)):=bd L.q17.cls L.g46 (λ_ _ _ _ _ _=>b1 λ_=>rfl) λf fd F=>kb F T;have V_Link:MethV P w K mg base 1 cp.Link "told" ["self"] (spTold cp λp=>∃s n,p = .one (.link s n)):=bd L.z17.cls L.q45 (λ_ _ _ _ _ _=>b1 λ_=>rfl) λf fd F=>kd F T;have W1:∀{k:Nat},1<=k->∀(p:P1) H a,PCAt cp H a (.one p)->∃C dx fs sp,H a=some (.ins C dx fs)/\fs.lookup ("told":Str)=none/\MethV P w K mg base k C "told" ["self"] sp/\∀Q E,(∀v H',Same H H'->Dn (dif H H') v (dP (.one p))->Q v H')->sp [.ref a] H Q E:=λ{k} hk p H a h=>by
  cases p with
  |plain s=>
   obtain⟨_,dx,e⟩:=id h;exact⟨_,dx,_,_,e,rfl,V_Plain.mono hk,λQ E g=>⟨a,_,rfl,h,⟨s,rfl⟩,g⟩⟩
  |code s=>
   obtain⟨_,dx,e⟩:=id h;exact⟨_,dx,_,_,e,rfl,V_Code.mono hk,λQ E g=>⟨a,_,rfl,h,⟨s,rfl⟩,g⟩⟩
  |link s n=>
   obtain⟨_,_,dx,e⟩:=id h;exact⟨_,dx,_,_,e,rfl,V_Link.mono hk,λQ E g=>⟨a,_,rfl,h,⟨s,n,rfl⟩,g⟩⟩
  |note s=>
   obtain⟨_,dx,e⟩:=id h;exact⟨_,dx,_,_,e,rfl,V_Mark.mono hk,λQ E g=>⟨a,_,rfl,h,⟨s,rfl⟩,g⟩⟩
 have M1:rW P w K mg base 1 cp R1:=λp hp H a h=>by
  cases p with
  |one p=>exact W1 (l5 1) p H a h
  |strong ps=>exact absurd hp (by unfold R1;simp[one?])
 have Ys:Def P w K mg base 2 "told_parts" ["parts"] (spTolds cp R1):=ae X G t.u51 (λ_ _ _ _ _ _=>b1 λ_=>rfl) λf fd F=>k0 F M1;have V_Strong:MethV P w K mg base 3 cp.Strong "told" ["self"] (spTold cp λp=>∃ps,p = .strong ps/\ps.length<=100000):=bd L.g17.cls L.g45 (λ_ _ _ _ _ _=>b1 λ_=>rfl) λf fd F=>ie F T Ys;have M2:rW P w K mg base 3 cp R2:=λp hp H a h=>by
  cases p with
  |one p=>exact W1 ∅ p H a h
  |strong ps=>
   obtain⟨dx,l,as,e,_⟩:=id h;exact⟨_,dx,_,_,e,rfl,V_Strong,λQ E g=>⟨a,_,rfl,h,⟨ps,rfl,hp⟩,g⟩⟩
 have Dc:Def P w K mg base 4 "told_parts" ["parts"] (spTolds cp R2):=ae X G t.u51 (λ_ _ _ _ _ _=>b1 λ_=>rfl) λf fd F=>k0 F M2;have Dy:Def P w K mg base 1 "is_parting_bar" p4 spBar:=ae X G t.q52 (λ_ _ _ _ _ _=>b2 λ_ _=>rfl) λf fd F=>ux F;have Dx:Def P w K mg base 1 "words_of" ["text"] spWords:=ae X G t.u53 (λ_ _ _ _ _ _=>b1 λ_=>rfl) λf fd F=>pD F;have De:Def P w K mg base 2 "tidy" ["text"] spTidy:=ae X G t.g53 (λ_ _ _ _ _ _=>b1 λ_=>rfl) λf fd F=>r9 F Dx;have DL:Def P w K mg base 3 "split_cells" ["text"] Lw.spCells:=ae X G t.z53 (λ_ _ _ _ _ _=>b1 λ_=>rfl) λf fd F=>pE F TX Dy De;have Df:Def P w K mg base 1 "is_name" ["thing"] spName:=ae X G t.q53 (λ_ _ _ _ _ _=>b1 λ_=>rfl) λf fd F=>sh F TX;have Dh:Def P w K mg base 2 "name_of" ["thing"] spNameOf:=ae X G t.u54 (λ_ _ _ _ _ _=>b1 λ_=>rfl) λf fd F=>ni F TX Df;have DI:Def P w K mg base 1 "rest_of_quote" ["row"] spRest:=ae X G t.g54 (λ_ _ _ _ _ _=>b1 λ_=>rfl) λf fd F=>sj F;have DJ:Def P w K mg base 1 "heading_level" ["bare"] spHead:=ae X G t.z54 (λ_ _ _ _ _ _=>b1 λ_=>rfl) λf fd F=>sn F TX;have DK:Def P w K mg base 2 "is_cells" ["bare"] spIsC:=ae X G t.q54 (λ_ _ _ _ _ _=>b1 λ_=>rfl) λf fd F=>uy F TX Dy;have DM:Def P w K mg base 3 "definition_of" ["bare"] (spDef K):=ae X G t.u55 (λ_ _ _ _ _ _=>b1 λ_=>rfl) λf fd F=>uz F TX Dx Df Dh;have DN:Def P w K mg base 3 "item_or_plain" ["bare"] (spItem K):=ae X G t.g55 (λ_ _ _ _ _ _=>b1 λ_=>rfl) λf fd F=>sq F TX De;have Dg:Def P w K mg base 4 "sort_of" ["row"] (spSort K):=ae X G t.z55 (λ_ _ _ _ _ _=>b1 λ_=>rfl) λf fd F=>ss F TX De DI DJ DK DL DM DN;have Dt:Def P w K mg base 1 "is_rule" ["text"] spRule:=ae X G t.q55 (λ_ _ _ _ _ _=>b1 λ_=>rfl) λf fd F=>sx F;have DH:Def P w K mg base 5 "told_cells" ["cells"] (spTC c):=ae X G t.u59 (λ_ _ _ _ _ _=>b1 λ_=>rfl) λf fd F=>pP F Dc;have I_te:∀n:Nat,Def P w K mg base (2+6 * n) "told_entries" ["entries"] (spTEs c n):=λn=>by
  induction n with
  |zero=>exact ae X G t.g51 (λ_ _ _ _ _ _=>b1 λ_=>rfl) λf fd F=>ju F (k:=1) (λz=>nomatch z)
  |succ n ih=>
   have V:=bd (P:=P) (w:=w) (mg:=mg) (base:=base) L.z19.cls L.q49 (λ_ _ _ _ _ _=>b1 λ_=>rfl) λf fd F=>jv F TB Dc ih;have M:MV P w K mg base (2+6 * n+5) "told" (EAt c (n+1)) (OkE (n+1)) (tellsB (dE (n+1))):=λb hb H a h=>by
    obtain⟨dx,l,m,e,_⟩:=id h;exact⟨_,dx,_,_,e,rfl,V,λQ E g=>⟨a,b,rfl,h,hb,λv H' s d=>g v H' ⟨s,d⟩⟩⟩
   exact ae X G t.g51 (λ_ _ _ _ _ _=>b1 λ_=>rfl) λf fd F=>ju F M
 have TS:∀{β:Type} (R:Hp->Addr->β->Prop) (fB:β->PyData) (ok:β->Prop) (k:Nat),MoR R->39<=k->MV P w K mg base k "told" R ok (tellsB fB)->MV P w K mg base (k+1) "told" (BAtF c R) (OkBF ok) (tellsB (dBF fB)):=λ{β} R fB ok k mR hk hM b hb H a h=>by
  cases b with
  |heading n ps=>
   obtain⟨dx,l,e,_⟩:=id h;exact⟨_,dx,_,_,e,rfl,(bd (P:=P) (w:=w) (mg:=mg) (base:=base) L.u18.cls L.q46 (λ_ _ _ _ _ _=>b1 λ_=>rfl) λf fd F=>gr (R:=R) (fB:=fB) (ok:=ok) F TB Dc).mono nofun,λQ E g=>⟨a,_,rfl,h,⟨n,ps,rfl⟩,hb,λv H' s d=>g v H' ⟨s,d⟩⟩⟩
  |para ps=>
   obtain⟨dx,l,e,_⟩:=id h;exact⟨_,dx,_,_,e,rfl,(bd (P:=P) (w:=w) (mg:=mg) (base:=base) L.g18.cls L.g47 (λ_ _ _ _ _ _=>b1 λ_=>rfl) λf fd F=>kr (R:=R) (fB:=fB) (ok:=ok) F TB Dc).mono nofun,λQ E g=>⟨a,_,rfl,h,⟨ps,rfl⟩,hb,λv H' s d=>g v H' ⟨s,d⟩⟩⟩
  |lst es=>
   obtain⟨dx,l,e,_⟩:=id h;exact⟨_,dx,_,_,e,rfl,(bd (P:=P) (w:=w) (mg:=mg) (base:=base) L.q19.cls L.g50 (λ_ _ _ _ _ _=>b1 λ_=>rfl) λf fd F=>gu (R:=R) (fB:=fB) (ok:=ok) F TB (I_te 6)).mono nofun,λQ E g=>⟨a,_,rfl,h,⟨es,rfl⟩,hb,λv H' s d=>g v H' ⟨s,d⟩⟩⟩
  |table hd sd ls=>
   obtain⟨dx,l1,l2,l3,e,_⟩:=id h;exact⟨_,dx,_,_,e,rfl,(bd (P:=P) (w:=w) (mg:=mg) (base:=base) L.u20.cls L.q50 (λ_ _ _ _ _ _=>b1 λ_=>rfl) λf fd F=>jx (R:=R) (fB:=fB) (ok:=ok) F TB DH).mono nofun,λQ E g=>⟨a,_,rfl,h,⟨hd,sd,ls,rfl⟩,hb,λv H' s d=>g v H' ⟨s,d⟩⟩⟩
  |lit ls=>
   obtain⟨dx,l,e,_⟩:=id h;exact⟨_,dx,_,_,e,rfl,(bd (P:=P) (w:=w) (mg:=mg) (base:=base) L.z18.cls L.q47 (λ_ _ _ _ _ _=>b1 λ_=>rfl) λf fd F=>gt (R:=R) (fB:=fB) (ok:=ok) F TB).mono nofun,λQ E g=>⟨a,_,rfl,h,⟨ls,rfl⟩,hb,λv H' s d=>g v H' ⟨s,d⟩⟩⟩
  |quote bs=>
   obtain⟨dx,l,e,_⟩:=id h;exact⟨_,dx,_,_,e,rfl,(bd (P:=P) (w:=w) (mg:=mg) (base:=base) L.q18.cls L.g48 (λ_ _ _ _ _ _=>b1 λ_=>rfl) λf fd F=>jw F TB hM mR).mono nofun,λQ E g=>⟨a,_,rfl,h,⟨bs,rfl⟩,hb,λv H' s d=>g v H' ⟨s,d⟩⟩⟩
  |name n t=>
   obtain⟨dx,e⟩:=id h;exact⟨_,dx,_,_,e,rfl,(bd (P:=P) (w:=w) (mg:=mg) (base:=base) L.u19.cls L.q48 (λ_ _ _ _ _ _=>b1 λ_=>rfl) λf fd F=>iB (R:=R) (fB:=fB) (ok:=ok) F TB).mono nofun,λQ E g=>⟨a,_,rfl,h,⟨n,t,rfl⟩,hb,λv H' s d=>g v H' ⟨s,d⟩⟩⟩
  |note n ps=>
   obtain⟨dx,l,e,_⟩:=id h;exact⟨_,dx,_,_,e,rfl,(bd (P:=P) (w:=w) (mg:=mg) (base:=base) L.g19.cls L.g49 (λ_ _ _ _ _ _=>b1 λ_=>rfl) λf fd F=>iA (R:=R) (fB:=fB) (ok:=ok) F TB Dc).mono nofun,λQ E g=>⟨a,_,rfl,h,⟨n,ps,rfl⟩,hb,λv H' s d=>g v H' ⟨s,d⟩⟩⟩
 have MT:∀n:Nat,MV P w K mg base (40+n) "told" (BAt c n) (OkB n) (tellsB (dB n)):=λn=>by
  induction n with
  |zero=>exact TS (λ_ _ (z:Empty)=>nomatch z) (λz=>nomatch z) (λz=>nomatch z) 39 (λ_ _ _ z=>nomatch z) ∅ (λz=>nomatch z)
  |succ n ih=>exact TS (BAt c n) (dB n) (OkB n) (40+n) (ay n) nofun ih
 have Di:Def P w K mg base 1 "takes_next" p4 spTakes:=ae X G t.u56 (λ_ _ _ _ _ _=>b2 λ_ _=>rfl) λf fd F=>pJ F TI;have DR:Def P w K mg base 2 "freed" ["text"] spFreed:=ae X G t.g56 (λ_ _ _ _ _ _=>b1 λ_=>rfl) λf fd F=>pM F TI Di;have DV:Def P w K mg base 2 "closings_of" ["text"] spClosings:=ae X G t.z56 (λ_ _ _ _ _ _=>b1 λ_=>rfl) λf fd F=>ki F TI Di;have DS:Def P w K mg base 3 "code_at" p4 (spCodeAt cp):=ae X G t.q56 (λ_ _ _ _ _ _=>b2 λ_ _=>rfl) λf fd F=>nF F TI DO;have DT:Def P w K mg base 3 "mark_at" p4 (spMarkAt cp):=ae X G t.u57 (λ_ _ _ _ _ _=>b2 λ_ _=>rfl) λf fd F=>nG F TI DP Df Dh;have DU:Def P w K mg base 3 "link_at" p24 (spLinkAt cp):=ae X G t.g57 (λ_ _ _ _ _ _=>b3 λ_ _ _=>rfl) λf fd F=>nH F TI DQ DR Df Dh;have DW:Def P w K mg base 4 "piece_at" p25 (spPieceAt cp):=ae X G t.z57 (λ_ _ _ _ _ _=>b3 λ_ _ _=>rfl) λf fd F=>lT F TI Di DS DT DU;have DY:Def P w K mg base 5 "pieces_of" ["text"] (spPieces cp):=ae X G t.q57 (λ_ _ _ _ _ _=>b1 λ_=>rfl) λf fd F=>nI F TI DV DW;have Dz:Def P w K mg base 3 "merged" ["pieces"] (spMerged cp):=ae X G t.u58 (λ_ _ _ _ _ _=>b1 λ_=>rfl) λf fd F=>nJ F TI DF;have DZ:Def P w K mg base 4 "with_strong" ["pieces"] (spStrongs cp):=ae X G t.g58 (λ_ _ _ _ _ _=>b1 λ_=>rfl) λf fd F=>lU F TI DX Dz;have Db:Def P w K mg base 6 "parts_of" ["text"] (spPartsOf cp):=ae X G t.z58 (λ_ _ _ _ _ _=>b1 λ_=>rfl) λf fd F=>lV F TI DY DZ Dz;have Dq:Def P w K mg base 5 "is_empty" ["row"] spEmpty:=ae X G t.g59 (λ_ _ _ _ _ _=>b1 λ_=>rfl) λf fd F=>pR F Dg;have Da:Def P w K mg base 5 "sort_at" p0 (spSortAt K):=ae X G t.z59 (λ_ _ _ _ _ _=>b3 λ_ _ _=>rfl) λf fd F=>nY F TD Dg De;have Dd:Def P w K mg base 6 "further_words" p0 spFurther:=ae X G t.q59 (λ_ _ _ _ _ _=>b3 λ_ _ _=>rfl) λf fd F=>md F TD Da;have Dk:Def P w K mg base 7 "cells_of" p26 (spCellsOf c):=ae X G t.g60 (λ_ _ _ _ _ _=>b2 λ_ _=>rfl) λf fd F=>me F TD Db;have Yt:Def P w K mg base 6 "entries_from" p6 spNo:=ae X G t.q12 (λ_ _ _ _ _ _=>b3 λ_ _ _=>rfl) λf fd F=>uT;have E0:Def P w K mg base 7 "entries_from" p6 (spEnt c 0):=ae X G t.q12 (λ_ _ _ _ _ _=>b3 λ_ _ _=>rfl) λf fd F=>ge (k:=6) (n:=0) ∅ ∅ (λj e=>nomatch e) F TD Yt Db Dj;have E1:Def P w K mg base 8 "entries_from" p6 (spEnt c 1):=ae X G t.q12 (λ_ _ _ _ _ _=>b3 λ_ _ _=>rfl) λf fd F=>ge (k:=7) (n:=1) ∅ ∅ (λj e _ _ _ _ h=>by cases e;exact h) F TD E0 Db Dj;have E2:Def P w K mg base 9 "entries_from" p6 (spEnt c 2):=ae X G t.q12 (λ_ _ _ _ _ _=>b3 λ_ _ _=>rfl) λf fd F=>ge (k:=8) (n:=2) ∅ ∅ (λj e _ _ _ _ h=>by cases e;exact h) F TD E1 Db Dj;have E3:Def P w K mg base 10 "entries_from" p6 (spEnt c 3):=ae X G t.q12 (λ_ _ _ _ _ _=>b3 λ_ _ _=>rfl) λf fd F=>ge (k:=9) (n:=3) ∅ ∅ (λj e _ _ _ _ h=>by cases e;exact h) F TD E2 Db Dj;have E4:Def P w K mg base 11 "entries_from" p6 (spEnt c 4):=ae X G t.q12 (λ_ _ _ _ _ _=>b3 λ_ _ _=>rfl) λf fd F=>ge (k:=10) (n:=4) ∅ ∅ (λj e _ _ _ _ h=>by cases e;exact h) F TD E3 Db Dj;have E5:Def P w K mg base 12 "entries_from" p6 (spEnt c 5):=ae X G t.q12 (λ_ _ _ _ _ _=>b3 λ_ _ _=>rfl) λf fd F=>ge (k:=11) (n:=5) ∅ ∅ (λj e _ _ _ _ h=>by cases e;exact h) F TD E4 Db Dj;have E6:Def P w K mg base 13 "entries_from" p6 (spEnt c 6):=ae X G t.q12 (λ_ _ _ _ _ _=>b3 λ_ _ _=>rfl) λf fd F=>ge (k:=12) (n:=6) ∅ ∅ (λj e _ _ _ _ h=>by cases e;exact h) F TD E5 Db Dj;have Dr:Def P w K mg base 1 "leveled" ["items"] spLvl:=ae X G t.u60 (λ_ _ _ _ _ _=>b1 λ_=>rfl) λf fd F=>uL F TD;have N0:Def P w K mg base 7 "note_at" p0 (spNote c RE):=ae X G t.q20 (λ_ _ _ _ _ _=>b3 λ_ _ _=>rfl) λf fd F=>gb kI F TD Da Dd Db Do;have Li0:Def P w K mg base 5 "literal_at" p10 (spLitA c RE):=ae X G t.u21 (λ_ _ _ _ _ _=>b2 λ_ _=>rfl) λf fd F=>gc kI F TD Dg Dp;have To0:Def P w K mg base 8 "table_of" ["lines"] (spTblOf c RE):=ae X G t.q21 (λ_ _ _ _ _ _=>b1 λ_=>rfl) λf fd F=>dR F TD Dt Dk Dl;have Ta0:Def P w K mg base 9 "table_at" p0 (spTableA c RE):=ae X G t.u22 (λ_ _ _ _ _ _=>b3 λ_ _ _=>rfl) λf fd F=>cz kI F TD Da To0;have Ls0:Def P w K mg base 14 "list_at" p0 (spListA c RE):=ae X G t.z21 (λ_ _ _ _ _ _=>b3 λ_ _ _=>rfl) λf fd F=>dQ (k:=13) ∅ kI F TD Da Dd Dr E6 Ds;have Pa0:Def P w K mg base 7 "para_at" p0 (spPara c RE):=ae X G t.z20 (λ_ _ _ _ _ _=>b3 λ_ _ _=>rfl) λf fd F=>ga kI F TD Da Db Dm;have Q0:Def P w K mg base 20 "quote_at" p0 spNo:=ae X G t.g21 (λ_ _ _ _ _ _=>b3 λ_ _ _=>rfl) λf fd F=>uT;have LB0:∀f fd,Fun K "block_at" "block_at" jE f fd->FnOk P w K mg base CX0 21 f fd p0 (spBlock c RE (rd 0) 4):=λf fd F=>gg (k:=20) (d:=4) (inn:=λ_=>([]:List Empty)) ∅ kI F TD Da Db Du Dv N0 Li0 Q0 (λh=>absurd h ∅) Ta0 (eU Ls0) Pa0;have Bk0:Def P w K mg base 21 "block_at" p0 (spBlock c RE (rd 0) 4):=ae X G t.u16 (λ_ _ _ _ _ _=>b3 λ_ _ _=>rfl) λf fd F=>LB0 f fd F;have LS0:∀f fd,Fun K "blocks_of" "blocks_of" jC f fd->FnOk P w K mg base CX0 22 f fd p5 (spBlks (BAt c 0) (rd 0) 4):=λf fd F=>gd (k:=21) (d:=4) (rdb:=rd 0) ∅ kI (λ_ _ h=>gP (n:=0) h) F TD Dq Bk0;have Bs0:Def P w K mg base 22 "blocks_of" p5 (spBlks (BAt c 0) (rd 0) 4):=ae X G t.q15 (λ_ _ _ _ _ _=>b2 λ_ _=>rfl) λf fd F=>LS0 f fd F;have N1:Def P w K mg base 7 "note_at" p0 (spNote c (BAt c 0)):=ae X G t.q20 (λ_ _ _ _ _ _=>b3 λ_ _ _=>rfl) λf fd F=>gb (ay 0) F TD Da Dd Db Do;have Li1:Def P w K mg base 5 "literal_at" p10 (spLitA c (BAt c 0)):=ae X G t.u21 (λ_ _ _ _ _ _=>b2 λ_ _=>rfl) λf fd F=>gc (ay 0) F TD Dg Dp;have To1:Def P w K mg base 8 "table_of" ["lines"] (spTblOf c (BAt c 0)):=ae X G t.q21 (λ_ _ _ _ _ _=>b1 λ_=>rfl) λf fd F=>dR F TD Dt Dk Dl;have Ta1:Def P w K mg base 9 "table_at" p0 (spTableA c (BAt c 0)):=ae X G t.u22 (λ_ _ _ _ _ _=>b3 λ_ _ _=>rfl) λf fd F=>cz (ay 0) F TD Da To1;have Ls1:Def P w K mg base 14 "list_at" p0 (spListA c (BAt c 0)):=ae X G t.z21 (λ_ _ _ _ _ _=>b3 λ_ _ _=>rfl) λf fd F=>dQ (k:=13) ∅ (ay 0) F TD Da Dd Dr E6 Ds;have Pa1:Def P w K mg base 7 "para_at" p0 (spPara c (BAt c 0)):=ae X G t.z20 (λ_ _ _ _ _ _=>b3 λ_ _ _=>rfl) λf fd F=>ga (ay 0) F TD Da Db Dm;have Q1:Def P w K mg base 23 "quote_at" p0 (dN c (BAt c 0) (rd 0) 3):=ae X G t.g21 (λ_ _ _ _ _ _=>b3 λ_ _ _=>rfl) λf fd F=>dO (k:=22) (d:=3) ∅ (ay 0) F TD Da Bs0 DB;have LB1:∀f fd,Fun K "block_at" "block_at" jE f fd->FnOk P w K mg base CX0 24 f fd p0 (spBlock c (BAt c 0) (rd 1) 3):=λf fd F=>gg (k:=23) (d:=3) (inn:=λxs=>(blkR (rd 0) xs.length 0 xs).map λx:Bl 0×Nat×Nat=>x.1) ∅ (ay 0) F TD Da Db Du Dv N1 Li1 Q1 (λ_ _ _ _ _ h=>h) Ta1 (eU Ls1) Pa1;have Bk1:Def P w K mg base 24 "block_at" p0 (spBlock c (BAt c 0) (rd 1) 3):=ae X G t.u16 (λ_ _ _ _ _ _=>b3 λ_ _ _=>rfl) λf fd F=>LB1 f fd F;have LS1:∀f fd,Fun K "blocks_of" "blocks_of" jC f fd->FnOk P w K mg base CX0 25 f fd p5 (spBlks (BAt c 1) (rd 1) 3):=λf fd F=>gd (k:=24) (d:=3) (rdb:=rd 1) ∅ (ay 0) (λ_ _ h=>gP (n:=1) h) F TD Dq Bk1;have Bs1:Def P w K mg base 25 "blocks_of" p5 (spBlks (BAt c 1) (rd 1) 3):=ae X G t.q15 (λ_ _ _ _ _ _=>b2 λ_ _=>rfl) λf fd F=>LS1 f fd F;have N2:Def P w K mg base 7 "note_at" p0 (spNote c (BAt c 1)):=ae X G t.q20 (λ_ _ _ _ _ _=>b3 λ_ _ _=>rfl) λf fd F=>gb (ay 1) F TD Da Dd Db Do;have Li2:Def P w K mg base 5 "literal_at" p10 (spLitA c (BAt c 1)):=ae X G t.u21 (λ_ _ _ _ _ _=>b2 λ_ _=>rfl) λf fd F=>gc (ay 1) F TD Dg Dp;have To2:Def P w K mg base 8 "table_of" ["lines"] (spTblOf c (BAt c 1)):=ae X G t.q21 (λ_ _ _ _ _ _=>b1 λ_=>rfl) λf fd F=>dR F TD Dt Dk Dl;have Ta2:Def P w K mg base 9 "table_at" p0 (spTableA c (BAt c 1)):=ae X G t.u22 (λ_ _ _ _ _ _=>b3 λ_ _ _=>rfl) λf fd F=>cz (ay 1) F TD Da To2;have Ls2:Def P w K mg base 14 "list_at" p0 (spListA c (BAt c 1)):=ae X G t.z21 (λ_ _ _ _ _ _=>b3 λ_ _ _=>rfl) λf fd F=>dQ (k:=13) ∅ (ay 1) F TD Da Dd Dr E6 Ds;have Pa2:Def P w K mg base 7 "para_at" p0 (spPara c (BAt c 1)):=ae X G t.z20 (λ_ _ _ _ _ _=>b3 λ_ _ _=>rfl) λf fd F=>ga (ay 1) F TD Da Db Dm;have Q2:Def P w K mg base 26 "quote_at" p0 (dN c (BAt c 1) (rd 1) 2):=ae X G t.g21 (λ_ _ _ _ _ _=>b3 λ_ _ _=>rfl) λf fd F=>dO (k:=25) (d:=2) ∅ (ay 1) F TD Da Bs1 DB;have LB2:∀f fd,Fun K "block_at" "block_at" jE f fd->FnOk P w K mg base CX0 27 f fd p0 (spBlock c (BAt c 1) (rd 2) 2):=λf fd F=>gg (k:=26) (d:=2) (inn:=λxs=>(blkR (rd 1) xs.length 0 xs).map λx:Bl 1×Nat×Nat=>x.1) ∅ (ay 1) F TD Da Db Du Dv N2 Li2 Q2 (λ_ _ _ _ _ h=>h) Ta2 (eU Ls2) Pa2;have Bk2:Def P w K mg base 27 "block_at" p0 (spBlock c (BAt c 1) (rd 2) 2):=ae X G t.u16 (λ_ _ _ _ _ _=>b3 λ_ _ _=>rfl) λf fd F=>LB2 f fd F;have LS2:∀f fd,Fun K "blocks_of" "blocks_of" jC f fd->FnOk P w K mg base CX0 28 f fd p5 (spBlks (BAt c 2) (rd 2) 2):=λf fd F=>gd (k:=27) (d:=2) (rdb:=rd 2) ∅ (ay 1) (λ_ _ h=>gP (n:=2) h) F TD Dq Bk2;have Bs2:Def P w K mg base 28 "blocks_of" p5 (spBlks (BAt c 2) (rd 2) 2):=ae X G t.q15 (λ_ _ _ _ _ _=>b2 λ_ _=>rfl) λf fd F=>LS2 f fd F;have N3:Def P w K mg base 7 "note_at" p0 (spNote c (BAt c 2)):=ae X G t.q20 (λ_ _ _ _ _ _=>b3 λ_ _ _=>rfl) λf fd F=>gb (ay 2) F TD Da Dd Db Do;have Li3:Def P w K mg base 5 "literal_at" p10 (spLitA c (BAt c 2)):=ae X G t.u21 (λ_ _ _ _ _ _=>b2 λ_ _=>rfl) λf fd F=>gc (ay 2) F TD Dg Dp;have To3:Def P w K mg base 8 "table_of" ["lines"] (spTblOf c (BAt c 2)):=ae X G t.q21 (λ_ _ _ _ _ _=>b1 λ_=>rfl) λf fd F=>dR F TD Dt Dk Dl;have Ta3:Def P w K mg base 9 "table_at" p0 (spTableA c (BAt c 2)):=ae X G t.u22 (λ_ _ _ _ _ _=>b3 λ_ _ _=>rfl) λf fd F=>cz (ay 2) F TD Da To3;have Ls3:Def P w K mg base 14 "list_at" p0 (spListA c (BAt c 2)):=ae X G t.z21 (λ_ _ _ _ _ _=>b3 λ_ _ _=>rfl) λf fd F=>dQ (k:=13) ∅ (ay 2) F TD Da Dd Dr E6 Ds;have Pa3:Def P w K mg base 7 "para_at" p0 (spPara c (BAt c 2)):=ae X G t.z20 (λ_ _ _ _ _ _=>b3 λ_ _ _=>rfl) λf fd F=>ga (ay 2) F TD Da Db Dm;have Q3:Def P w K mg base 29 "quote_at" p0 (dN c (BAt c 2) (rd 2) 1):=ae X G t.g21 (λ_ _ _ _ _ _=>b3 λ_ _ _=>rfl) λf fd F=>dO (k:=28) (d:=1) ∅ (ay 2) F TD Da Bs2 DB;have LB3:∀f fd,Fun K "block_at" "block_at" jE f fd->FnOk P w K mg base CX0 30 f fd p0 (spBlock c (BAt c 2) (rd 3) 1):=λf fd F=>gg (k:=29) (d:=1) (inn:=λxs=>(blkR (rd 2) xs.length 0 xs).map λx:Bl 2×Nat×Nat=>x.1) ∅ (ay 2) F TD Da Db Du Dv N3 Li3 Q3 (λ_ _ _ _ _ h=>h) Ta3 (eU Ls3) Pa3;have Bk3:Def P w K mg base 30 "block_at" p0 (spBlock c (BAt c 2) (rd 3) 1):=ae X G t.u16 (λ_ _ _ _ _ _=>b3 λ_ _ _=>rfl) λf fd F=>LB3 f fd F;have LS3:∀f fd,Fun K "blocks_of" "blocks_of" jC f fd->FnOk P w K mg base CX0 31 f fd p5 (spBlks (BAt c 3) (rd 3) 1):=λf fd F=>gd (k:=30) (d:=1) (rdb:=rd 3) ∅ (ay 2) (λ_ _ h=>gP (n:=3) h) F TD Dq Bk3;have Bs3:Def P w K mg base 31 "blocks_of" p5 (spBlks (BAt c 3) (rd 3) 1):=ae X G t.q15 (λ_ _ _ _ _ _=>b2 λ_ _=>rfl) λf fd F=>LS3 f fd F;have N4:Def P w K mg base 7 "note_at" p0 (spNote c (BAt c 3)):=ae X G t.q20 (λ_ _ _ _ _ _=>b3 λ_ _ _=>rfl) λf fd F=>gb (ay 3) F TD Da Dd Db Do;have Li4:Def P w K mg base 5 "literal_at" p10 (spLitA c (BAt c 3)):=ae X G t.u21 (λ_ _ _ _ _ _=>b2 λ_ _=>rfl) λf fd F=>gc (ay 3) F TD Dg Dp;have To4:Def P w K mg base 8 "table_of" ["lines"] (spTblOf c (BAt c 3)):=ae X G t.q21 (λ_ _ _ _ _ _=>b1 λ_=>rfl) λf fd F=>dR F TD Dt Dk Dl;have Ta4:Def P w K mg base 9 "table_at" p0 (spTableA c (BAt c 3)):=ae X G t.u22 (λ_ _ _ _ _ _=>b3 λ_ _ _=>rfl) λf fd F=>cz (ay 3) F TD Da To4;have Ls4:Def P w K mg base 14 "list_at" p0 (spListA c (BAt c 3)):=ae X G t.z21 (λ_ _ _ _ _ _=>b3 λ_ _ _=>rfl) λf fd F=>dQ (k:=13) ∅ (ay 3) F TD Da Dd Dr E6 Ds;have Pa4:Def P w K mg base 7 "para_at" p0 (spPara c (BAt c 3)):=ae X G t.z20 (λ_ _ _ _ _ _=>b3 λ_ _ _=>rfl) λf fd F=>ga (ay 3) F TD Da Db Dm;have Q4:Def P w K mg base 32 "quote_at" p0 (dN c (BAt c 3) (rd 3) 0):=ae X G t.g21 (λ_ _ _ _ _ _=>b3 λ_ _ _=>rfl) λf fd F=>dO (k:=31) (d:=0) ∅ (ay 3) F TD Da Bs3 DB;have LB4:∀f fd,Fun K "block_at" "block_at" jE f fd->FnOk P w K mg base CX0 33 f fd p0 (spBlock c (BAt c 3) (rd 4) 0):=λf fd F=>gg (k:=32) (d:=0) (inn:=λxs=>(blkR (rd 3) xs.length 0 xs).map λx:Bl 3×Nat×Nat=>x.1) ∅ (ay 3) F TD Da Db Du Dv N4 Li4 Q4 (λ_ _ _ _ _ h=>h) Ta4 (eU Ls4) Pa4;have Bk4:Def P w K mg base 33 "block_at" p0 (spBlock c (BAt c 3) (rd 4) 0):=ae X G t.u16 (λ_ _ _ _ _ _=>b3 λ_ _ _=>rfl) λf fd F=>LB4 f fd F;have LS4:∀f fd,Fun K "blocks_of" "blocks_of" jC f fd->FnOk P w K mg base CX0 34 f fd p5 (spBlks (BAt c 4) (rd 4) 0):=λf fd F=>gd (k:=33) (d:=0) (rdb:=rd 4) ∅ (ay 3) (λ_ _ h=>gP (n:=4) h) F TD Dq Bk4;have Bs4:Def P w K mg base 34 "blocks_of" p5 (spBlks (BAt c 4) (rd 4) 0):=ae X G t.q15 (λ_ _ _ _ _ _=>b2 λ_ _=>rfl) λf fd F=>LS4 f fd F;have Bx:Def P w K mg base 34 "block_at" p0 (spBlkX c):=ae X G t.u16 (λ_ _ _ _ _ _=>b3 λ_ _ _=>rfl) λf fd F=>(FnOk.ex (ι:=Fin 5) (sp:=λi=>match i with |0=>spBlock c RE (rd 0) 4 |1=>spBlock c (BAt c 0) (rd 1) 3 |2=>spBlock c (BAt c 1) (rd 2) 2 |3=>spBlock c (BAt c 2) (rd 3) 1 |4=>spBlock c (BAt c 3) (rd 4) 0) λi=>match i with |0=>(LB0 f fd F).mono ∅ |1=>(LB1 f fd F).mono ∅ |2=>(LB2 f fd F).mono ∅ |3=>(LB3 f fd F).mono ∅ |4=>(LB4 f fd F).mono ∅).imp λvs H Q E ⟨n,rs,i,hn,hr,hf⟩=>(match n,hn,hr,hf with |0,_,hr,hf=>⟨0,rs,i,hr,hf⟩ |1,_,hr,hf=>⟨1,rs,i,hr,hf⟩ |2,_,hr,hf=>⟨2,rs,i,hr,hf⟩ |3,_,hr,hf=>⟨3,rs,i,hr,hf⟩ |4,_,hr,hf=>⟨4,rs,i,hr,hf⟩);have Bsx:Def P w K mg base 34 "blocks_of" p5 (spBlksX c):=ae X G t.q15 (λ_ _ _ _ _ _=>b2 λ_ _=>rfl) λf fd F=>(FnOk.ex (ι:=Fin 5) (sp:=λi=>match i with |0=>spBlks (BAt c 0) (rd 0) 4 |1=>spBlks (BAt c 1) (rd 1) 3 |2=>spBlks (BAt c 2) (rd 2) 2 |3=>spBlks (BAt c 3) (rd 3) 1 |4=>spBlks (BAt c 4) (rd 4) 0) λi=>match i with |0=>(LS0 f fd F).mono ∅ |1=>(LS1 f fd F).mono ∅ |2=>(LS2 f fd F).mono ∅ |3=>(LS3 f fd F).mono ∅ |4=>(LS4 f fd F).mono ∅).imp λvs H Q E ⟨n,l,rs,hn,e,el,hs,hf⟩=>(match n,hn,e,hf with |0,_,e,hf=>⟨0,l,rs,e,el,hs,hf⟩ |1,_,e,hf=>⟨1,l,rs,e,el,hs,hf⟩ |2,_,e,hf=>⟨2,l,rs,e,el,hs,hf⟩ |3,_,e,hf=>⟨3,l,rs,e,el,hs,hf⟩ |4,_,e,hf=>⟨4,l,rs,e,el,hs,hf⟩);have Yd:Def P w K mg base 1 "need_text" ["thing"] spNeedT:=ae X G t.z60 (λ_ _ _ _ _ _=>b1 λ_=>rfl) λf fd F=>pW F TD;have Ye:Def P w K mg base 1 "rows_of" ["text"] spRowsOf:=ae X G t.q60 (λ_ _ _ _ _ _=>b1 λ_=>rfl) λf fd F=>ol F;have Yf:New P w K mg base 1 "Document" z.Document p9 (spInitL z.Document "blocks"):=bK u27 L.g20.mkc L.g20.kc L.z43 (λ_ _ _ _ _ _=>b2 λ_ _=>rfl) λf fd F=>mf F TF;have V_Doc:MethV P w K mg base 45 z.Document "told" ["self"] (spDocTold z.Document (BAt c 4) (dB 4) (OkB 4)):=bd L.g20.cls L.q43 (λ_ _ _ _ _ _=>b1 λ_=>rfl) λf fd F=>mh F TF (MT 4) (ay 4);have Yk:Def P w K mg base 35 "read" ["text"] (spReadT z.Document (BAt c 4) (rd 4)):=ae X G t.u61 (λ_ _ _ _ _ _=>b1 λ_=>rfl) λf fd F=>pX (k:=34) ∅ (ay 4) F TF Yd Ye Bs4 Yf;have Dw:Def P w K mg base 1 "_law_cell_at" p20 (spCellAt K):=ae X G t.f__law_cell_at (λ_ _ _ _ _ _=>b2 λ_ _=>rfl) λf fd F=>oB F TX;have DC:Def P w K mg base 1 "_law_mixed" p21 spMixed:=ae X G t.f__law_mixed (λ_ _ _ _ _ _=>b2 λ_ _=>rfl) λf fd F=>qb F;have DD:Def P w K mg base 1 "_law_row" p22 spLRow:=ae X G t.f__law_row (λ_ _ _ _ _ _=>b2 λ_ _=>rfl) λf fd F=>sT F;have Yi:Def P w K mg base 2 "_law_rows" ["_law_script"] (spLRows K):=ae X G t.f__law_rows (λ_ _ _ _ _ _=>b1 λ_=>rfl) λf fd F=>qd F TX DC DD;have DE:Def P w K mg base 1 "_law_is_blank" ["_law_row_here"] spBlank:=ae X G t.f__law_is_blank (λ_ _ _ _ _ _=>b1 λ_=>rfl) λf fd F=>qe F;have hM:∀k,44<=k->∀n,n<=4->MV P w K mg base k "told" (BAt c n) (OkB n) (tellsB (dB n)):=λk hk n hn=>sZ (MT n) nofun;have Yg:Def P w K mg base 45 "_law_told" p28 (spLTold c):=ae X G t.f__law_told (λ_ _ _ _ _ _=>b3 λ_ _ _=>rfl) λf fd F=>qh (k:=44) F TD (eU Bx) (hM 44 ∅);have Yh:Def P w K mg base 1 "_law_lacks_fence" p23 spLacks:=ae X G t.f__law_lacks_fence (λ_ _ _ _ _ _=>b4 λ_ _ _ _=>rfl) λf fd F=>qj F;have Yj:Def P w K mg base 46 "_law_alone" p29 (spAlone c):=ae X G t.f__law_alone (λ_ _ _ _ _ _=>b5 λ_ _ _ _ _=>rfl) λf fd F=>ql (k:=45) ∅ F TD TX Yg Yh (hM 45 ∅);exact qm (k:=46) ∅ (kN (st:=eT) l cc kp) TX Dw DC DD Yi DE Yj (eU Bsx) (eU Yk) (hM 46 ∅) (V_Doc.mono ∅)
end K14
open PySem PySem.W PySem.W.X PySem.W.ZRun PyProof.Rows
theorem L2.true_law {c:PySem.W.ClaimW}{cl:PySem.Str->Option PySem.Addr}{mean:PySem.ExcName->Option PySem.Value}{args:List PySem.W.WData}{s₁ s':PySem.Shared}(hr:∀cls:PySem.ExcName,c.raises args cls=false)(hp:c.post args (.bool true) args=true)
  (h:OldK s₁.heap s'.heap/\s'.os=s₁.os/\PyProof.Rows.AllBare s'.gens):PySem.W.GoodWG c cl mean args s₁ (Except.ok (PySem.Flow.ret (.bool true))) s':=
 ⟨.inl ⟨_, .bool true,[],rfl,hr, .bool _,hp,λ_=>⟨.nil,λ_ z=>nomatch z⟩⟩,h⟩
set_option maxRecDepth 100000 in
set_option maxHeartbeats 0 in
theorem PySem.Challenge.cw_lightmark_k14_whole_any_rows_holds : PySem.Challenge.rw_lightmark_k14_whole_any_rows.Holds := by
 refine hd14.2 ⟨?_⟩
 conv=>whnf
 k_fill
 intro w s₀ s₁ mg mb G y fa o pm cd doc dV kV ho hd hcd hD hmg hg args vals as L hpre hlay hrd hwl hlo;have y:=Wy (Nat.le_of_ble_eq_true rfl) (Nat.le_of_ble_eq_true rfl) y
 z_open y L KX ZH ZN ZT
 refine Ground.open G ?_;intro T B D TE TW
 wrow_args hpre hlay hrd hwl hlo
 rename_i ns _ _ _ _ _ _ _ a vs _ hL _ _ _ hI _ w6 _;have htk:=script_toks L ZT;have hobj:=script_obj L hL;have t:K14.Top (L2.KOf KX):=by
  dsimp only[L2.KOf];constructor
  case u51|q52|u53|g53|z53|q53|u54|g54|z54|q54|u55|g55|z55|q55|u56|g56|z56|q56|u57|g57|z57|q57|u58|g58|z58|q58|g51|u59|g59|z59|q59|z20|q20|u21|g21|q15|q12|u60|z21|g60|q21|u22|u16|z60|q60|u61|f__law_cell_at|f__law_mixed|f__law_row|f__law_rows|f__law_is_blank|f__law_told|f__law_lacks_fence|f__law_alone|g61=>(refine' K14.fnIn_mk ?xa ?xl ?xc ?xk;(case xa|xl|xc|xk=>k_is))
  case g10|u10|q10|z11|u11|u13|q11|z22|u12|g22|z15|z13=>k_is
  case g12|g11|z12|g16|q13|g14|u15|g15=>(refine' K14.cst_mk ?xe ?xf;(case xe=>k_is);(case xf=>exact⟨_,rfl⟩))
  case cl=>
   refine' K14.cls_mk ?C1 ?C2 ?C3 ?C4 ?C5 ?C6 ?C7 ?C8 ?C9 ?C10 ?C11 ?C12 ?C13 ?C14 ?C15 ?C16 ?X1 ?P1 ?N1 ?P2 ?N2 ?P3 ?N3 ?P4 ?N4 ?N5 ?P5 ?N6 ?P6 ?N7 ?N8 ?P7 ?N9 ?P8 ?N10 ?P9 ?N11 ?P10 ?N12 ?N13 ?P11 ?N14 ?N15 ?P12 ?N16 ?N17 ?N18 ?P13 ?N19 ?P14 ?N20 ?N21 ?N22 ?P15 ?N23 ?J1 ?J2 ?J3 ?J4 ?J5 ?J6 ?J7 ?J8 ?J9 ?J10 ?M1 ?M2 ?M3 ?M4 ?M5 ?M6 ?M7 ?M8 ?M9 ?M10 ?M11 ?M12 ?M13 ?M14 ?M15 ?M16 ?M17 ?M18 ?M19 ?M20 ?M21 ?M22 ?M23 ?M24 ?M25 ?M26 ?M27 ?M28 ?M29 ?M30
   case C1|C2|C3|C4|C5|C6|C7|C8|C9|C10|C11|C12|C13|C14|C15|C16=>k_is
   case X1=>(refine' K14.ownx_VE ?yq;(case yq=>k_exc))
   case P1|P2|P3|P4|P5|P6|P7|P8|P9|P10|P11|P12|P13|P14|P15=>(refine' ⟨?z1,?z2,?z3,?z4,?z5,?z6,?z7,?z8,?z9,?z10⟩;(case z1|z2|z3|z4|z5|z6|z7|z8|z9|z10=>k_is))
   case N1|N2|N3|N4|N5|N6|N7|N8|N9|N10|N11|N12|N13|N14|N15|N16|N17|N18|N19|N20|N21|N22|N23=>k_is
   case J1|J2|J3|J4|J5|J6|J7|J8|J9|J10=>kit_is
   case M1|M2|M3|M4|M5|M6|M7|M8|M9|M10|M11|M12|M13|M14|M15|M16|M17|M18|M19|M20|M21|M22|M23|M24|M25|M26|M27|M28|M29|M30=>(refine' K14.mIn_mk ?xa ?xi ?xl ?xc ?xk;(case xa|xi|xl|xc|xk=>k_is))
 obtain⟨fd,hb,hF⟩:=K14.all_law (P:=PySem.Challenge.rw_lightmark_k14_whole_any_rows.row.prog) (w:=w) KX T.g hmg t;have hbits:∀n∈ns,intBits n<=1048576:=λn hn=>PySem.intBits_le_of_item hn (by assumption);refine wpAny_call (codeAny_mono (L2.law_call KX T.g T.b T.builtins T.nolimit hg (l28 ∅ htk) hobj hI (Lw.big nofun) ⟨rfl,by decide,by decide⟩ hF hb (λH hO hS=>⟨a,ns,rfl,hS,λ_ _=>rfl⟩) λH e s' z=>z) λr s' q=>?_);obtain⟨rfl,q⟩:=q;exact L2.true_law (λ_=>rfl) (by with_unfolding_all rfl) q
