import PyProof.Rows.All
import KE.KItem
import KE.KTryMore
import KE.RegKIsAll
import KE.KNest
import KE.KFromBytes
import OpenK.ZGo
import KE.IntBitsLaws
import Wide.FinOn
import PySem.Challenge.RW_lightmark_k13_built_texts
set_option Elab.async false
set_option linter.all false
noncomputable section
namespace PySem.W.Fast
def tw10529350006249508592:=0
def tw8812987738041230516:=0
def tw3384281908667456303:=0
def tw15890946877161493169:=0
def tw15106883454273411291:=0
def tw15031364782538134415:=0
def tw3980750956024601554:=0
def tw17046329009914279171:=0
def tw4121541533283772590:=0
def tw2258957720643282485:=0
def tw17016190015250696311:=0
def tw8478111415722613757:=0
def tw18443550140924412834:=0
def tw7124877825225737424:=0
def tw13361565373675825369:=0
def tw16520559575656390316:=0
def tw3667841665036311567:=0
def tw5781580288975423543:=0
def tw10121113180992806616:=0
def tw8457537041864260822:=0
def tw3887771305708924940:=0
def tw3605511950609755085:=0
def tw2209821998314460007:=0
def tw9498279800828011835:=0
def tw5149345601459146069:=0
def tw1427696989997802879:=0
def tw3276521785710108055:=0
def tw3309010610014430765:=0
def tw4930979885017185099:=0
def tw3623682926913710000:=0
def tw13433858407173408041:=0
def tw7159560101902140089:=0
def tw10665942511930536107:=0
def tw3659317984628961653:=0
def tw18213645467876076101:=0
def tw8564489728470120170:=0
def tw6895159067297132022:=0
def tw17050130823586294524:=0
def tw10986485344448638089:=0
def tw17724211456653167416:=0
def tw9343383914483744516:=0
def tw7354459083860824321:=0
def tw10809696209596813905:=0
def tw10559541467597896725:=0
def tw3421882986153980751:=0
def tw15195476869498735660:=0
def tw7695030381432629354:=0
def tw5179767037146687950:=0
def tw9572633492612894565:=0
def tw13406381568658034970:=0
def tw3346103409520416270:=0
def tw3508437592353540329:=0
def tw4890929593559565495:=0
def tw6285876266654156630:=0
def tw3945254352261736905:=0
def tw1136761000435329847:=0
def tw6477868518051517899:=0
def tw9901427276836214957:=0
def tw751211329756045638:=0
def tw9281561638578611965:=0
def tw16849691800039109095:=0
def tw17150277497805036798:=0
def tw1747766018424739042:=0
def tw7669050630055785770:=0
def tw12138511482119064487:=0
def tw12035669923975160412:=0
def tw10595301168818331450:=0
def tw8012147119030848356:=0
def tw4129919996011113141:=0
def tw7965098734144846883:=0
def tw11801913275988170800:=0
def tw14023894883062484317:=0
def tw3147131824965333706:=0
def tw9996499856384321476:=0
def tw3001349864768146674:=0
def tw7581194019822365099:=0
def tw12962866230028886868:=0
def tw6219977746340648385:=0
def tw11890853546861379155:=0
def tw11912667215719718544:=0
def tw8183592228431289227:=0
def tw3049443944946822871:=0
def tw10454791133666199662:=0
def tw940866163272707855:=0
def tw12428947779173499359:=0
def tw16640909490329316534:=0
def tw8889314149956634058:=0
def tw13992904536265931474:=0
def tw665688564189420492:=0
def tw16365731405215015280:=0
def tw13677219570247238335:=0
def tw7817070786056822596:=0
def tw1253116320556715325:=0
def tw11684006554509396190:=0
def tw14556569191731818776:=0
def tw6266731185485262456:=0
def tw7356928349358064387:=0
def tw4078067865304344426:=0
def tw9806548315658147240:=0
def tw2186406606171842123:=0
def tw16160595022755591268:=0
def tw8706963968889894233:=0
def tw8006422579982262949:=0
def tw11036136807122299739:=0
def tw16587320927597913553:=0
def tw179170250758872786:=0
def tw12837020680745678919:=0
def tw11253778498066387677:=0
def tw3978161377360531578:=0
def tw17017522830738841344:=0
def tw12317100215141284669:=0
def tw846815120393290219:=0
def tw6026985476809906511:=0
def tw10535013606104754120:=0
def tw5301066642957393823:=0
def tw6408870868277147806:=0
def tw13213948621429089900:=0
def tw2734517555584404599:=0
def tw1811368990971006893:=0
def tw12508059912938810968:=0
def tw12708894188465256321:=0
def tw13923358625490617340:=0
def tw17764350331748478734:=0
def tw8655431796135110388:=0
def tw11442994427681899041:=0
def tw13976435019021736774:=0
def tw12795299244250008013:=0
def tw7338533269926611280:=0
def tw16255601701014603023:=0
def tw17737706378567278372:=0
def tw6383771738423581356:=0
def tw1606324568439484782:=0
def tw8879946544005506186:=0
def tw14532968845219578799:=0
def tw2470158636105364978:=0
def tw8300188027085901845:=0
def tw14541325067318822230:=0
def tw14861064703391688374:=0
def tw15655421899327843458:=0
def tw4694808317928566076:=0
def tw3119622577158902165:=0
def tw865011377949762928:=0
def tw13846064465934408430:=0
def tw10374603992810472898:=0
def tw374011694257764740:=0
def tw16078786473307245225:=0
def tw8746617419121912041:=0
def tw13322377050246366232:=0
def tw7793346520538965523:=0
def tw13210471243780513809:=0
def tw10963458060498026719:=0
def tw5575761743616831264:=0
def tw7245721843183259212:=0
def tw16135634140737105215:=0
def tw4908429490668035218:=0
def tw484554386857466873:=0
def tw13417028717074458687:=0
def tw17047138969189749776:=0
def tw728228543693370578:=0
def tw14027064639783692748:=0
def tw5539001256837180501:=0
def tw18367751823060080741:=0
def tw8780049141120388606:=0
def tw6139239257474670044:=0
def tw8441024451330387155:=0
def tw11266582799338396276:=0
def tw12167100810191893819:=0
def tw11195711402287749121:=0
def tw4349875724371327823:=0
def tw685241983635388220:=0
def tw9863445915237884084:=0
def tw4035699810589347905:=0
def tw10304512504757578980:=0
def tw675193749265162175:=0
def tw13968474616405470664:=0
def tw13151484445616044496:=0
def tw1480259542430854308:=0
def tw16988009138831490277:=0
def tw12655085859507851372:=0
def tw7403601744417259354:=0
def tw7516289341408280674:=0
def tw10387197967421907851:=0
def tw18093857174771873210:=0
def tw3678952011195489583:=0
def tw8126517880450871978:=0
def tw13529064349348974044:=0
def tw6363168281811246519:=0
def tw8764049948431640136:=0
def tw7837448796448058930:=0
def tw7285903829702972353:=0
def tw13016058643490685092:=0
def tw13873440956741344926:=0
def tw14071728777964498778:=0
def tw538404071179022715:=0
def tw5898364813575828025:=0
def tw3817941033093238952:=0
def tw4395895891115567488:=0
def tw18358083172691439717:=0
def tw13631188340763414567:=0
def tw11036493076518858524:=0
end PySem.W.Fast
structure Wr (p : Prop) : Prop where h : p
section
open PySem PySem.W PySem.W.X PySem.W.ZRun PyProof.Rows
def Wo (as:List Addr)(k m:Nat)(s:Shared):List (Option Obj):=List.map s.heap.get? (List.take m (List.drop k as))
def Wv (K:Params->Frag)(k m:Nat)(w:World):List (Option Obj):=List.map (fun p=>some p.2) (List.take m (List.drop k (K w.params)))
theorem Wj {α β γ:Type}{g:α->γ}{f:β->γ}{as:List α}{bs:List β}{k m:Nat}(h:List.map g (List.take m (List.drop k as))=List.map f (List.take m (List.drop k bs)))(r:List.map g (List.drop (k+m) as)=List.map f (List.drop (k+m) bs)):List.map g (List.drop k as)=List.map f (List.drop k bs):=by
 rw[<- List.take_append_drop m (List.drop k as),<- List.take_append_drop m (List.drop k bs),List.map_append,List.map_append,h,List.drop_drop,List.drop_drop,r]
theorem Wy {as:List Addr}{K:Params->Frag}{n t:Nat}{s:Shared}{w:World}(z:as.length<=9999)(z':(K w.params).length<=9999)(y:(((Wo as 0 120 s,Wo as 120 120 s),(Wo as 240 120 s,Wo as 360 120 s)),(((Wo as 480 120 s,Wo as 600 120 s),(Wo as 720 120 s,Wo as 840 9999 s)),(s.heap.objs.size,s.toks)))=(((Wv K 0 120 w,Wv K 120 120 w),(Wv K 240 120 w,Wv K 360 120 w)),(((Wv K 480 120 w,Wv K 600 120 w),(Wv K 720 120 w,Wv K 840 9999 w)),(n,t)))):obsZ as s=valZ K n t w:=by
 obtain⟨⟨⟨h0,h1⟩,⟨h2,h3⟩⟩,⟨⟨h4,h5⟩,⟨h6,h7⟩⟩,⟨hn,ht⟩⟩:(((_/\_)/\(_/\_))/\(((_/\_)/\(_/\_))/\(_/\_))):=by
  simpa only[Prod.mk.injEq] using y
 have l:=Wj h7 (by rw[List.drop_of_length_le (by omega),List.drop_of_length_le (by omega)];rfl)
 have e:List.map s.heap.get? (List.drop 0 as)=List.map (fun p=>some p.2) (List.drop 0 (K w.params)):=Wj h0 (Wj h1 (Wj h2 (Wj h3 (Wj h4 (Wj h5 (Wj h6 l))))))
 unfold obsZ valZ;rw[hn,ht];exact congrArg (·,n,t) e
local macro_rules
 |`(tactic|refine $f:ident $a*)=>do
  if f.getId.eraseMacroScopes != `PySem.W.holds_openX then Lean.Macro.throwUnsupported
  let t:=Lean.mkIdent `hc
  let b<-a.mapM fun x=>do
   if x.raw.getKind==``Lean.Parser.Term.namedArgument then
    let g (i:Nat):Lean.Term:=⟨x.raw[3][1][i]⟩
    let n:=x.raw[1].getId.eraseMacroScopes
    if n==`Yf then
     let a:=g 0
     return⟨x.raw.setArg 3 (<- `(term|fun s=>(((Wo $a 0 120 s,Wo $a 120 120 s),(Wo $a 240 120 s,Wo $a 360 120 s)),(((Wo $a 480 120 s,Wo $a 600 120 s),(Wo $a 720 120 s,Wo $a 840 9999 s)),(s.heap.objs.size,s.toks)))))⟩
    else if n==`Ya then
     let k:=g 0;let n:=g 1;let t:=g 2
     return⟨x.raw.setArg 3 (<- `(term|fun w=>(((Wv $k 0 120 w,Wv $k 120 120 w),(Wv $k 240 120 w,Wv $k 360 120 w)),(((Wv $k 480 120 w,Wv $k 600 120 w),(Wv $k 720 120 w,Wv $k 840 9999 w)),($n,$t)))))⟩
    else return x
   else return x
  `(tactic|(refine ($f $b*);case $t:ident=>exact Wr.h (by assumption)))
set_option maxRecDepth 100000 in
set_option maxHeartbeats 0 in
def hd13 : (R : Prop) ×' (Wr R → PySem.Challenge.rw_lightmark_k13_built_texts.Holds) := by
 apply PSigma.mk
 intro r
 w_on; o_law; z_head; (case hw => w_witness2)
end
local macro_rules
 | `(tactic| omega) => `(tactic| first
  | exact Nat.le_refl _
  | exact Nat.le_add_right _ _
  | exact Nat.le_of_ble_eq_true rfl
  | (refine Nat.le_trans (by assumption) ?_; exact Nat.le_of_ble_eq_true rfl)
  | exact Nat.le_succ_of_le (by assumption)
  | (refine Int.le_trans (by assumption) ?_; exact of_decide_eq_true rfl)
  | lia
  | omega +splitNatSub)
set_option hygiene false
local macro_rules
 | `(tactic| ac_nf) => `(tactic| (try dsimp only [L2.cxK]; first | (with_reducible refine L2.cut9 ?_; intro _ _ _ _ _ _ _ _ _) | (with_reducible refine L2.cut8 ?_; intro _ _ _ _ _ _ _ _) | (with_reducible refine L2.cut7 ?_; intro _ _ _ _ _ _ _) | (with_reducible refine L2.cut6 ?_; intro _ _ _ _ _ _) | (with_reducible refine L2.cut5 ?_; intro _ _ _ _ _) | (with_reducible refine L2.cut4 ?_; intro _ _ _ _) | (with_reducible refine L2.cut3 ?_; intro _ _ _) | (with_reducible refine L2.cut2 ?_; intro _ _) | (with_reducible refine L2.cut1 ?_; intro _) | skip))
local macro_rules
 | `(tactic| ac_rfl) => `(tactic| (first | (with_reducible refine L2.cutG ?_; intro _) | skip))
set_option hygiene true
local macro_rules
 | `(tactic| decide) => `(tactic| decide +kernel)
local macro_rules
 |`(∅)=>`(by decide)
local macro_rules
 |`(nofun)=>`(by omega)
open PySem.W (Frag nsIn mg_of fnOf hideAll mg_none_of keepIn emptyDict instObj codeIn kitAny hideAll_get plainGet isFn lookIn hasDictIn makesIn methodObj of_hideAll hideAll_none plainGet_of plainOver takerIn callWith_K excIn exmOne handedIn kitx_list kitx_dict)
open PySem.F (plainAttrs_str slot_str_join type_str_join slot_str_startswith type_str_startswith slot_str_find type_str_find slot_str_split type_str_split)
open PyProof.Rows (lo1 up1 callWith_type1)
open PySem.Builtin.Int (intBits)
set_option maxRecDepth 100000
def l4:=@List.length_map
def l5:=@List.length_cons
def l6:=@List.length_append
def l7:=@List.mem_cons_self
def l8:=@List.mem_cons_of_mem
def l9:=@Nat.le_refl
def l10:=@List.mem_cons
def l11:=@Nat.zero_le
def l12:=@List.append_nil
def l13:=@List.mem_append
def l14:=@List.map_append
def l15:=@List.length_drop
def l16:=@List.map_cons
def l17:=@Nat.le_trans
def l18:=@List.mem_singleton
def l19:=@List.append_assoc
def l20:=@List.map_map
def l21:=@List.mem_map
def l22:=@List.mem_of_getElem?
def l23:=@List.length_replicate
def l24:=@List.getD_eq_getElem?_getD
def l25:=@List.sum_cons
def l26:=@List.drop_drop
def l27:=@Nat.ne_of_lt
def l28:=@List.cons_append
def l29:=@List.length_take
def l30:=@List.size_toArray
def l31:=@List.drop_eq_getElem_cons
def l32:=@Nat.lt_of_lt_of_le
def l33:=@List.replicate_succ
def l34:=@List.length_nil
def l35:=@List.mem_append_right
def l36:=@List.flatten_cons
def l37:=@Nat.succ_pos
def l38:=@List.nil_append
def l39:=@List.all_eq_true
def l40:=@Int.toNat_natCast
def l41:=@List.take_of_length_le
def l42:=@List.length_range
def l43:=@List.drop_left
def l44:=@List.mem_append_left
def l45:=@List.sum_append
def l46:=@List.getElem_mem
def l47:=@List.map_nil
def l48:=@List.eq_nil_or_concat
def l49:=@List.drop_of_length_le
def l50:=@Nat.lt_irrefl
def l51:=@List.take_left
def l52:=@Option.map_eq_some_iff
def l53:=@Nat.sub_self
def l54:=@List.mem_range
def l55:=@List.concat_eq_append
def l56:=@List.map_congr_left
def l57:=@List.takeWhile_append_dropWhile
def l58:=@List.drop_length
def l59:=@Nat.min_eq_left
def l60:=@List.eq_nil_of_length_eq_zero
def l61:=@List.mem_filterMap
def l62:=@List.take_length
def l63:=@List.take_append_drop
def l64:=@List.mem_of_mem_drop
def l65:=@List.map_replicate
def l66:=@Int.emod_nonneg
def l67:=@Nat.ne_of_gt
def l68:=@Nat.lt_succ_self
def l69:=@List.drop_zero
def l70:=@List.isPrefixOf_iff_prefix
def l71:=@List.drop_append_of_le_length
def l72:=@Nat.min_eq_right
def l73:=@List.drop_eq_nil_of_le
def l74:=@List.flatten_append
def l75:=@List.mem_filter
def l76:=@Nat.add_comm
def l77:=@Nat.zero_add
def l78:=@List.singleton_append
def l79:=@List.prefix_iff_eq_take
def l80:=@List.range_succ
def l81:=@List.mem_of_mem_take
def l82:=@Nat.add_sub_cancel
def l83:=@List.contains_iff_mem
def l84:=@List.ext_getElem?
def l85:=@List.mem_replicate
def l86:=@Nat.mul_le_mul_right
def l87:=@List.nodup_cons
def l88:=@Option.isSome_iff_exists
def l89:=@List.foldl_cons
def l90:=@List.reverse_append
def l91:=@List.length_reverse
def l92:=@List.take_append_of_le_length
def l93:=@List.takeWhile_cons_of_neg
def l94:=@Option.map_some
def l95:=@List.flatMap_cons
def l96:=@Int.emod_lt_of_pos
def l97:=@List.length_singleton
def l98:=@List.dropWhile_cons_of_pos
def l99:=@List.dropWhile_cons_of_neg
def l100:=@List.flatten_replicate_singleton
def sA {α:Type}{a b:α}{l:List α}{n:Nat}:(a::l).set (n+1) b=a::l.set n b:=rfl
def sB {α:Type}{a b:α}{l:List α}:(a::l).set 0 b=b::l:=rfl
set_option hygiene false
local macro_rules
|`(168#($x,$y))=>`(⟨$x,_,rfl,2#m $y,rfl,_,_,rfl,_,_,rfl,rfl,?_⟩)
|`(169#($x,$y))=>`(aB $x (5#M) $y (ak _))
|`(170#($x,$y))=>`(⟨oc,od, .func $x,$y⟩)
|`(10#$x)=>`(xac $x xa0)
|`(11#$x)=>`(.ref $x)
|`(12#$x)=>`(xix ay $x xint (λ_ _=>rfl))
|`(13#$x)=>`(xb1 (xret $x))
|`(14#$x)=>`(.lst $x)
|`(15#$x)=>`(xcB $x T.u10 PySem.boot_len (xac (xv 0) xa0))
|`(16#$x)=>`(List $x)
|`(17#$x)=>`(xac (xv 0) $x)
|`(18#$x)=>`(Same.refl $x)
|`(19#$x)=>`(xac $x xa0)
|`(20#$x)=>`(xst (i:=$x) sc.nd (xlst xa0))
|`(21#$x)=>`(.int $x)
|`(22#$x)=>`(λ_ _ _ _=>xgm (i:=0) $x)
|`(23#$x)=>`(some $x)
|`(24#$x)=>`(⟨$x,rfl⟩)
|`(25#$x)=>`(.ListComp elt [⟨$x,iter,ifs,0⟩] scope pos)
|`(26#$x)=>`(xop aM (xop aS (xv $x) xint) xint)
|`(27#$x)=>`(xgm (i:=$x) sc.nd)
|`(28#$x)=>`(decide $x)
|`(29#$x)=>`($x w9 s σ H _ I h)
|`(30#$x)=>`(rs.drop $x)
|`(31#$x)=>`(xst (i:=4) sc.nd (xcd Da hr 17#(xac $x 19#(xv 2))))
|`(32#$x)=>`(fnOf x $x (bM st) (bD st) (ae st) .none kV doc pm an cdv ct)
|`(33#$x)=>`(⟨rfl,_,0#w $x⟩)
|`(34#$x)=>`(.cons $x .nil)
|`(35#$x)=>`(xac $x xa0)
|`(36#$x)=>`(bi (xv 0) (xcTy aP T.g10 rfl 10#(xv $x)))
|`(37#$x)=>`(aB aY (xv $x) xint (ak _))
|`(38#$x)=>`(l8 _ $x)
|`(39#$x)=>`(xst (i:=3) sc.nd $x)
|`(40#$x)=>`(aB aY $x xint (ak _))
|`(41#$x)=>`(⟨_,rfl,_,_,rfl,rfl,L $x b 0#G nofun,?_⟩)
|`(42#$x)=>`(aB aY 12#(xv $x) xstr (ak _))
|`(43#$x)=>`(dI (K:=K) (ta:=tVar 0) 0#u (.inl (0#w ($x _ _ el))))
|`(44#$x)=>`(tVar $x)
|`(45#$x)=>`(⟨rfl,rfl, .inl rfl, .inl rfl,$x⟩)
|`(46#$x)=>`(ad $x _)
local macro_rules
|`(47#$x)=>`(xix ay $x xint 0#n)
|`(48#$x)=>`(xop aM $x xint)
|`(49#$x)=>`(xst (i:=2) sc.nd $x)
|`(50#$x)=>`(⟨_,rfl,l,rfl,⟨_,0#w $x⟩,?_⟩)
|`(51#$x)=>`(⟨(1#l).set ∅ _,iteT (B:=N H2) $x⟩)
|`(52#$x)=>`(model $x w)
|`(53#$x)=>`(xop af $x xstr)
|`(54#$x)=>`(⟨_,rfl,_,_,rfl,rfl,L $x d 0#G nofun,?_⟩)
|`(55#$x)=>`(ae $x)
|`(56#$x)=>`(xst (i:=4) sc.nd $x)
|`(57#$x)=>`(⟨bg2,λt ht=>fin ll ht $x rfl⟩)
|`(58#$x)=>`(xaug (i:=$x) sc.nd rfl (Or.inl rfl) xint gK)
|`(59#$x)=>`(⟨_,rfl,_,_,rfl,rfl,L a [$x] nofun ∅,?_⟩)
|`(60#$x)=>`(if $x then 58 else 45)
|`(61#$x)=>`(.Name x $x)
|`(62#$x)=>`(upd (upd H5 dx (.own y)) y (.ins $x dx []))
|`(63#$x)=>`(⟨.int $x,H,I.tok _,0#F,q⟩)
|`(64#$x)=>`(eval $x X.env)
|`(65#$x)=>`(upd (upd $x dx (.own x)) x (.ins C dx []))
|`(66#$x)=>`(t.drop $x)
|`(67#$x)=>`(a1.drop $x)
|`(68#$x)=>`(hp.same $x)
|`(69#$x)=>`(xif 42#3 13#(xcd $x hr (xac (xv 0) (xac (2#E) 19#(xv 2)))) xb0)
|`(70#$x)=>`(V.int $x)
|`(71#$x)=>`(ao [32] $x)
|`(72#$x)=>`(.plain (S $x))
|`(73#$x)=>`(.tup [V.ref u1, .ref $x])
|`(74#$x)=>`(0#w $x)
|`(75#$x)=>`(bI (xmA (xv $x) 10#(xix ay (xv 4) xint 0#n)))
|`(76#$x)=>`(Ne.symm $x)
|`(77#$x)=>`(H' X=some 14#($x V.ref))
|`(78#$x)=>`((false,eval $x X.env))
|`(79#$x)=>`(fnOf x $x (bM st) (bD st) 55#st .none kV dc pm an cd ct)
|`(80#$x)=>`(aq 18#_ $x)
|`(81#$x)=>`(nfS $x fr σ)
|`(82#$x)=>`(.str $x)
|`(83#$x)=>`(tSeq a1 (tSeq a2 (tSeq a3 (tSeq a4 $x))))
|`(84#$x)=>`(xst (i:=1) sc.nd $x)
|`(85#$x)=>`(⟨_,0#w $x⟩)
|`(86#$x)=>`(dif H $x)
local macro_rules
|`(87#$x)=>`(.Attribute o $x w4)
|`(88#$x)=>`(tOp $x ta tb)
|`(89#$x)=>`(⟨rfl,$x⟩)
|`(90#$x)=>`(l32 (0#S e) $x)
|`(91#$x)=>`(xlsc (dG ∅) $x)
|`(92#$x)=>`(xgt rfl (xgsc 27#4 (xgsc 27#5 $x)))
|`(93#$x)=>`(xo1 $x)
|`(94#$x)=>`(λC fp s H=>($x C fp s H).h)
|`(95#$x)=>`(λ_ _ _ _=>(rX (k:=k) $x hr.mono))
|`(96#$x)=>`(⟨$x,by omega⟩)
|`(97#$x)=>`(⟨$x,by simpa using h1,h2⟩)
|`(98#$x)=>`(⟨_,$x,rfl⟩)
|`(99#$x)=>`(r.take $x)
|`(100#$x)=>`(.BoolOp .And $x pos)
|`(101#$x)=>`(λ_ _ _ _=>(xcd $x hr 10#(2#U)))
|`(102#$x)=>`(V.str.inj $x)
|`(103#$x)=>`(xb1 $x)
|`(104#$x)=>`(.BoolOp .Or $x pos)
|`(105#$x)=>`((ai $x).trans ac)
|`(106#$x)=>`(⟨(1#l).set ∅ _,iteT (B:=N H3) $x⟩)
|`(107#$x)=>`(⟨.bl _,H,I,rfl,$x⟩)
|`(108#$x)=>`(tCons $x tNil)
|`(109#$x)=>`(λb=>W b ∨ b=$x)
|`(110#$x)=>`($x _ _ el)
|`(111#$x)=>`(bL (0#I bp $x 10#xstr))
|`(112#$x)=>`(tTest $x)
|`(113#$x)=>`(xac $x 19#(2#h (2#E) xint))
|`(114#$x)=>`(wpAny_holding $x)
|`(115#$x)=>`(⟨$x h.h⟩)
|`(116#$x)=>`(fromIndex x.length $x)
|`(117#$x)=>`(⟨_,rfl, .inl $x⟩)
|`(118#$x)=>`(⟨$x,rfl,?_⟩)
|`(119#$x)=>`(.inl $x)
|`(120#$x)=>`(.inr $x)
|`(121#$x)=>`(xif 37#6 13#(xtup $x) xb0)
|`(122#$x)=>`($x (2#U))
|`(123#$x)=>`(.int $x t)
|`(124#$x)=>`(.lst [V.str $x])
|`(125#$x)=>`(l22 $x)
|`(126#$x)=>`(.lst [vS $x])
local macro_rules
|`(127#$x)=>`(⟨_,rfl,$x⟩)
|`(128#$x)=>`(V.ref $x)
|`(129#$x)=>`(spInitL $x "blocks")
|`(130#$x)=>`(xlst $x)
|`(131#$x)=>`({ $x with slots:=sl })
|`(132#$x)=>`(("parts", .ref $x))
|`(133#$x)=>`(.Tuple es $x pos)
|`(134#$x)=>`(.str $x t)
|`(135#$x)=>`(s.free $x)
|`(136#$x)=>`(λb o hb e=>($x b hb).trans e)
|`(137#$x)=>`(Same $x H')
|`(138#$x)=>`(⟨$x,_,rfl,by decide⟩)
|`(139#$x)=>`(.list $x)
|`(140#$x)=>`(S [$x])
|`(141#$x)=>`(spInit1 $x "signs")
|`(142#$x)=>`(1#p $x)
|`(143#$x)=>`(aB eJ $x 15#ar (ak _))
|`(144#$x)=>`(xs.map $x)
|`(145#$x)=>`(λ_ _ h=>jp (n:=$x) h)
|`(146#$x)=>`(⟨ap $x 1#C,by simp;omega⟩)
|`(147#$x)=>`(⟨$x,?_⟩)
|`(148#$x)=>`(4#b $x o)
|`(149#$x)=>`(R_call_len_seq $x)
|`(150#$x)=>`(I.base.keep b o e $x hb hx)
|`(151#$x)=>`(aB aY $x xstr (ak _))
|`(152#$x)=>`(aB eJ $x xint (ak _))
|`(153#$x)=>`(rI0 λi j => .int $x)
|`(154#$x)=>`(xcd Dc hr 17#(xac $x xa0))
|`(155#$x)=>`(⟨G,a,$x,d,e⟩)
|`(156#$x)=>`(BAt c $x)
|`(157#$x)=>`(tCall sp [] $x t)
|`(158#$x)=>`(QOk.cons $x QOk.nil)
|`(159#$x)=>`(entR $x)
|`(160#$x)=>`(s3.trans $x)
|`(161#$x)=>`(s8.trans $x)
|`(162#$x)=>`(aB $x (xv 4) xnon (ak _))
|`(163#$x)=>`($x _ _)
|`(164#$x)=>`(4#t $x xint 0#n)
|`(165#$x)=>`(bls $x)
|`(166#$x)=>`(ps.map $x)
local macro_rules
|`(167#$x)=>`(xac $x 19#(2#E))
|`(0#a)=>`(List Nat)
|`(0#b)=>`(FnOk P w K mg base CX0)
|`(0#c)=>`(Def P w K mg base)
|`(0#d)=>`(Inv X w9 σ H s)
|`(0#e)=>`(Str.ofString)
|`(0#f)=>`(List.replicate)
|`(0#g)=>`(s.heap.objs.size)
|`(0#h)=>`(by simp)
|`(0#i)=>`(bd X scope cl C N' fp s H)
|`(0#j)=>`(model X.prog X.w)
|`(0#k)=>`(nomatch z)
|`(0#l)=>`(List.getElem?_eq_getElem)
|`(0#m)=>`(List 16#Nat)
|`(0#n)=>`(λ_ _=>rfl)
|`(0#o)=>`(nsIn K mainGlobals)
|`(0#p)=>`(if aO (x::t) then some (Pc.sign (t.headD 0),t.tail) else if x=42 then some (Pc.star,t) else if x=96 then some ((b8 t).getD (.sign 96,t)) else if x=91 then some (((b7 t).or (bO t)).getD (.sign 91,t)) else some (Pc.sign x,t))
|`(0#q)=>`(⟨by omega,by omega⟩)
|`(0#r)=>`(Bool.and_eq_true)
|`(0#s)=>`(of_decide_eq_true)
|`(0#t)=>`(List V)
|`(0#u)=>`(ev_v rfl)
|`(0#v)=>`(x==("__debug__":Str))
|`(0#w)=>`(SqL.of)
|`(0#x)=>`(List.getElem?_map)
|`(0#y)=>`(.lst [])
|`(0#z)=>`(if_neg)
|`(0#A)=>`(absurd)
|`(0#B)=>`(Option Value)
|`(0#C)=>`(List.getElem?_eq_some_iff.mp)
|`(0#D)=>`(decide_eq_false)
|`(0#E)=>`(xs.length)
|`(0#F)=>`(⟨_,rfl⟩)
|`(0#G)=>`(by simp;omega)
|`(0#H)=>`(Heap.get?_push_of_some)
|`(0#I)=>`(xm plainAttrs_str slot_str_startswith type_str_startswith)
|`(0#J)=>`(.tup [.int (rs'.length:Int), .int ((rs'.length:Int)+(own.length:Int))])
|`(0#K)=>`(PySem.W.findIn K)
|`(0#L)=>`(l.length)
|`(0#M)=>`(xm plainAttrs_str slot_str_join type_str_join cm xstr)
local macro_rules
|`(0#N)=>`(PySem.W.kitOne K)
|`(0#O)=>`(List Str)
|`(0#P)=>`(.Call (.Name x p) (e::es) [] pos)
|`(0#Q)=>`(New P w K mg base 1)
|`(0#R)=>`(⟨_,rfl,_,rfl,_,_,rfl,rfl, .inl nofun,_,rfl,_,_,rfl,rfl, .inr nofun,_,_,rfl,rfl,_,rfl,_,_,rfl,rfl, .inl nofun,_,_,rfl,rfl,_,_,rfl,rfl, .inl ?_,_,_,rfl,rfl,show (0:Int) < 2147483629 by omega,_,_,rfl,rfl,0#q,?_⟩)
|`(0#S)=>`(Heap.lt_size)
|`(0#T)=>`(Same H H')
|`(0#U)=>`(Addr×Obj)
|`(0#V)=>`(congrArg List.length)
|`(0#W)=>`({ s with heap:=h' })
|`(0#X)=>`(cxOf (CXr P w) P w K mg base N qual scope f cd A outer s₀ H₀ E)
|`(0#Y)=>`(s2.trans s3)
|`(0#Z)=>`(sizeLine_eq)
|`(1#a)=>`(Shared)
|`(1#b)=>`(FnScope)
|`(1#c)=>`(xcB ar T.u10 PySem.boot_len)
|`(1#d)=>`(if_pos)
|`(1#e)=>`(Bool.false_ne_true)
|`(1#f)=>`(decide_eq_true)
|`(1#g)=>`((e::es).length+([]:List Keyword).length+(if ([]:List Keyword).isEmpty then 0 else 1) < 30)
|`(1#h)=>`(λ_ _ _ _ _ _=>b1 λ_=>rfl)
|`(1#i)=>`(envOfC qual scope s₀.heap.objs.size f cd)
|`(1#j)=>`(wpAny_bind)
|`(1#k)=>`(λ_ _ _ _=>xq0)
|`(1#l)=>`(nfLe.refl _ _ _)
|`(1#m)=>`(r.length)
|`(1#n)=>`(t.length)
|`(1#o)=>`(Bool.noConfusion)
|`(1#p)=>`(xac xstr)
|`(1#q)=>`(by with_unfolding_all rfl)
|`(1#r)=>`(rs.length)
|`(1#s)=>`(Bool.eq_false_iff.mpr)
|`(1#t)=>`(["_law_number"])
|`(1#u)=>`(of_decide_eq_false)
|`(1#v)=>`((relabel scope X.env).names.lookup x=some .cell ∨ (relabel scope X.env).names.lookup x=some .free)
|`(1#w)=>`(Option.some.inj)
|`(1#x)=>`(PassesOwn.never)
|`(1#y)=>`(l10.mp)
|`(1#z)=>`(⟨_,rfl,_,_,rfl,rfl,show (0:Int) < 1000000007 by omega,_,_,rfl,rfl,_,_,rfl,rfl, .inr nofun,_,_,rfl,rfl,show (0:Int) < 2147483647 by omega,?_⟩)
|`(1#A)=>`(by rw[l4];omega)
local macro_rules
|`(1#B)=>`(List Addr)
|`(1#C)=>`(by unfold Asc;decide)
|`(1#D)=>`(["self"])
|`(1#E)=>`(Program)
|`(1#F)=>`(λ_ z=>0#k)
|`(1#G)=>`(List.replicate)
|`(1#H)=>`(List 0#U)
|`(1#I)=>`(wpAny 0#j X.A)
|`(1#J)=>`(.lst [V.non, .int 5, .bl true, .ref l1,v2, .ref p3, .bl false,vS (ao [10] a3++[9])])
|`(1#K)=>`(["text"])
|`(1#L)=>`(some none)
|`(1#M)=>`(show false=true from hs)
|`(1#N)=>`(Heap.get?_push_size)
|`(1#O)=>`(dOf g)
|`(1#P)=>`(wsGo none)
|`(1#Q)=>`(List.range)
|`(1#R)=>`(X.env.cells.lookup x)
|`(1#S)=>`(xop af (xop af (xop af (xv 1) xstr) (xv 2)) xstr)
|`(1#T)=>`(some o)
|`(1#U)=>`(⟨_,rfl,_,_,rfl,rfl,0#q,_,_,rfl,rfl,show (0:Int) < 2 by omega,_,_,rfl,rfl,_,_,rfl,rfl,by decide,by omega,by omega,?_⟩)
|`(1#V)=>`(model prog w)
|`(1#W)=>`(Option Int)
|`(1#X)=>`(envOfC qual scope s.heap.objs.size f)
|`(1#Y)=>`(e::es)
|`(1#Z)=>`(List Expr)
|`(2#a)=>`(.inl rfl)
|`(2#b)=>`(List Value)
|`(2#c)=>`(s1.trans s2)
|`(2#d)=>`(λ_ _ _ _ _ _=>b2 λ_ _=>rfl)
|`(2#e)=>`(X.env.locals)
|`(2#f)=>`(some 11#l)
|`(2#g)=>`(ts.length)
|`(2#h)=>`(xop au)
|`(2#i)=>`(.builtin "object.__class__")
|`(2#j)=>`(⟨_,rfl,_,_,rfl,rfl,?_⟩)
|`(2#k)=>`(Fun K)
|`(2#l)=>`(List.getElem?_append_right)
|`(2#m)=>`(SqT.of)
|`(2#n)=>`(l13.mp)
|`(2#o)=>`(if x=92/\takenC.contains y=true then y::freeC r else x::freeC (y::r))
local macro_rules
|`(2#p)=>`(some false)
|`(2#q)=>`((∀σ' H',N σ' H'->∃m',m' < m/\W (i+1) m' σ' H'))
|`(2#r)=>`(FnIn K)
|`(2#s)=>`(as.map V.ref)
|`(2#t)=>`(s1.heap.objs.size)
|`(2#u)=>`(congrArg)
|`(2#v)=>`(gw r none (λx hx=>hp x 38#hx) λinn e=>nomatch e)
|`(2#w)=>`(List PyData)
|`(2#x)=>`(ps.length)
|`(2#y)=>`(some 11#X)
|`(2#z)=>`(⟨rfl,rfl, .inl rfl, .inl rfl,trivial⟩)
|`(2#A)=>`(bc I q 0#h)
|`(2#B)=>`(λz=>0#k)
|`(2#C)=>`(starEach)
|`(2#D)=>`(EP X w9 σ Q)
|`(2#E)=>`(xv 1)
|`(2#F)=>`(decide_eq_decide.mpr)
|`(2#G)=>`(mg_of X G)
|`(2#H)=>`(tOr (tTest (tOp (rI0 λi j => .bl 28#(i<=j)) 44#2 (tOp (rI0 λi j => .int (i+j)) 44#1 (tC 21#1)))) (tNot (tB (tBM K "str" rStartsAt 44#0 (tCons (tC (.str "](")) (tCons 44#2 tNil))))))
|`(2#I)=>`((aU jJ rfl (hp.same s2)).eq rfl)
|`(2#J)=>`(V.int (p:Int))
|`(2#K)=>`(c % 1000000007+1)
|`(2#L)=>`(Bool.eq_iff_iff)
|`(2#M)=>`(Inv X w9)
|`(2#N)=>`(TxB K mg c BT)
|`(2#O)=>`((aU bV rfl (hp.same ((0#Y).trans s4))).eq rfl)
|`(2#P)=>`(plainAttrs_str)
|`(2#Q)=>`(0#b 1 f fd)
|`(2#R)=>`(l18.mp)
|`(2#S)=>`({ s3 with heap:=s3.heap.push { cls := .type "slice",data := .fields #[vl,vu, .none] } })
|`(2#T)=>`(xcB aI T.u10 PySem.boot_len)
|`(2#U)=>`(xv 0)
|`(2#V)=>`(⟨(n:Int),2#u (λz=>[V.int z]) hn,by omega,by omega,?_⟩)
|`(2#W)=>`(upd (upd H6 L2 14#((v0::lr).drop 1)) u1 (.tup [V.str "table",v0, .ref Sd, .ref L2]))
|`(2#X)=>`(List.getElem?_drop)
|`(2#Y)=>`(cxOf CX P w K mg base N qual scope f)
|`(2#Z)=>`(xop af)
|`(3#a)=>`(X.env.kindOf x=some .cell ∨ X.env.kindOf x=some .free)
|`(3#b)=>`(List.getElem?_eq_none)
|`(3#c)=>`(foldedSetIterable iter X.env x)
local macro_rules
|`(3#d)=>`(⟨⟨xs,xs[i],sm.seq hx,by simp[hlt]⟩,λx H' y=>?_⟩)
|`(3#e)=>`(rLC k fr g tt te σ)
|`(3#f)=>`([91,94])
|`(3#g)=>`(⟨by unfold Asc;decide,by simp⟩)
|`(3#h)=>`(nfLe k fr σ σ2)
|`(3#i)=>`({ s with toks:=s.toks+1 })
|`(3#j)=>`((y0.map aN::(ss.map λs=>bf s k7)::yr.map (·.map aN)))
|`(3#k)=>`(⟨bg0,λX hX=>?_⟩)
|`(3#l)=>`(List.getElem?_append_left)
|`(3#m)=>`([126,126,126])
|`(3#n)=>`(a1.trans s3)
|`(3#o)=>`(ys.length)
|`(3#p)=>`(⟨λi m σ H=>m=0#E - i/\i<=0#E/\Pv i σ H,⟨0#E,by simp,l11 _,h0⟩,?_⟩)
|`(3#q)=>`(Same H0 H')
|`(3#r)=>`(wpAny_pure)
|`(3#s)=>`((aU cU rfl 68#(((0#Y).trans s4).trans s5)).eq rfl)
|`(3#t)=>`(I.ok.hd hc)
|`(3#u)=>`(r.drop (entR n r).2)
|`(3#v)=>`(w4.endLine==y9.line)
|`(3#w)=>`([some (V.ref a),2#y,x2,x3,none,none,none,none,none])
|`(3#x)=>`(a.length)
|`(3#y)=>`(X.s₀.heap.objs.size)
|`(3#z)=>`(assignEach es X.env)
|`(3#A)=>`(mg_none_of X G)
|`(3#B)=>`((aU b0 rfl hp).eq rfl)
|`(3#C)=>`((Obj.mapFields (·.setIfInBounds 3 x)))
|`(3#D)=>`(cV 0#u ev_c)
|`(3#E)=>`(2#h (2#h xint (xop bJ (xop bJ xint (2#E)) (2#E))) (xop bJ xint (2#E)))
|`(3#F)=>`(CompN X scope cl own fr N')
|`(3#G)=>`(⟨ok.mod,ok.kind,ok.glob,ok.blt,ok.above,ok.inj,ok.has,ok.cab,ok.hd,ok.frames,ok.stk,ok.exf,ok.bs,ok.bsz,ok.noex,ok.exfs,ok.funs,ok.frf⟩)
|`(3#H)=>`(λN hN=>?_)
|`(3#I)=>`(λ_ _ _ _ _ h=>h)
|`(3#J)=>`(name.length)
|`(3#K)=>`(⟨_,1#N _ rfl,rfl,rfl⟩)
|`(3#L)=>`((aU lE rfl 68#(0#Y)).eq rfl)
|`(3#M)=>`(.builtin id)
|`(3#N)=>`(.type "str")
|`(3#O)=>`(FnOk X.prog X.w X.K X.mg X.base CX k f fd ps sp)
|`(3#P)=>`(.builtin "type.__call__" ⟨.ref C::us,kw⟩)
|`(3#Q)=>`(Bool.true_and)
local macro_rules
|`(3#R)=>`(TxD K mg c BT)
|`(3#S)=>`(by rw[l5];omega)
|`(3#T)=>`(λw hw=>fu rx fx r fs w (by simpa using hw))
|`(3#U)=>`({ D with nx:=Pv (i+1),ct:=Pv (i+1),bk:=D.nx })
|`(3#V)=>`(bd X scope [] C own fp s H)
|`(3#W)=>`(show u=Value.ref a from rx)
|`(3#X)=>`({ s with heap:=h',toks:=t' })
|`(3#Y)=>`(upd (upd H1 x (.ins c.Table dx (putF "head" 11#r1 []))) p 14#sv)
|`(3#Z)=>`(σ=[some 21#(I:Int),some 21#(m:Int),some 11#Ln,some 11#Rw,some 21#(k:Int),some 11#Li,some (vS (be ys)),x7,x8,x9,a4,none,none])
|`(4#a)=>`(bigS hl)
|`(4#b)=>`(upd H)
|`(4#c)=>`(.type "method_descriptor")
|`(4#d)=>`(by simpa using h)
|`(4#e)=>`(λR' h=>⟨_,rfl,h⟩)
|`(4#f)=>`((aU gq rfl 68#((((0#Y).trans s4).trans s5).trans s6)).eq rfl)
|`(4#g)=>`(List.length)
|`(4#h)=>`(PySem.W.kia_one)
|`(4#i)=>`(l21.mp)
|`(4#j)=>`(s3.trans s4)
|`(4#k)=>`(s4 _ _)
|`(4#l)=>`(2#h (2#E) xint)
|`(4#m)=>`(env::outer)
|`(4#n)=>`(1#O t.f__law_entries)
|`(4#o)=>`(some u)
|`(4#p)=>`(.ins c.Table dx (putF "sides" 11#p (putF "head" 11#r1 [])))
|`(4#q)=>`(λG G' s h=>⟨h.1.same s,h.2.same s⟩)
|`(4#r)=>`(l11 _)
|`(4#s)=>`(NoAttr K)
|`(4#t)=>`(xix aH)
|`(4#u)=>`({ D with nx:=N,ct:=N,bk:=D.nx })
|`(4#v)=>`(⟨_,0#l nofun⟩)
|`(4#w)=>`(⟨decide (p < 1#n),λR k=>⟨_,rfl,_,rfl,_,rfl,bigS nofun,_,_,rfl,rfl,_,rfl,?_⟩,λhc H3 s3=>?_,λhc H3 s3=>?_⟩)
|`(4#x)=>`(.ins C dx fs)
|`(4#y)=>`(λb o hb e=>eb b o hb e)
|`(4#z)=>`(False.elim)
|`(4#A)=>`(MethV P w K mg base)
|`(4#B)=>`(s.heap.UpToSlots h')
|`(4#C)=>`(Def X.prog X.w X.K X.mg X.base k x ps sp)
|`(4#D)=>`(s5 _ _)
|`(4#E)=>`({ s with heap:=s.heap.push { cls := .type "range",data := .fields #[.int lo t, .int hi u, .int 1 v] },toks:=tk })
local macro_rules
|`(4#F)=>`(.tup (by rw[aD hp,ac]) (.cons (.str _ ∅ ∅) 34#g.dn))
|`(4#G)=>`(0#e " ")
|`(4#H)=>`(upd (4#b a (.lst [vS []])) b 14#(1#G (m - 2#g) (vS [])))
|`(4#I)=>`(TxI K mg c BT)
|`(4#J)=>`(w.length)
|`(4#K)=>`(⟨by simp,λz=>?_⟩)
|`(4#L)=>`(Same H)
|`(4#M)=>`(by rw[l15];omega)
|`(4#N)=>`(by simpa using e)
|`(4#O)=>`(ha pos w9 s σ H _ I h)
|`(4#P)=>`(upd H7 ou 14#(ws++[v]))
|`(4#Q)=>`(⟨_,rfl,_,_,rfl,rfl,0#q,_,_,rfl,rfl,show (0:Int) < 2 by omega,_,_,rfl,rfl,by decide,by omega,by omega,?_⟩)
|`(4#R)=>`(⟨bg2,λp hp=>⟨bg1,λl hl=>?_⟩⟩)
|`(4#S)=>`(⟨λb o e n hb hx=>?_,λb o e n hb hx=>?_,I.base.free,λb o e hx=>?_,I.base.tups,I.base.frzs,I.base.tbls⟩)
|`(4#T)=>`(⟨⟨xs,xs[i],q,by simp[hlt]⟩,Pv (i+1),λσ' H' p'=>⟨0#E - (i+1),by omega,rfl,hlt,p'⟩,λx H' y=>?_⟩)
|`(4#U)=>`(FnOk P w K mg base)
|`(4#V)=>`(List Env)
|`(4#W)=>`(decide_eq_true_iff)
|`(4#X)=>`(dif_same)
|`(4#Y)=>`(wpAny_mono)
|`(4#Z)=>`(Bl (n+1)×Nat×Nat)
|`(5#a)=>`(yss.map λys=>cg (bx m (ys.map aN)))
|`(5#b)=>`(MV P w K mg base)
|`(5#c)=>`(xun cJ xint)
|`(5#d)=>`(⟨_,rfl, .inl 33#e4,_,rfl,_,rfl,qp nofun nofun nofun ⟨l,_,_,rfl,rfl,e4,fit,_,rfl,_,_,rfl,rfl,?_⟩⟩)
|`(5#e)=>`(.builtin "isinstance")
|`(5#f)=>`(A.deeper (envOfC qual 55#st s.heap.objs.size f cdv))
|`(5#g)=>`(by rw[l15];exact l9 _)
|`(5#h)=>`(r::rs)
|`(5#i)=>`(4#b s.heap.objs.size)
|`(5#j)=>`(I.list hq)
|`(5#k)=>`(as.length)
|`(5#l)=>`(compareOp)
|`(5#m)=>`(some 21#i)
|`(5#n)=>`(us.length)
|`(5#o)=>`(bn (bn (bn (bF h) ∅) (bF k)) ∅)
|`(5#p)=>`(xb1 31#(2#h (2#E) (1#c 19#(xv 3))))
|`(5#q)=>`(by rintro⟨⟩)
|`(5#r)=>`(Fl X w9 σ H e T cls a0)
|`(5#s)=>`([some (vS t),some 2#J,some 70#((p+1+(k+1):Nat):Int),some 70#(bg:Int),some 70#((bg+a.length:Nat):Int)])
local macro_rules
|`(5#t)=>`(ini0 hy)
|`(5#u)=>`(y.length)
|`(5#v)=>`(aQ _ _ _ 0#h)
|`(5#w)=>`(bootBuiltins x)
|`(5#x)=>`(λH3 s3 _=>?_)
|`(5#y)=>`(λc=>?_)
|`(5#z)=>`(σ=[some 21#(I:Int),some 21#(q9:Int),some 21#(d:Int),some 11#TT,some 11#R,some 11#Sp,x6,x7,x8,x9])
|`(5#A)=>`(Bool.not_eq_true')
|`(5#B)=>`(Ev ta σ H)
|`(5#C)=>`(Loc X.env.scope x)
|`(5#D)=>`(["thing"])
|`(5#E)=>`(⟨decide (x.2.1=43),aT x.2.2,ew⟩)
|`(5#F)=>`(Around)
|`(5#G)=>`(List Stmt)
|`(5#H)=>`(ls.length)
|`(5#I)=>`(scope.names)
|`(5#J)=>`(some true)
|`(5#K)=>`(⟨_,rfl, .inl 33#a6,rfl,_,rfl,S [],sg,a1.map S,rfl,rfl,0#w (by rw[c1,l20];rfl),oR a1 nofun,?_⟩)
|`(5#L)=>`(closureFor scope X.env)
|`(5#M)=>`(xv 2)
|`(5#N)=>`((λ_ s2=>∃x H',2#M σ H' s2/\RelV x u/\J.yld i H x H'/\tn (i+1) s2.heap/\∀b∈fp,H' b=none))
|`(5#O)=>`(λ_ _ z=>1#o z)
|`(5#P)=>`(xm 2#P slot_str_find type_str_find)
|`(5#Q)=>`(λr s'=>r = .ok (.ret (.bool true))/\OldK s₁.heap s'.heap/\s'.os=s₁.os/\AllBare s'.gens)
|`(5#R)=>`((∀b∈fp,H' b=none))
|`(5#S)=>`([V.str (0#e ""),V.str (0#e "  ")])
|`(5#T)=>`(⟨?_,by rw[l6,h.len];rfl,by omega,λv hv=>?_⟩)
|`(5#U)=>`(Vals xs us)
|`(5#V)=>`(scope.names.lookup x.1)
|`(5#W)=>`(X.env.scope.names.lookup x)
|`(5#X)=>`(2#C es X.env)
|`(5#Y)=>`(V.str (Str.ofString ""))
|`(5#Z)=>`(if x=92/\takenC.contains y=true then _ else _)
|`(6#a)=>`(thn (h pos w9 s σ H _ I hq) λus s1 ⟨xs,H1,I1,r,z,q⟩=>⟨by rw[<- 1#m];exact z,?_⟩)
|`(6#b)=>`((·.map aN))
|`(6#c)=>`(σ=[some 21#(I:Int),some 21#(m:Int),some 11#Ln,some 11#Rw,x4,x5,x6,x7,x8,x9,a4,none,none])
|`(6#d)=>`(List.cons.inj)
|`(6#e)=>`(TxP K mg c BT)
|`(6#f)=>`(Txt.slice)
|`(6#g)=>`(X.N.Nodup)
local macro_rules
|`(6#h)=>`(vs.length)
|`(6#i)=>`(z.length)
|`(6#j)=>`(λ_ _ _ _ _ _=>b3 λ_ _ _=>rfl)
|`(6#k)=>`(xv 3)
|`(6#l)=>`(.tup [.int a4,vS [sg], .str (S 71#(wd::ms))])
|`(6#m)=>`(λt' k htk=>⟨.str _,H,I.tok _ htk,0#F,q⟩)
|`(6#n)=>`(List Qc)
|`(6#o)=>`(xop bW xstr)
|`(6#p)=>`(dn_S ⟨hn.a,by have:nm.length<=7:=(by rw[<- hn.s];unfold aR;rw[l4];exact e5);omega⟩)
|`(6#q)=>`([92,124])
|`(6#r)=>`((b5 hp).trans keep_upd)
|`(6#s)=>`(if k=f then (k,v)::r else (k,x)::putF f v r)
|`(6#t)=>`(m - 2#g)
|`(6#u)=>`(srtQ q r)
|`(6#v)=>`(thn 29#hi λv s1 h1=>thn h1 λitv s2 h2=>?_)
|`(6#w)=>`(⟨_,rfl,rfl,_,rfl,?_⟩)
|`(6#x)=>`(⟨rfl,λ_ _ _ z=>0#k⟩)
|`(6#y)=>`(.Call (.Attribute o "replace" w4) [.Constant 82#y jy py, .Constant 82#z jz pz] [] y9)
|`(6#z)=>`(es.length+([]:List Keyword).length+(if ([]:List Keyword).isEmpty then 0 else 1) < 30)
|`(6#A)=>`((λσ H Q=>to σ H λx H1=>∃w,x = .str w/\4#J<=1000000/\Q 82#(Txt.replace w y z) H1))
|`(6#B)=>`(xop bJ (2#h (xop aM (2#U) xint) xint) xint)
|`(6#C)=>`(0#f lv 61)
|`(6#D)=>`(Value.ref)
|`(6#E)=>`(a1.length)
|`(6#F)=>`(backTo pos)
|`(6#G)=>`(s.toks)
|`(6#H)=>`(takenC.contains c)
|`(6#I)=>`(spSortAt K)
|`(6#J)=>`(λ_ _=>rfl)
|`(6#K)=>`(λm σ H'=>σ=[2#f,some 21#(p:Int),some 21#((6 - 0:Nat):Int),2#y,none,none]/\H'=H1)
|`(6#L)=>`(σ=[2#f,some 21#((p+(entR n 67#p).2:Nat):Int),some 21#((6 - n:Nat):Int),2#y,x4,x5])
|`(6#M)=>`(Str×Addr)
|`(6#N)=>`(ps.zip us)
|`(6#O)=>`(⟨rfl,rfl⟩)
|`(6#P)=>`(⟨us,[]⟩)
|`(6#Q)=>`(Offs W)
|`(6#R)=>`(PyData.tuple)
|`(6#S)=>`(SqL K H a xs)
|`(6#T)=>`(h.elim)
|`(6#U)=>`(s.heap)
local macro_rules
|`(6#V)=>`(.tup xs)
|`(6#W)=>`(X.env.scope.kind == .class||(X.env.scope.kind == .module&&2#e != X.env.globals))
|`(6#X)=>`(by simp only[l30] <;> omega)
|`(6#Y)=>`(rI0 λi j => .bl 28#(i < j))
|`(6#Z)=>`(thn 29#ha λv s1 ⟨x,H1,I1,r1,q1⟩=>?_)
|`(7#a)=>`(FpOk X w9 H)
|`(7#b)=>`(List Nat)
|`(7#c)=>`(PySem.mem_of_lookup)
|`(7#d)=>`(X.stack)
|`(7#e)=>`([be y0,bb ss k7])
|`(7#f)=>`(ad hp _ _ _)
|`(7#g)=>`(beq_eq_false_iff_ne.mpr)
|`(7#h)=>`(cx 0#u ev_c)
|`(7#i)=>`(k _ _ 2#a e)
|`(7#j)=>`(l9 _)
|`(7#k)=>`(x.length)
|`(7#l)=>`(⟨_,rfl,_,rfl,4#a,_,_,rfl,rfl,_,rfl,?_⟩)
|`(7#m)=>`(St->Hp->Prop)
|`(7#n)=>`(binT ha hb I h λv u s2 x y H2 I2 rx ry q=>ho w9 s2 σ H2 x y v u Q I2 rx ry q)
|`(7#o)=>`(λ_ _=>False)
|`(7#p)=>`([93,58,32])
|`(7#q)=>`(((1:Int)==1&&(strSliceIndices (l.map (·.1)) (u.map (·.1)) 1 6#i).length==6#i))
|`(7#r)=>`(by unfold rdF;rw[hs])
|`(7#s)=>`(Array.getElem?_eq_some_iff.mp)
|`(7#t)=>`(nomatch e)
|`(7#u)=>`(.Try body [.ExceptHandler 23#(.Name x np) 23#n (b₀::suite) hpos] [] [] pos)
|`(7#v)=>`(letOwnedTupleGo tg 11#it u)
|`(7#w)=>`(r::rs.drop (p+1))
|`(7#x)=>`(Same H' H4)
|`(7#y)=>`(Txt.stripChars)
|`(7#z)=>`(a1.toArray)
|`(7#A)=>`(spTB c R fB ok)
|`(7#B)=>`(⟨bg0,λl hl=>⟨p,l,xs,rfl,rfl,(ad hl _).seq hx,0#w ac,_,rfl,k _ 46#hl⟩⟩)
|`(7#C)=>`(iS (xs:=1#t) ⟨rfl,trivial⟩ 2#z ∅)
|`(7#D)=>`(Heap.get?_update_other)
|`(7#E)=>`(List PC)
|`(7#F)=>`(bj true)
|`(7#G)=>`(⟨_,rfl,rfl,_,_,rfl,rfl,4#a,_,rfl,?_⟩)
|`(7#H)=>`(List.getElem?_eq_none_iff.mp)
|`(7#I)=>`(PassesOwn 0#j X.A X.env X.xe)
local macro_rules
|`(7#J)=>`(X.calm)
|`(7#K)=>`(nameSigns.contains)
|`(7#L)=>`(⟨_,rfl,_,_,rfl,rfl,L a [32,61,32,62,32,124,32,45,32,43,32] nofun ∅,?_⟩)
|`(7#M)=>`(("_law_number",0#g+1))
|`(7#N)=>`((l.take hi).drop lo)
|`(7#O)=>`(by show 1<=_;decide)
|`(7#P)=>`(ms++(R++X))
|`(7#Q)=>`([some (vS t),some 2#J,some 70#((p:Int)+2),some 70#((p+2+a.length:Nat):Int)])
|`(7#R)=>`(XE X)
|`(7#S)=>`({ s with heap:=(s.heap.push emptyDict).push (instObj C s.heap.objs.size) })
|`(7#T)=>`((aU mU rfl 68#(((((0#Y).trans s4).trans s5).trans s6).trans s7)).eq rfl)
|`(7#U)=>`(.builtin "getset_descriptor.__get__")
|`(7#V)=>`(by rw[l6];omega)
|`(7#W)=>`(kia_one (jB k) I.kIn p hk 2#B λtk htk=>⟨.bl b,H,I.tok _ htk,rfl,q⟩)
|`(7#X)=>`(Array Value)
|`(7#Y)=>`(Bool.or_eq_true)
|`(7#Z)=>`(HOk P w H h)
|`(8#a)=>`(I.base.there b o e hx)
|`(8#b)=>`(NewQ.join)
|`(8#c)=>`(a1.toArray.size)
|`(8#d)=>`(l.reverse.takeWhile p)
|`(8#e)=>`(mainGlobals)
|`(8#f)=>`(s.heap.push emptyDict)
|`(8#g)=>`(s3 _ _)
|`(8#h)=>`(sp vs H Q E)
|`(8#i)=>`(wpAny_passesOwn)
|`(8#j)=>`(xm 2#P slot_str_split type_str_split jx)
|`(8#k)=>`(⟨k,2#G e⟩)
|`(8#l)=>`(H' R=some 14#(rs.map vS))
|`(8#m)=>`(λb=>b=D ∨ H0 b≠none)
|`(8#n)=>`((∀x c,1#R=some c->c≠b))
|`(8#o)=>`(3#f++name++[93,58,32]++bls m++loose)
|`(8#p)=>`(thn 4#O λus s1 ⟨vs,H1,I1,r1,q1⟩=>hc w9 s1 σ H1 vs us Q I1 r1 q1)
|`(8#q)=>`(λx hx=>hp x 38#hx)
|`(8#r)=>`(σ=[5#m,some 21#(d:Int),some 11#T0,some 11#R,some 11#Sp,2#y,x6,x7,x8])
|`(8#s)=>`(2#C 1#Y X.env)
|`(8#t)=>`(2#M σ' H' s')
|`(8#u)=>`(own.length)
|`(8#v)=>`(rs'.length)
|`(8#w)=>`(wpAny_truthy_bool)
local macro_rules
|`(8#x)=>`(⟨λz=>dt 102#z,λz=>by rw[z];rfl⟩)
|`(8#y)=>`(PE X)
|`(8#z)=>`(.Call 87#name 1#Y [] y9)
|`(8#A)=>`(.Compare a [op] [b] pos)
|`(8#B)=>`(by rw[h.len];exact h.le)
|`(8#C)=>`(by rw[h.len];exact l9 _)
|`(8#D)=>`(l35 _ (l35 _ (dZ hb e)))
|`(8#E)=>`(show (0:Int) < 2147483647 by omega)
|`(8#F)=>`(show (2147483647:Int)≠0 by omega)
|`(8#G)=>`(show false=true from fx)
|`(8#H)=>`(spInitVL c.Heading "level" "parts")
|`(8#I)=>`(upd H8 u 0#J)
|`(8#J)=>`(λ_=>?_)
|`(8#K)=>`(b6 l.length l.length)
|`(8#L)=>`(s _ _)
|`(8#M)=>`(fW (bL (xcB gD T.u11 rfl 17#(xac (xty (T:="str") T.g11 rfl) xa0))))
|`(8#N)=>`(freeC 99#(k+1))
|`(8#O)=>`((ls.getD 1 []).map isR++0#f (bU ls - (ls.getD 1 []).length) false)
|`(8#P)=>`(.Assign [.Name x pos'] 25#tg spos)
|`(8#Q)=>`(.tup [V.ref T0, .ref p1, .ref p2])
|`(8#R)=>`(by simpa using hi)
|`(8#S)=>`((·.length))
|`(8#T)=>`(λcdv A outer s H vs Q E hr h=>?_)
|`(8#U)=>`(σ=[2#f,some 21#(p':Int),some 21#((6 - (j+1):Nat):Int),2#y,x4,x5])
|`(8#V)=>`(HOk X.prog X.w)
|`(8#W)=>`(hideAll s.heap)
|`(8#X)=>`(wpAny M A)
|`(8#Y)=>`(⟨_,rfl,_,rfl,_,rfl,l,rs,i,d,rfl,s1 _ _ el,hok,λp H2 s2 hp=>?_⟩)
|`(8#Z)=>`(callWith_type1 (thn 4#O λus s1 ⟨vs,H1,I1,r1,q1⟩=>?_) hs rfl)
|`(9#a)=>`(List Itm)
|`(9#b)=>`(p x0 x1 x2 x3 x4)
|`(9#c)=>`(typeIs_str _ _ _)
|`(9#d)=>`([91]++name++[93,58,32]++bls m++t)
|`(9#e)=>`(spInit2 c.Naming "name" "target")
|`(9#f)=>`(spInitVL c.Noting "name" "parts")
|`(9#g)=>`(List.getElem?_range)
|`(9#h)=>`(s4.trans s5)
|`(9#i)=>`(s6.trans s7)
|`(9#j)=>`(⟨_,rfl,rfl,_,_,rfl,rfl,4#a,?_⟩)
|`(9#k)=>`(entF 159#j)
local macro_rules
|`(9#l)=>`(some 14#xs)
|`(9#m)=>`(t σ H)
|`(9#n)=>`(xsl bH)
|`(9#o)=>`(⟨_,rfl,_,_,rfl,rfl,show (0:Int) < 3 by omega,_,_,rfl,rfl,?_⟩)
|`(9#p)=>`(.cons (z2.same (bE a3 _)) 34#y2)
|`(9#q)=>`(0#g+1)
|`(9#r)=>`(CXr P w)
|`(9#s)=>`(aR name)
|`(9#t)=>`(sm.trans s4)
|`(9#u)=>`(tt.eq (by rw[hn];rfl))
|`(9#v)=>`(x.2.1=43 ∨ x.2.1=45)
|`(9#w)=>`(λH0 s0 c=>?_)
|`(9#x)=>`(λσ H p s hσ hp=>?_)
|`(9#y)=>`(MIn K)
|`(9#z)=>`(["bare"])
|`(9#A)=>`([.ref a])
|`(9#B)=>`(⟨y,dx,_,rfl,ac,rfl,pr,_,_,rfl,rfl,k2,by rw[l4,hs];omega,?_⟩)
|`(9#C)=>`(match a1[p']? with |none=>false |some x=>decide (6 - n<=x.1))
|`(9#D)=>`((p:Int) < ((t.length:Nat):Int))
|`(9#E)=>`(0#K 11#C)
|`(9#F)=>`(2#Z xstr)
|`(9#G)=>`(2#h xint)
|`(9#H)=>`(2#k x qual st f fd)
|`(9#I)=>`(FuncData)
|`(9#J)=>`(NewQ H W H' R)
|`(9#K)=>`(Same H0 H)
|`(9#L)=>`(String)
|`(9#M)=>`(Txt.lstripChars)
|`(9#N)=>`(Txt.mul)
|`(9#O)=>`(X.mg x)
|`(9#P)=>`(bP z1 hl 34#z2 7#O)
|`(9#Q)=>`(behindInMarks op b)
|`(9#R)=>`(sm.seq hx)
|`(9#S)=>`(wpAny 52#prog A)
|`(9#T)=>`(wpAny_Call_Name_kw)
|`(9#U)=>`(wpAny_execs_nil)
|`(9#V)=>`(⟨_,rfl,_,_,rfl,rfl,_,rfl,?_⟩)
|`(9#W)=>`((((((0#Y).trans s4).trans s5).trans s6).trans s7).trans s8)
|`(9#X)=>`(.Call 87#m [] [] pos)
|`(9#Y)=>`(σ=[some 128#a,2#y,x2,x3,some 11#Tx,some 11#Hd,x6,x7,none])
local macro_rules
|`(9#Z)=>`(⟨.bl _,H,I,rfl,?_⟩)
|`(0#aa)=>`(⟨_,rfl,_,rfl,_,rfl,l,rs,i,d,rfl,el,hok,λp H1 s1 hp=>?_⟩)
|`(0#ab)=>`(rP 0#u ev_c rfl)
|`(0#ac)=>`(spTolds c.cp R2)
|`(0#ad)=>`(⟨by omega,?_⟩)
|`(0#ae)=>`(⟨dx,l,8#L e,gx _ _ _ _ s k⟩)
|`(0#af)=>`(σ=[some 128#a,2#y,x2,x3,some 11#Tx,none,none,none,none])
|`(0#ag)=>`(Room k)
|`(0#ah)=>`([2#f,some 21#(p':Int),some 21#((6 - n:Nat):Int),2#y,x4,x5])
|`(0#ai)=>`((z::ys).map Lm.escC)
|`(0#aj)=>`(.Assign [.Name x pos'] e pos)
|`(0#ak)=>`(.UnaryOp .Not a pos)
|`(0#al)=>`(by show 2<=_;decide)
|`(0#am)=>`(b∈X.ex ∨ 3#y<=b)
|`(0#an)=>`(fnOf name qual params body scope dV kV doc pm an cdv ct)
|`(0#ao)=>`(occurrences (S l) 140#c 0 (S l).length ((S l).length+1))
|`(0#ap)=>`(xcd DC hr (xac (2#U) 19#(2#h (xop bJ xint (5#M)) xint)))
|`(0#aq)=>`(upd H4 pr 14#(2#s++[.ref y]))
|`(0#ar)=>`(upd H7 TT 14#(tv++[.ref av]))
|`(0#as)=>`(λb o e=>kp b o ?_ (0#H _ e))
|`(0#au)=>`([5#m,some 21#(d:Int),none,none,none,none,none,none,none])
|`(0#av)=>`(attributeBase o name X.env 64#o)
|`(0#aw)=>`(swapsWith e none pos.line X.env)
|`(0#ax)=>`(⟨⟨xs,q,7#j⟩,hd σ H p⟩)
|`(0#ay)=>`(HT.sIx xs.length xs.length hi - HT.sIx xs.length 0 lo)
|`(0#az)=>`([V.str "para", .str "list", .str "table", .str "quote"])
|`(0#aA)=>`(l27 90#(I.ok.cab x c a3 hc))
|`(0#aB)=>`(spInitL c.Listing "entries")
|`(0#aC)=>`(Env0 P w K mg base A outer s H)
|`(0#aD)=>`([some (vS t),some 70#(i:Int)])
|`(0#aE)=>`(sc.names.lookup x)
|`(0#aF)=>`(wpAny_pyIter_list)
|`(0#aG)=>`(⟨ap (ap (ap (ap aa 1#C) ba) 1#C) da,by simp;omega⟩)
|`(0#aH)=>`(thn 4#O λus s1 ⟨vs,H1,I1,r,q⟩=>⟨I1.kIn,?_⟩)
|`(0#aI)=>`((ad hA 124#(0#e "")).trans (ad f0 14#(1#G c0 5#Y)))
|`(0#aJ)=>`(.Subscript o i pos)
|`(0#aK)=>`(.type "object")
|`(0#aL)=>`(Bool->Hp->Prop)
|`(0#aM)=>`(I1.hok.fresh (7#j))
|`(0#aN)=>`(b9 r 23#(inn++[_]))
local macro_rules
|`(0#aO)=>`(bi (2#U) (2#E))
|`(0#aP)=>`(frs 7#d++[e,T])
|`(0#aQ)=>`(spPartsOf c.cp)
|`(0#aR)=>`(start N vs)
|`(0#aS)=>`(λ_ _ _ _ _ _ _ _ _ _ h=>h)
|`(0#aT)=>`(Slot T name id)
|`(0#aU)=>`(cxOf 9#r P w K mg base N qual)
|`(0#aV)=>`(⟨.int 3#o,H,I.tok _,⟨6#G+1,by rw[l30,w6]⟩,q⟩)
|`(0#aW)=>`(⟨4#r,λ_ z=>0#k⟩)
|`(0#aX)=>`(.Raise 23#(.Call 61#np (e0::rest) [] y9) none pos)
|`(0#aY)=>`(match f 6#u with |some x=>x::tkW f q rs |none=>[])
|`(0#aZ)=>`(4#b X 0#y X)
|`(0#ba)=>`(Txt.replace)
|`(0#bb)=>`(s0.trans s1)
|`(0#bc)=>`(V.str ⟨#[l.getD (i - 1) 0]⟩=V.str (0#e "\\"))
|`(0#bd)=>`(show p∈([]:1#H) from hp)
|`(0#be)=>`(spInitL c.Literal "lines")
|`(0#bf)=>`(xmA (2#E) 10#(xnew DN hr.mono 19#(0#M 35#(5#M))))
|`(0#bg)=>`(0#b k f fd ps sp)
|`(0#bh)=>`(Bool.or_eq_false_iff)
|`(0#bi)=>`(I.tuple hq)
|`(0#bj)=>`(List.getElem?_set_ne)
|`(0#bk)=>`(PA X 1#Y t)
|`(0#bl)=>`(Tells t σ H)
|`(0#bm)=>`(hidT s₁.heap H)
|`(0#bn)=>`(pre.length)
|`(0#bo)=>`(t.getD p 0)
|`(0#bp)=>`(ts.map V.ref)
|`(0#bq)=>`(⟨_,_,rfl,rfl,by rw[aw,aw,hs,bls,l23];omega,?_⟩)
|`(0#br)=>`(2#K * 48271)
|`(0#bs)=>`(I.hok.fresh (7#j))
|`(0#bt)=>`(by simpa using hu)
|`(0#bu)=>`(some [])
|`(0#bv)=>`(tOp (rIxT K) (tOp (rIxL K) 44#0 44#1) (tC 21#0))
|`(0#bw)=>`(.type (tyD d))
|`(0#bx)=>`([32,45]++0#f (k7+1) 60#b)
|`(0#bz)=>`(bL (xcd Dg hr 10#(9#n (2#U) 93#xint 93#(2#E))))
|`(0#bA)=>`(by rw[bB W.ne];exact W.l)
|`(0#bB)=>`(by rw[q];simp)
|`(0#bC)=>`(iS (xs:=["columns"]) ⟨rfl,trivial⟩ 2#z ∅)
local macro_rules
|`(0#bD)=>`(m - t1.length)
|`(0#bE)=>`(x==("__classdict__":Str))
|`(0#bF)=>`((∀l∈ls,bT (aL l)≠bV))
|`(0#bG)=>`(⟨_,_,rfl,rfl,L (a++[32]++b) [32] 0#G ∅,?_⟩)
|`(0#bH)=>`((r0::7#P).drop (1+(bQ true (r0::7#P)).length))
|`(0#bI)=>`(by rcases hr r l7 with z |z <;> rw[z] <;> rfl)
|`(0#bJ)=>`(1#O t.f__law_blocks)
|`(0#bK)=>`(NewQ.triv)
|`(0#bL)=>`(PyProof.Rows.envOfC)
|`(0#bM)=>`(ad hX 0#y)
|`(0#bN)=>`(beq_iff_eq.mp)
|`(0#bO)=>`(h x 38#hx)
|`(0#bP)=>`(hf it 0#h)
|`(0#bQ)=>`(some 23#v)
|`(0#bR)=>`(srtQ true)
|`(0#bS)=>`({ s with heap:=h',gens:=g',drawn:=d',toks:=t' })
|`(0#bT)=>`(⟨U,_,rfl,2#m ac,rfl,_,_,rfl,_,_,rfl,rfl,?_⟩)
|`(0#bU)=>`(bls (k+1)++loose)
|`(0#bV)=>`(by rw[I.ok.glob];exact I.mod.glob.keeps I.bk)
|`(0#bW)=>`(dj nofun)
|`(0#bX)=>`(tBM X.K T r to t)
|`(0#bY)=>`(List Atm)
|`(0#bZ)=>`(NewQ.upd)
|`(0#ca)=>`(X.env.scope.names.lookup n)
|`(0#cb)=>`(occurrences z y 0 z.length)
|`(0#cc)=>`(partsBetween_eq)
|`(0#cd)=>`(xfor 1#x)
|`(0#ce)=>`(⟨rfl,_,rfl,?_⟩)
|`(0#cf)=>`(.tup [.ref a, .int p, .int ((p+n:Nat):Int)])
|`(0#cg)=>`(t_or true false (7#h (by rfl)) (λz=>1#o z))
|`(0#ch)=>`(thn 29#ho λv s1 ⟨x,H1,I1,r1,ty,q1⟩=>?_)
|`(0#ci)=>`((∀v H4,7#x->Dn (dif H' H4) v (f i)->C v H4))
|`(0#cj)=>`(⟨λh e=>h (by rw[e]),λh e=>h (dt 102#e)⟩)
|`(0#ck)=>`((a1.drop (p'+1)).drop (entR j 67#(p'+1)).2)
|`(0#cl)=>`((rs.drop p').drop (1+(bQ qq 30#p').length))
|`(0#cm)=>`(.lst [V.ref t0, .ref t1, .ref t2, .ref t3])
|`(0#cn)=>`(.tup [V.ref BN, .ref BT, .ref BW, .ref OP])
|`(0#co)=>`(1#P (aF t))
|`(0#cp)=>`(I.base.free b o e n hx)
|`(0#cq)=>`(It->Hp->Prop)
local macro_rules
|`(0#cr)=>`(Offs 109#Li H' vs (ys.map λy=>dCl (aN y)))
|`(0#cs)=>`(Pc×List Nat)
|`(0#ct)=>`(a++[32])
|`(0#cu)=>`(aB pY (xix dg (2#U) (2#E) 0#n) xstr (ak _))
|`(0#cv)=>`(by show 0+1#m<=m;omega)
|`(0#cw)=>`(fun R r => ⟨_, rfl, _, _, rfl, rfl, r⟩)
|`(0#cx)=>`(l.drop (p+3))
|`(0#cy)=>`(spInitL c.Para "parts")
|`(0#cz)=>`(x::y::r)
|`(0#cA)=>`(xir1 rfl T.q10 10#xint)
|`(0#cB)=>`((∀b∈fp,∀o,h.get? b=1#T->h'.get? b=1#T))
|`(0#cC)=>`(1#O t.f__law_block)
|`(0#cD)=>`(1#O t.f__law_quote)
|`(0#cE)=>`(Binds X.K fd ps ds)
|`(0#cF)=>`(DefR P w K mg base)
|`(0#cG)=>`(I.base.slot b o e n hb hx)
|`(0#cH)=>`(I.pin p hp)
|`(0#cI)=>`(Obj.data_mapFields)
|`(0#cJ)=>`(Off W H v d)
|`(0#cK)=>`(Option Addr)
|`(0#cL)=>`(Tr h e T cls a0 fl)
|`(0#cM)=>`(XA X 1#Y t)
|`(0#cN)=>`(["_law_text","_law_due"])
|`(0#cO)=>`(["parts"])
|`(0#cP)=>`([.int 0, .int 1, .int 0])
|`(0#cQ)=>`(hn.same s4)
|`(0#cR)=>`(inn.length)
|`(0#cS)=>`(some 14#vs)
|`(0#cT)=>`(t.getD i 0)
|`(0#cU)=>`(⟨pre++[c6 (p+1) (nxtC 66#(p+1))],5#T,?_⟩)
|`(0#cV)=>`((p,w)::P.zip vs)
|`(0#cW)=>`(.builtin "BaseException.__getattribute__")
|`(0#cX)=>`(.tup [V.str "table",v0, .ref Sd, .ref L2])
|`(0#cY)=>`(PyData.strOk k&&decide (k.length<=100000))
|`(0#cZ)=>`(a++[32,91]++b++[32]++d++[93,40]++gr++[41])
|`(0#da)=>`(by rw[hh];omega)
|`(0#db)=>`(t++bls (k+1)++w)
|`(0#dc)=>`(xcd Dk hr 19#(9#n (2#U) 93#xint 93#(2#E)))
|`(0#dd)=>`(λ_ _ _ _=>(xcd Dp hr 17#(xac (2#E) xa0)))
|`(0#de)=>`(λx1 x2=>x1++x2)
local macro_rules
|`(0#df)=>`((∀b∈fp,7#a b))
|`(0#dg)=>`((∃m,W 0 m σ H))
|`(0#dh)=>`(⟨f,_,ok f _ F1,2#G a,F1.kp,F1.binds hb⟩)
|`(0#di)=>`(2#Y cdv A outer s H E)
|`(0#dj)=>`(show 6#E - (p'+1+en) < 6#E - p' by omega)
|`(0#dk)=>`(thn 29#he λv s1 ⟨x,H1,I1,r1,q1⟩=>?_)
|`(0#dl)=>`(xix fX (2#U) xint 0#n)
|`(0#dm)=>`(λH p s a _ hp ha=>?_)
|`(0#dn)=>`(7#R e te)
|`(0#dp)=>`(Bool.and_false)
|`(0#dq)=>`(Fl X w9 σ H e T' cls a0)
|`(0#dr)=>`(Heap.SameBut)
|`(0#ds)=>`(I.cell x c e)
|`(0#dt)=>`(List 6#M)
|`(0#du)=>`(Lm.escC y)
|`(0#dv)=>`(PlainAttrs T)
|`(0#dw)=>`(QsAt c H vs ps)
|`(0#dx)=>`(RelV v u)
|`(0#dy)=>`(RelV x v)
|`(0#dz)=>`(binaryOp)
|`(0#dA)=>`(h.update T 3#C)
|`(0#dB)=>`(p.length)
|`(0#dC)=>`(r'.length)
|`(0#dD)=>`(sliceBounds lo hi none n)
|`(0#dE)=>`(⟨σ',H',I.unwish,q⟩)
|`(0#dF)=>`((keep_upd.trans (b5 hp)).trans keep_upd)
|`(0#dG)=>`(.Assign [.Attribute o f pos'] value pos)
|`(0#dH)=>`(.Subscript e (.Slice lo hi none p2) pos)
|`(0#dI)=>`(rI (λ_ j=>0 < j) λi j => .int (i % j))
|`(0#dJ)=>`(xlst 19#(xtup (1#p 35#(2#Z 1#S (6#k)))))
|`(0#dK)=>`(NewQ G0)
|`(0#dL)=>`(ObjOk P w H h a o)
|`(0#dM)=>`(bindArgs 32#x 6#P)
|`(0#dN)=>`(s.heap.IsCell c v)
|`(0#dO)=>`(⟨_,rfl,nofun,λH3 s3=>⟨_,rfl,?_⟩⟩)
|`(0#dP)=>`(⟨by simpa using h1,by simpa using h2⟩)
|`(0#dQ)=>`(⟨by simpa using h1,by simpa using hp⟩)
|`(0#dR)=>`(.Call (.Name "enumerate" p) [l] [] pos)
|`(0#dS)=>`(.Constant 21#i j pos)
|`(0#dT)=>`(.inr rfl)
local macro_rules
|`(0#dU)=>`(1+ms.length)
|`(0#dV)=>`(3 - (d+1)+1)
|`(0#dW)=>`(Str×V)
|`(0#dX)=>`(a++[32,61,32,62,32,124,32,45,32,43,32])
|`(0#dY)=>`(eqU x)
|`(0#dZ)=>`(name++41::r)
|`(0#ea)=>`(nxtC r)
|`(0#eb)=>`(upd 4#H L 14#((ts++1#G 6#t []).map vS))
|`(0#ec)=>`(λG G' s h=>h.mono λa x=>mt _ _ _ _ s)
|`(0#ed)=>`(λH5 s5 hc=>?_)
|`(0#ee)=>`(λz=>hc (by simp[z]))
|`(0#ef)=>`((∀g∈gs,tV g.1 g.2))
|`(0#eg)=>`(Int.mul_le_mul h1 h1 h0)
|`(0#eh)=>`(PySem.W.specialIn K 2#i)
|`(0#ei)=>`(["pieces"])
|`(0#ej)=>`(["row"])
|`(0#ek)=>`([some (vS t),2#f,some 21#(t.length:Nat)])
|`(0#el)=>`(⟨(2:Int),rfl,by decide,by decide,?_⟩)
|`(0#em)=>`(⟨a,b,rfl⟩)
|`(0#en)=>`(⟨xs,9#R,7#j⟩)
|`(0#eo)=>`(.tup [.ref a, .int x.2.1, .int x.2.2])
|`(0#ep)=>`(aC q hn)
|`(0#eq)=>`(pr::sg::W)
|`(0#er)=>`(List 0#dW)
|`(0#es)=>`(rS2 λz y => .bl (Txt.startswith z y))
|`(0#et)=>`(sg++[l])
|`(0#eu)=>`(show x∈bw sg++p::mgGo [] qs from hx)
|`(0#ev)=>`(tC 82#y)
|`(0#ew)=>`(thn (ha w9 s σ H Q I h) λc s1 e=>?_)
|`(0#ex)=>`(λd=>?_)
|`(0#ey)=>`(λh' c' kp e=>fin a1 r' hz h' c' kp e)
|`(0#ez)=>`(λi=>dP (ps.getD i (.one (.note ""))))
|`(0#eA)=>`(σ'=[some (vS t),2#f,some 21#(p:Nat)])
|`(0#eB)=>`(["_law_j","_law_letters","_law_number"])
|`(0#eC)=>`(["cells"])
|`(0#eD)=>`(["entries"])
|`(0#eE)=>`([some (vS t),2#f,some 21#((0:Nat):Int)])
|`(0#eF)=>`(⟨_,rfl,_,_,rfl,rfl,bg2,λtp a3=>?_⟩)
|`(0#eG)=>`(⟨bg1,λr d5=>⟨bg2,λu2 a9=>?_⟩⟩)
|`(0#eH)=>`(((b7 r).or (bO r)).getD (.sign 91,r))
local macro_rules
|`(0#eI)=>`(((b7 t).or (bO t)).getD (.sign 91,t))
|`(0#eJ)=>`(1#p 19#(xfld (2#U)))
|`(0#eK)=>`(bd X scope cl H2.objs.size N' fp s H)
|`(0#eL)=>`(setFlight 11#e none)
|`(0#eM)=>`(xgt rfl (xgsc 27#6 (xgsc 27#7 xgs0)))
|`(0#eN)=>`(λc=>decide (c < 128/\c≠10/\c≠9))
|`(0#eO)=>`(λj h1 _=>0#A h1 (Nat.not_lt_zero _))
|`(0#eP)=>`(7#R a ta)
|`(0#eQ)=>`(8#y a ta)
|`(0#eR)=>`(DnAll H vs ds)
|`(0#eS)=>`(ObjOk X.prog X.w)
|`(0#eT)=>`(Option Knd)
|`(0#eU)=>`(PCs c H as ps)
|`(0#eV)=>`(PySem.W.mroIn K C 0#aK)
|`(0#eW)=>`(SqL K H0 a xs)
|`(0#eX)=>`(True.intro)
|`(0#eY)=>`(["rows","place","deep","words","sort"])
|`(0#eZ)=>`([2#f,some 21#d,2#y,some 21#(p:Int),x4])
|`(0#fa)=>`(call_meets)
|`(0#fb)=>`(decide_eq_decide)
|`(0#fc)=>`(h.FunFrames base stack)
|`(0#fd)=>`(h.same s)
|`(0#fe)=>`(h1.snoc h2)
|`(0#ff)=>`(hf b hb)
|`(0#fg)=>`(its.length)
|`(0#fh)=>`(keepIn K 11#f)
|`(0#fi)=>`(l.drop i)
|`(0#fj)=>`(pre.take n)
|`(0#fk)=>`(raw.length)
|`(0#fl)=>`(some 4#x)
|`(0#fm)=>`(some v0)
|`(0#fn)=>`(tSeq a2 T3)
|`(0#fo)=>`(tb 4#u σ2 H2)
|`(0#fp)=>`(tkW f q rs)
|`(0#fq)=>`(⟨k' - 1,by omega⟩)
|`(0#fr)=>`(⟨o,0#H _ e,c,n,d⟩)
|`(0#fs)=>`(⟨o,e,λv z=>by rw[d] at z;cases z⟩)
|`(0#ft)=>`(6#Q H' tv (L.map λx=>dB (n+1) x.1))
|`(0#fu)=>`(H' Rw=some 14#((yss.map be).map vS))
|`(0#fv)=>`(a++[32,91]++b++[32]++d++[93,40]++gr)
local macro_rules
|`(0#fw)=>`(by intro z;rw[z.1,z.2] at c;cases c)
|`(0#fx)=>`(cT ((b.drop 1).take (b.length - 2)))
|`(0#fy)=>`(qs.drop (i+1))
|`(0#fz)=>`(thn 29#ha λc s1 ⟨H1,I1,q1⟩=>?_)
|`(0#fA)=>`(thn 29#hc λd s1 ⟨H1,I1,q1⟩=>?_)
|`(0#fB)=>`(σ.set i 23#v)
|`(0#fC)=>`(σ.set i none)
|`(0#fD)=>`(1#O t.q13)
|`(0#fE)=>`(PyData.list)
|`(0#fF)=>`(S nameSigns)
|`(0#fG)=>`(Sem Value)
|`(0#fH)=>`(SrtAt K H p)
|`(0#fI)=>`(Vals xs its)
|`(0#fJ)=>`(Value.int)
|`(0#fK)=>`(["_law_triple"])
|`(0#fL)=>`([("head", .ref r1),("sides", .ref p)])
|`(0#fM)=>`(a3.trans s3)
|`(0#fN)=>`(hideAll_get)
|`(0#fO)=>`(its.toArray)
|`(0#fP)=>`(l52.mp hx)
|`(0#fQ)=>`(ns.getD i 0)
|`(0#fR)=>`(s5.trans s6)
|`(0#fS)=>`(some 11#C)
|`(0#fT)=>`(ts.map vS)
|`(0#fU)=>`(wsGo 23#inn)
|`(0#fV)=>`(yss.map 6#b)
|`(0#fW)=>`((0#bb).trans 46#a2)
|`(0#fX)=>`(.Attribute e f pos)
|`(0#fY)=>`(.Call (.Name "range" p) [a] [] pos)
|`(0#fZ)=>`(.str "__class__" t)
|`(0#ga)=>`(1#p 19#(xcd Dd hr 35#(xfld (2#U))))
|`(0#gb)=>`(2#C es env)
|`(0#gc)=>`(L.map λx=>dSp x.2)
|`(0#gd)=>`(Or.inr rfl)
|`(0#ge)=>`(Str×Value)
|`(0#gf)=>`(by rw[<- l19,bB hn];exact dW hw hn)
|`(0#gg)=>`(by rw[c8 ∅];simp)
|`(0#gh)=>`(cx 0#u 43#s' (by rw[l4,0#D nofun]))
|`(0#gi)=>`(cx 0#u 43#s' (by rw[l4,1#f nofun]))
|`(0#gj)=>`(f 123#i (.int j u))
local macro_rules
|`(0#gk)=>`((∀x∈xs,x.2.1<=1))
|`(0#gl)=>`(ObjM s.heap x dx C mA)
|`(0#gm)=>`(PySem.W.takesIn K 2#i)
|`(0#gn)=>`(["_law_k","_law_some","_law_number"])
|`(0#go)=>`(l.reverse.dropWhile p)
|`(0#gp)=>`(s7 _ _)
|`(0#gq)=>`(⟨0#E,by simp,4#r,ad hD _,ac,rfl⟩)
|`(0#gr)=>`(⟨7#j,λ_ z=>0#k⟩)
|`(0#gs)=>`(⟨_,rfl,_,rfl,by rw[aw];omega,?_⟩)
|`(0#gt)=>`((tE "[" 91 _ H4 rfl).eq (0#D ∅))
|`(0#gu)=>`(bL (xcd Dm hr 17#(xac (5#M) xa0)))
|`(0#gv)=>`(show q∈Qc.txt [42]::inn from hq)
|`(0#gw)=>`(λi=>((bs[i]?).map fB).getD .none)
|`(0#gx)=>`((∀H3,Same H' H3->p x=false->N H3))
|`(0#gy)=>`(2#k x x st f fd)
|`(0#gz)=>`(4#X _ _)
|`(0#gA)=>`(ForInStep.yield)
|`(0#gB)=>`(Lw.nameAt 41 r2)
|`(0#gC)=>`(Option NameKind)
|`(0#gD)=>`(PcsAt c H vs ps)
|`(0#gE)=>`(XI X tg iter wi)
|`(0#gF)=>`(lvl x0.1 pv x.1)
|`(0#gG)=>`(s7.trans 161#s9)
|`(0#gH)=>`(ta σ H)
|`(0#gI)=>`(⟨_,show h.get? a=some _ from x⟩)
set_option hygiene true
set_option hygiene false
local macro_rules
|`(tactic|show 0)=>`(tactic|(refine F.oks sc λH Q hr h=>?_))
|`(tactic|show 1)=>`(tactic|(refine F.oks sc λ{_ _ _ s _ _}H Q hr h=>?_))
|`(tactic|show 2)=>`(tactic|(intro w9 s σ H x vs v us Q I rx rv h;obtain⟨z,y,rfl,rfl,hz,q⟩:=h;obtain⟨t,rfl⟩:=rx;obtain⟨u,rfl,t2,rfl⟩:=rv.one))
|`(tactic|show 3)=>`(tactic|(intro X hP hw hK hc i w9 s σ H E I hf st hg;subst hP hw hK))
|`(tactic|show 4)=>`(tactic|(intro w9 s σ H x y v u Q I rx ry h))
|`(tactic|show 5)=>`(tactic|(intro w9 s σ H Q I h))
|`(tactic|show 6)=>`(tactic|(intro w9 s σ H xs us Q I r h))
|`(tactic|show 7)=>`(tactic|(obtain⟨x,dx,l,xs,rfl,e,el,q⟩:=h;refine az 103#36#1 ?_;ac_nf))
|`(tactic|show 8)=>`(tactic|(obtain⟨t,rfl⟩:=rx))
|`(tactic|show 9)=>`(tactic|(generalize upd H X (.lst [])=H1 at s1 e1 ⊢))
|`(tactic|show 10)=>`(tactic|(intro w9 s σ H x vs v us Q I rx rv h))
|`(tactic|show 11)=>`(tactic|(obtain⟨f0,f1,f2,f3,f4,f5⟩:=0#bP))
|`(tactic|show 12)=>`(tactic|(have s1:=0#bM;have e1:0#aZ=some 0#y:=ac))
|`(tactic|show 13)=>`(tactic|(ac_nf;have hs:=0#Z))
|`(tactic|show 14)=>`(tactic|(refine F.oks sc λ{_ _ _ s vs _}H Q hr h=>?_))
|`(tactic|show 15)=>`(tactic|(obtain⟨l,rfl,hl,q⟩:=h))
|`(tactic|show 16)=>`(tactic|(refine 59#32;rw[show S a++0#e " "=S 0#ct from aJ _ _]))
|`(tactic|show 17)=>`(tactic|(have a1:p≠x:=(nq e hp);exact q p _ hp 6#r 105#a1 ac))
|`(tactic|show 18)=>`(tactic|(unfold aL;simp only[]))
|`(tactic|show 19)=>`(tactic|(intro w9 s σ H D I h))
|`(tactic|show 20)=>`(tactic|(obtain⟨a,p,rfl,ha,⟨s,rfl⟩,q⟩:=h;obtain⟨g,dx,e⟩:=ha;refine az 13#(xtup 0#eJ) ?_;ac_nf))
|`(tactic|show 21)=>`(tactic|(obtain⟨a,b,rfl,ha,⟨n,ps,rfl⟩,hok,q⟩:=h;obtain⟨dx,l,e,as,el,a3⟩:=ha;refine az 13#(xtup 142#(xac 122#xfld 19#(xcd Dd hr 35#(xfld (2#U))))) ?_;ac_nf;have v9:OkPs ps:=hok.2))
|`(tactic|show 22)=>`(tactic|(rw[show a1.toArray.any 0#dY=a1.any 0#dY by simp,gR r fs];exact q))
|`(tactic|show 23)=>`(tactic|(obtain⟨σ2,H2,I6,q6⟩:=q;exact(I.unmark I6).gone hN hi hl λs7 I7=>⟨_,H2,I7,q6⟩))
|`(tactic|show 24)=>`(tactic|(refine 3#p;rintro i m σ H ⟨rfl,hi,p⟩;have q:=hl i σ H hi p;by_cases hlt:i < 0#E))
|`(tactic|show 25)=>`(tactic|(refine rp p f (by rw[hz];exact hl) (λi H sm hi=>by rw[hz] at hi;exact hi) (λi H x H' hi sm y=>?_) (λi H sm hi=>by rw[hz] at hi;exact hi) (λx hx=>?_) hq))
|`(tactic|show 26)=>`(tactic|(intro b hb;rw[show (s.heap.push { cls:=Value.type "list_iterator",data:=Data.fields #[6#D a,0#fJ 0 0] }).objs.size=0#g+1 from by simp[Heap.push]]))
|`(tactic|show 27)=>`(tactic|(rw[0#x] at hx;obtain⟨t,ht,rfl⟩:=0#fP))
|`(tactic|show 28)=>`(tactic|(simp only[List.getElem?_take,List.getElem?_drop] at this;simpa using this))
|`(tactic|show 29)=>`(tactic|(rw[aw,show decide 9#D=decide (p < 1#n) by rw[0#fb];omega];exact k _ 18#_))
|`(tactic|show 30)=>`(tactic|(refine 41#(a++[32]);rw[aJ];refine 0#bG;rw[show S (a++[32]++b)++0#e " "=S (a++[32]++b++[32]) from aJ _ _];refine 54#(a++[32]++b++[32])))
|`(tactic|show 31)=>`(tactic|(obtain⟨x,dx,v,rfl,e,q⟩:=h;refine az 103#(bi (2#U) (2#E)) ?_;ac_nf))
|`(tactic|show 32)=>`(tactic|(obtain⟨t',rfl⟩:=ry))
|`(tactic|show 33)=>`(tactic|(have I1:Inv X w9 σ H 0#W:=I.kept (t':=6#G) λb o e=>hx b o (l27 (0#S e)) e;exact h w9 _ σ H xs _ Q I1 (by simpa using rv) hw))
|`(tactic|show 34)=>`(tactic|(unfold aK at hst;rw[0#r,5#A] at hst))
|`(tactic|show 35)=>`(tactic|(refine 7#L;rw[show S a++0#e " = > | - + "=S 0#dX from aJ _ _];refine 41#(a++[32,61,32,62,32,124,32,45,32,43,32]);rw[aJ]))
|`(tactic|show 36)=>`(tactic|(split at h))
|`(tactic|show 37)=>`(tactic|(obtain⟨z1,z2⟩:=wtup (k:="plain") (x:=a++[32]) a2 146#aa a4))
|`(tactic|show 38)=>`(tactic|(intro i x hx H2 s2 C N hC))
|`(tactic|show 39)=>`(tactic|(obtain⟨t,ht⟩:∃t,ts[p']? = some t:=4#v))
local macro_rules
|`(tactic|show 40)=>`(tactic|(intro w9 s σ H R I h;refine thn 29#hl λv s1 ⟨x,H1,I1,r1,q1⟩=>?_;obtain⟨a,e,⟨xs,hq⟩,q⟩:=q1;subst e))
|`(tactic|show 41)=>`(tactic|(constructor))
|`(tactic|show 42)=>`(tactic|(rw[show putF f v ((k,x)::r)=6#s from rfl];by_cases hk:k=f))
|`(tactic|show 43)=>`(tactic|(refine .inr 3#d;obtain⟨e,y⟩:=y;rw[e]))
|`(tactic|show 44)=>`(tactic|(refine 51#⟨_,rfl,a,Cc,dx,fs,_,sp,rfl,e1,e2,V,a3 _ _ λv H4 ⟨s4,d4⟩=>hC v H4 s4 ?_⟩;rw[a2];exact d4))
|`(tactic|show 45)=>`(tactic|(obtain⟨dx,l,e,_⟩:=id h))
|`(tactic|show 46)=>`(tactic|(obtain⟨q,t,e1,e2⟩:=aV c x r hx;rw[e2];rw[e1] at ih))
|`(tactic|show 47)=>`(tactic|(intro D H2 hD s2 dD;rw[l4,w6,bG] at dD))
|`(tactic|show 48)=>`(tactic|(unfold defC;rw[hf];simp only[]))
|`(tactic|show 49)=>`(tactic|(simp only[sliceBounds,HT.sIx,Option.getD_none,show (1:Int) > 0 by decide,if_true];by_cases h:i < 0))
|`(tactic|show 50)=>`(tactic|(refine 0#bZ ?_ l7))
|`(tactic|show 51)=>`(tactic|(rintro i m a1 H ⟨rfl,hi,sm,a2,rfl⟩;refine 147#a2))
|`(tactic|show 52)=>`(tactic|(exact 0#A z ∅))
|`(tactic|show 53)=>`(tactic|(rw[rdS];unfold rdF))
|`(tactic|show 54)=>`(tactic|(exact this))
|`(tactic|show 55)=>`(tactic|(obtain⟨f,oc,od,kV,dc,pm,an,cd,ct,sl,a,l,c,kp⟩:=F.ex;have F1:=lf (st:=st) l c kp;exact 0#dh))
|`(tactic|show 56)=>`(tactic|(intro value slice w9 s σ H x y v u Q I rx ry h hs))
|`(tactic|show 57)=>`(tactic|(obtain⟨σ3,H3,I3,n3⟩:=q3;obtain⟨m',hm,w3⟩:=hN σ3 H3 n3;exact⟨m',hm,σ3,H3,I3,w3⟩))
|`(tactic|show 58)=>`(tactic|(obtain⟨a2,r,pl,_⟩:=I.list hp;obtain⟨j9,r2,a1,_⟩:=5#j;have e2:=r2.length;have e1:=1#m))
|`(tactic|show 59)=>`(tactic|(have a1:=3#n;clear s3))
|`(tactic|show 60)=>`(tactic|(obtain⟨a1,r',pl,hz⟩:=5#j))
|`(tactic|show 61)=>`(tactic|(obtain⟨p,h1,h2⟩:=b.get (i:=i) 4#N;exact 97#p))
|`(tactic|show 62)=>`(tactic|(obtain⟨I,rfl⟩:∃I:Nat,i=(I:Int):=96#i.toNat))
|`(tactic|show 63)=>`(tactic|(exact q _ _ a1 a2))
|`(tactic|show 64)=>`(tactic|(ac_nf;rw[show (0:Int)+(k:Int)=(k:Int) by omega]))
|`(tactic|show 65)=>`(tactic|(rw[Bool.eq_false_iff];intro z;simp[List.isPrefixOf] at z;exact hr ⟨r',by rw[<- z]⟩))
|`(tactic|show 66)=>`(tactic|(obtain⟨f,oc,od,kV,dc,pm,an,cd,ct,sl,a,i,l,c,kp⟩:=M.ex;have F1:=lf (st:=st) l c kp))
|`(tactic|show 67)=>`(tactic|(obtain⟨u,rfl,rx⟩:=iR r))
|`(tactic|show 68)=>`(tactic|(obtain⟨i,rfl,hi0,q⟩:=h))
|`(tactic|show 69)=>`(tactic|(obtain⟨t1,rfl⟩:=r1;obtain⟨t2,rfl⟩:=r2))
|`(tactic|show 70)=>`(tactic|(subst e;exact I1.fpOk (7#j) 0#aM))
|`(tactic|show 71)=>`(tactic|(rw[show y=vS w by simpa using z]))
|`(tactic|show 72)=>`(tactic|(rw[0#bj 76#hj] at e2;obtain⟨u',r',q⟩:=hl j y v' e1 e2 e3;refine⟨u',r',?_⟩))
|`(tactic|show 73)=>`(tactic|(unfold aK at hst;rw[0#r] at hst;exact hst.2))
|`(tactic|show 74)=>`(tactic|(have h1:=l66 0#br 8#F;have h2:=l96 0#br 8#E))
|`(tactic|show 75)=>`(tactic|(simp only[];omega))
|`(tactic|show 76)=>`(tactic|(unfold fA;simp only[]))
|`(tactic|show 77)=>`(tactic|(exact⟨h.pl c z,by have:=h.c c z;omega⟩))
|`(tactic|show 78)=>`(tactic|(generalize upd H l (.lst [])=H1 at s1 e1 ⊢;show tSeq 163#tWhile _ _ 0#eE H1))
|`(tactic|show 79)=>`(tactic|(obtain⟨i,j,rfl,q⟩:=h;obtain⟨u,w',rfl,⟨t,rfl⟩,⟨t',rfl⟩⟩:=xQ r))
local macro_rules
|`(tactic|show 80)=>`(tactic|(exact Int.ediv_nonneg (l66 _ nofun) nofun))
|`(tactic|show 81)=>`(tactic|(have a1:p≠x:=(nq ac hp);exact q p _ (by rwa [ai a1] at hp) 0#dF 105#a1 ac))
|`(tactic|show 82)=>`(tactic|(refine qv (λj=>(((2#s)[j]?).getD .non)) 74#er (by rw[l4,0#Z];omega) ?_ ?_))
|`(tactic|show 83)=>`(tactic|(obtain⟨e,n,ne,nf,d⟩:=0#cH))
|`(tactic|show 84)=>`(tactic|(unfold Lw.nameAt;rw[hc]))
|`(tactic|show 85)=>`(tactic|(show _ < 2#K * 48271 % 2147483647;omega))
|`(tactic|show 86)=>`(tactic|(show 2#K * 48271 % 2147483647 < _;omega))
|`(tactic|show 87)=>`(tactic|(refine .inr 4#T;obtain⟨e,y⟩:=y;subst e;exact hs i x σ _ (y xs q) p))
|`(tactic|show 88)=>`(tactic|(refine 2#j;dsimp only[sA,sB]))
|`(tactic|show 89)=>`(tactic|(obtain⟨c,r,rfl,hc⟩:=h.hd))
|`(tactic|show 90)=>`(tactic|(obtain⟨a,b⟩:=ab;rw[jZ (hw.trans hc)];obtain⟨he,_⟩:=cutAt_eq hc))
|`(tactic|show 91)=>`(tactic|(intro w9 s σ H v u Q I r hw;obtain⟨a,xs,e1,hq,hl,hw⟩:=hw;subst e1))
|`(tactic|show 92)=>`(tactic|(obtain⟨o,n,e,c,_,d⟩:=pl;exact 0#fr))
|`(tactic|show 93)=>`(tactic|(obtain⟨k2,rfl⟩:∃k2,k'=k2+1:=0#fq))
|`(tactic|show 94)=>`(tactic|(have:=0#dC;rw[l4] at this;rw[l30,this]))
|`(tactic|show 95)=>`(tactic|(have:=2#u (List.take 3#x) he;rw[List.take_take,l51,l59 nofun] at this))
|`(tactic|show 96)=>`(tactic|(have I1:Inv X w9 σ H 0#W:=I.turned (t':=6#G) 136#sb.2 f0 f1 f3 f4 f5))
|`(tactic|show 97)=>`(tactic|(refine ite2 5#y 5#y))
|`(tactic|show 98)=>`(tactic|(obtain⟨o',e1⟩:=8#a))
|`(tactic|show 99)=>`(tactic|(unfold b7 at hm;split at hm))
|`(tactic|show 100)=>`(tactic|(obtain⟨z,a1,n,r,hl,e⟩:=I.lstM hH))
|`(tactic|show 101)=>`(tactic|(rw[List.eq_replicate_iff];refine⟨by rw[l15,h.len],λv hv=>?_⟩))
|`(tactic|show 102)=>`(tactic|(obtain⟨_,_,_,_,o,_,_,e,ex,_⟩:=I.hok p _ hk;exact⟨o,e,ex⟩))
|`(tactic|show 103)=>`(tactic|(obtain⟨p,r,e⟩:=fJ (s:=x::s) 0#h))
|`(tactic|show 104)=>`(tactic|(rw[show ((6 - j:Nat):Int)=((6 - (j+1):Nat):Int)+1 by omega];rfl))
|`(tactic|show 105)=>`(tactic|(refine az 13#(xtup 142#(xac 122#xfld 19#(xfld (2#U)))) ?_;ac_nf))
|`(tactic|show 106)=>`(tactic|(obtain⟨o,n,e,_⟩:=pl;exact 0#S e))
|`(tactic|show 107)=>`(tactic|(obtain⟨j,h1,h2,h3,h4,h5⟩:=mL he))
|`(tactic|show 108)=>`(tactic|(have g1:=iN h (u:=[]) (v:=[32]) ∅))
|`(tactic|show 109)=>`(tactic|(rw[e0] at q;exact cz (tS.eq (by rw[e1];rfl)) λH1 s1=>q H1 s1))
|`(tactic|show 110)=>`(tactic|(obtain⟨T',G⟩:=F.moved hex hh.st hh.tr up;exact hQ T' h' G))
|`(tactic|show 111)=>`(tactic|(obtain⟨h1,h2⟩:=oA hst))
|`(tactic|show 112)=>`(tactic|(show wpAny 52#P (A.deeper (1#i)) (leaving (1#i) 11#e) _ _ _))
|`(tactic|show 113)=>`(tactic|(simp only[reduceCtorEq,false_iff]))
|`(tactic|show 114)=>`(tactic|(obtain⟨f,fd,G,hm,hk,hb⟩:=D.ex))
|`(tactic|show 115)=>`(tactic|(show [strSub (S l) 0 (S l).length]=_;rw[sub_whole];exact h))
|`(tactic|show 116)=>`(tactic|(refine cy 6#K 0 6#O ?_;rintro m σ _ ⟨rfl,rfl⟩;ac_rfl))
|`(tactic|show 117)=>`(tactic|(obtain⟨oc,od,kV,doc,pm,an,cdv,ct,osl,rfl,lk,a1⟩:=F.ex))
|`(tactic|show 118)=>`(tactic|(have:=kv ws;have:=h.sum;rw[fD,l4,e,Nat.mul_one,0#Z];omega))
|`(tactic|show 119)=>`(tactic|(by_cases hlt:i < 0#E))
local macro_rules
|`(tactic|show 120)=>`(tactic|(intro wh w9 s σ H Q I h))
|`(tactic|show 121)=>`(tactic|(simp only[l18];exact l27 (0#S e)))
|`(tactic|show 122)=>`(tactic|(refine ite2 8#J (λc=>0#A rfl c)))
|`(tactic|show 123)=>`(tactic|(rw[show ((2 * j+1:Nat):Int)=2 * (j:Int)+1 by omega];rfl))
|`(tactic|show 124)=>`(tactic|(obtain⟨u,r,l⟩:=hl i x v e1 e2 e3;refine⟨u,r,?_⟩))
|`(tactic|show 125)=>`(tactic|(obtain⟨a,ts,rfl,a7,_,ha⟩:=a5.get hv;have a3:=l22 a7))
|`(tactic|show 126)=>`(tactic|(obtain⟨ys,ep,_,_⟩:=hp.parts))
|`(tactic|show 127)=>`(tactic|(rw[show (p:Int)+1=((1#n - r.length:Nat):Int) by omega]))
|`(tactic|show 128)=>`(tactic|(obtain⟨⟨w0,t,k,ms,gs,e,h1,h2,h3,h4,h5,h6⟩⟩:=h))
|`(tactic|show 129)=>`(tactic|(obtain⟨it,fp,tn,J,H2,e,I2,T,a2,f2,q2⟩:=h2;subst e))
|`(tactic|show 130)=>`(tactic|(obtain⟨G1,a1,b1,k1⟩:=h;obtain⟨G2,a2,b2,k2⟩:=k))
|`(tactic|show 131)=>`(tactic|(have e:=1#m;simp only[Array.length_toList] at e;omega))
|`(tactic|show 132)=>`(tactic|(refine 9#T (fV I hg hm ?_ hdb)))
|`(tactic|show 133)=>`(tactic|(obtain⟨u,hu,ru⟩:=rv.get hx))
|`(tactic|show 134)=>`(tactic|(obtain⟨c,k,rfl,h0,h1,q⟩:=h))
|`(tactic|show 135)=>`(tactic|(intro w9 s σ H x v vl vu lo hi sl Q I rx hs pl pu h))
|`(tactic|show 136)=>`(tactic|(simp only[Bool.and_eq_true,decide_eq_true_iff] at h))
|`(tactic|show 137)=>`(tactic|(rintro i m a1 H ⟨rfl,hi,sm,a2,a3⟩;refine 147#a2))
|`(tactic|show 138)=>`(tactic|(have hge:=7#H hx;exact dF false false 0#gh λz=>0#k))
set_option hygiene true
namespace L2
open PySem PySem.Spec PyProof.Rows
abbrev Key:=Sum Int Str
def zO:Key->Value->Bool
 | .inl k,v=>Value.isInt k v
 | .inr x,v=>Value.isStrOf x v
def keyH (w:World):Key->Int
 | .inl k=>hashInt k
 | .inr x=>hashStr w x
theorem bz:∀{k:Key} {v:Value},zO k v=true->(∃i t,k=Sum.inl i/\v=0#fJ i t) ∨ (∃x t,k=Sum.inr x/\v=Value.str x t)
 | .inl i,v,h=>by
  obtain⟨t,e⟩:=Value.isInt_shape (k:=i) (v:=v) h;exact .inl ⟨i,t,rfl,e⟩
 | .inr x,v,h=>by
  obtain⟨t,e⟩:=Value.isStrOf_shape (x:=x) (v:=v) h;exact .inr ⟨x,t,rfl,e⟩
def zP (a b:Int):decide ((Sum.inl a:Key)=Sum.inl b)=(a==b):=by
 by_cases e:a=b
 ·subst e;simp
 ·have h:¬ (Sum.inl a:Key)=Sum.inl b:=λq=>e (Sum.inl.inj q);rw[0#D h];exact(7#g e).symm
def zQ (a b:Str):decide ((Sum.inr a:Key)=Sum.inr b)=decide (a=b):=by
 by_cases e:a=b
 ·subst e;simp
 ·have h:¬ (Sum.inr a:Key)=Sum.inr b:=λq=>e (Sum.inr.inj q);rw[0#D h,0#D e]
def zR (a:Int)(b:Str):decide ((Sum.inl a:Key)=Sum.inr b)=false:=0#D (λq=>nomatch q)
def zS (a:Str)(b:Int):decide ((Sum.inr a:Key)=Sum.inl b)=false:=0#D (λq=>nomatch q)
def qN (prog:1#E)(w:World):PySem.KeyKind prog w Key where
 is:=zO
 hash:=keyH w
 inj:=λv a b ha hb=>by
  rcases bz ha with ⟨i,t,rfl,rfl⟩ |⟨x,t,rfl,rfl⟩
  ·rcases bz hb with ⟨j,u,rfl,e⟩ |⟨y,u,rfl,e⟩
   ·injection e with e1 _;rw[e1]
   ·exact nomatch e
  ·rcases bz hb with ⟨j,u,rfl,e⟩ |⟨y,u,rfl,e⟩
   ·exact nomatch e
   ·injection e with e1 _;rw[e1]
 byValue:=λk v h=>by
  rcases bz h with ⟨i,t,rfl,rfl⟩ |⟨x,t,rfl,rfl⟩ <;> rfl
 pyHash:=λhv h=>by
  rcases bz hv with ⟨i,t,rfl,rfl⟩ |⟨x,t,rfl,rfl⟩
  ·exact wpAny_pyHash_int h
  ·exact wpAny_pyHash_str h
 eqBool:=λhu hv h=>by
  rcases bz hu with ⟨i,t,rfl,rfl⟩ |⟨x,t,rfl,rfl⟩
  ·rcases bz hv with ⟨j,u,rfl,rfl⟩ |⟨y,u,rfl,rfl⟩
   ·rw[zP] at h;exact wpAny_eqBool_int h
   ·rw[zR] at h;exact SeqAt.EqAt.int_str i t y u _ _ _ _ h
  ·rcases bz hv with ⟨j,u,rfl,rfl⟩ |⟨y,u,rfl,rfl⟩
   ·rw[zS] at h;exact SeqAt.EqAt.str_int x t j u _ _ _ _ h
   ·rw[zQ] at h;exact wpAny_eqBool_str h
 «strs» := λk x t v h=>by
  rcases bz h with ⟨i,u,rfl,e⟩ |⟨y,u,rfl,e⟩
  ·exact nomatch e
  ·injection e with e1 _
   subst e1;cases v <;> rfl
inductive V where
 |non |bl (b:Bool) |int (i:Int) |str (x:Str) |byt (b:Array UInt8) |flt (b:UInt64) |ref (a:Addr) |ty (n:String)
 deriving DecidableEq
def RelV:V->Value->Prop
 | .non,u=>u=Value.none
 | .bl b,u=>u=Value.bool b
 | .int i,u=>∃t,u=0#fJ i t
 | .str x,u=>∃t,u=Value.str x t
 | .byt b,u=>∃t,u=Value.bytes b t
 | .flt b,u=>∃t,u=Value.float b t
 | .ref a,u=>u=6#D a
 | .ty n,u=>u=Value.type n
abbrev Vals:List V->2#b->Prop:=Paired RelV
def Vals.length {xs:0#t}{us:2#b}(r:5#U):0#E=us.length:=Paired.length r
def Vals.get:∀{xs:List V} {us:List Value} {i:Nat} {x:V},5#U->xs[i]? = some x->∃u,us[i]? = some u/\RelV x u
 |_,_,_,_, .nil,e=>by simp at e
 |_,_,0,_, .cons r _,e=>by simp at e;subst e;exact 127#r
 |_,_,i+1,x, .cons _ t,e=>by
  obtain⟨u,h1,h2⟩:=Vals.get (i:=i) (x:=x) t 4#N;exact 97#u
theorem Vals.set {x:V}{u:Value}(r:RelV x u):∀{xs:List V} {us:List Value} (i:Nat),5#U->Vals (xs.set i x) (us.set i u)
 |_,_,_, .nil => .nil
 |_,_,0, .cons _ t => .cons r t
 |_,_,i+1, .cons q t => .cons q (Vals.set r i t)
theorem Vals.append:∀{xs ys:List V} {us ws:List Value},5#U->Vals ys ws->Vals (xs++ys) (us++ws)
 |_,_,_,_, .nil,s=>s
 |_,_,_,_, .cons r t,s => .cons r (Vals.append t s)
theorem Vals.take:∀{xs:List V} {us:List Value} (n:Nat),5#U->Vals (xs.take n) (us.take n)
 |_,_,0,_ => .nil
 |_,_,_+1, .nil => .nil
 |_,_,n+1, .cons r t => .cons r (Vals.take n t)
theorem Vals.drop:∀{xs:List V} {us:List Value} (n:Nat),5#U->Vals (xs.drop n) (us.drop n)
 |_,_,0,r=>r
 |_,_,_+1, .nil => .nil
 |_,_,n+1, .cons _ t=>Vals.drop n t
def RelO:Option V->0#B->Prop
 |some v,some u=>0#dx
 |none,none=>True
 |_,_=>False
def KV {κ:Type}:List (κ×V)->List (κ×Value)->Prop:=Paired λ(p:κ×V) (q:κ×Value)=>p.1=q.1/\RelV p.2 q.2
def kV:Key->V
 | .inl i => .int i
 | .inr x => .str x
inductive HO where
  |lst (xs:List V)
  |tup (xs:List V)
  |dK (kvs:List (Key×V)) |dT (kvs:List (List Key×V))
  |set (S:Int->Bool) (n:Nat)
  |ins (C dx:Addr) (fs:List (Str×V))
  |own (x:Addr)
  |xd (fs:List (Str×V))
  |met (f x:Addr)
  |rng (lo hi:Int)
  |frz (o:Obj) (u:HO)
  |tbl (ps:Array Value)
  |ext (φ:Heap->Prop)
abbrev Hp:=Addr->Option HO
def nq {α β:Type}{F:α->β}{a b:α}{u v:β}(e:F b=u)(x:F a=v)(h:u≠v:=by intro y;cases y):a≠b:=λz=>h (by rw[<- e,<- x,z])
def nz {α β:Type}{F:α->Option β}{a:α}{o:β}(e:F a=1#T):F a≠none:=by rw[e];exact λz=>0#k
def upd (H:Hp)(a:Addr)(o:HO):Hp:=λb=>if b=a then some o else H b
def ac {H:Hp}{a:Addr}{o:HO}:4#b a o a=some o:=by unfold upd;rw[1#d rfl]
def ai {H:Hp}{a b:Addr}{o:HO}(h:b≠a):4#b a o b=H b:=by unfold upd;rw[0#z h]
def zT {H:Hp}{a b:Addr}{o u:HO}(h:H a=1#T)(h':H b=4#o)(d:o≠u):a≠b:=by
 intro e;subst e;rw[h] at h';exact d (1#w h')
def aC {H:Hp}{a b:Addr}{o:HO}(h:H a=1#T)(h':H b=none):a≠b:=by
 intro e;subst e;rw[h] at h';cases h'
section
variable (P:1#E)(w:World)
def ObjOk (H:Hp)(h:Heap)(a:Addr):HO->Prop
 | .lst xs=>0#E<=sizeLine/\∃(its:List Value) (n:Nat),0#fI/\h.get? a=some { cls := .type "list",data := .seq its.toArray n }
 | .tup xs=>0#E<=sizeLine/\∃its:2#b,0#fI/\IsTup h a 0#fO
 | .dK kvs=>kvs.length<=sizeLine/\(a==sysModules)=false/\∃vs,KV kvs vs/\h.DictOf (qN P w) a vs
 | .dT kvs=>kvs.length<=sizeLine/\(a==sysModules)=false/\∃xs:List (List Key×Addr×Value),
   Paired (λ(p:List Key×V) (q:List Key×Addr×Value)=>p.1=q.1/\H q.2.1=some (.tup (p.1.map kV))/\RelV p.2 q.2.2) kvs xs ∧
   ∃o es ep,h.get? a=1#T/\o.ExactDict/\o.data = .dict es ep/\es.toList=xs.map (entryOfKey (tupleKind (qN P w)))/\(xs.map (·.1)).Nodup
 | .set S n=>h.SetOf (intKind P w) a S n
 | .ins C dx fs=>H dx=some (.own a)/\fs.length<=1000/\dx≠a/\h.get? a=some (instObj C dx) ∧
   ∃mA,h.Ns1 dx mA/\(∀f,RelO (fs.lookup f) (mA f))/\PySem.Within mA (fs.map (·.1))
 | .own _=>∃o,h.get? a=1#T
 | .xd fs=>∃mA,h.Ns1 a mA/\∀f,RelO (fs.lookup f) (mA f)
 | .rng lo hi=>∃t u v,h.get? a=some { cls := .type "range",data := .fields #[.int lo t, .int hi u, .int 1 v] }
 | .frz o u=>h.get? a=1#T/\ObjOk H h a u
 | .tbl ps=>h.get? a=some { cls := .none,data := .fields ps }
 | .met f x=>h.get? a=some (methodObj 11#f 11#x)
 | .ext φ=>φ h/\(∃o,h.get? a=1#T)/\∀h1 h2:Heap,φ h1->(∀o,h1.get? a=1#T->h2.get? a=1#T)->φ h2
def HOk (H:Hp)(h:Heap):Prop:=∀a o,H a=1#T->0#dL
end
section
variable {P:1#E}{w:World}{H H':Hp}{h h':Heap}{a:Addr}{o:HO}
def ObjOk.lt (x:0#dL):a < h.objs.size:=by
 cases o with
 |lst xs=>obtain⟨_,_,_,_,e⟩:=x;exact 0#S e
 |tup xs=>obtain⟨_,_,_,p⟩:=x;exact p.lt
 |dK kvs=>obtain⟨_,_,_,_,o,_,_,e,_⟩:=x;exact 0#S e
 |dT kvs=>obtain⟨_,_,_,_,o,_,_,e,_⟩:=x;exact 0#S e
 |set S n=>obtain⟨o,_,_,_,e,_⟩:=x;exact 0#S e
 |ins C dx fs=>obtain⟨_,_,_,e,_⟩:=x;exact 0#S e
 |own y=>obtain⟨_,e⟩:=x;exact 0#S e
 |xd fs=>obtain⟨_,⟨_,_,_,e,_⟩,_⟩:=x;exact 0#S e
 |rng lo hi=>obtain⟨_,_,_,e⟩:=x;exact 0#S e
 |frz ob u=>obtain⟨e,_⟩:=x;exact 0#S e
 |tbl ps=>exact 0#S (show h.get? a=some _ from x)
 |met f y=>exact 0#S (show h.get? a=some _ from x)
 |ext φ=>obtain⟨_,⟨_,e⟩,_⟩:=x;exact 0#S e
theorem Paired.mapP {α β:Type}{F G:α->β->Prop}:∀{l₁:List α} {l₂:List β},Paired F l₁ l₂->(∀a b,F a b->G a b)->Paired G l₁ l₂
 |_,_, .nil,_ => .nil
 |_,_, .cons r t,f => .cons (f _ _ r) (Paired.mapP t f)
def ObjOk.stay (x:0#dL)(k:∀b u,(b=a ∨ H b=some (.own a))->h.get? b=4#o->h'.get? b=4#o)
  (ho:∀b,H b=some (.own a)->H' b=some (.own a))(ht:∀b xs,H b=some 6#V->H' b=some 6#V):ObjOk P w H' h' a o:=by
 induction o with
 |lst xs=>obtain⟨z,a1,n,r,e⟩:=x;exact⟨z,a1,n,r,7#i⟩
 |tup xs=>obtain⟨z,a1,r,ob,e,c⟩:=x;exact⟨z,a1,r,ob,7#i,c⟩
 |dK kvs=>obtain⟨z,y,vs,r,ob,es,ep,e,c⟩:=x;exact⟨z,y,vs,r,ob,es,ep,7#i,c⟩
 |dT kvs=>
  obtain⟨z,y,xs,r,ob,es,ep,e,c⟩:=x;exact⟨z,y,xs,Paired.mapP r λp q z=>⟨z.1,ht _ _ z.2.1,z.2.2⟩,ob,es,ep,7#i,c⟩
 |set S n=>obtain⟨ob,es,ep,t,e,c⟩:=x;exact⟨ob,es,ep,t,7#i,c⟩
 |ins C dx fs=>
  obtain⟨d,z,ne,e,mA,⟨od,es,ep,e2,c⟩,r⟩:=x;exact⟨ho _ d,z,ne,7#i,mA,⟨od,es,ep,k _ _ 120#d e2,c⟩,r⟩
 |own y=>obtain⟨ob,e⟩:=x;exact⟨ob,7#i⟩
 |xd fs=>obtain⟨mA,⟨od,es,ep,e,c⟩,r⟩:=x;exact⟨mA,⟨od,es,ep,7#i,c⟩,r⟩
 |rng lo hi=>obtain⟨t,u,v,e⟩:=x;exact⟨t,u,v,7#i⟩
 |frz ob u ih=>obtain⟨e,q⟩:=x;exact⟨7#i,ih q⟩
 |tbl ps=>
  have e:h.get? a=some { cls := .none,data := .fields ps }:=x;show h'.get? a=some { cls := .none,data := .fields ps };exact k a _ 2#a e
 |met f y=>
  have e:h.get? a=some (methodObj 11#f 11#y):=x;show h'.get? a=some (methodObj 11#f 11#y);exact k a _ 2#a e
 |ext φ=>obtain⟨p,⟨o,e⟩,st⟩:=x;exact⟨st _ _ p λo q=>k _ _ 2#a q,⟨o,7#i⟩,st⟩
def HOk.lt (x:7#Z)(e:H a=1#T):a < h.objs.size:=(x a o e).lt
def HOk.fresh (x:7#Z)(e:h.objs.size<=a):H a=none:=by
 cases q:H a with
 |none=>rfl
 |some u=>exact 0#A (l32 (x.lt q) e) (l50 _)
def HOk.kept (x:7#Z)(k:∀b u,h.get? b=4#o->h'.get? b=4#o):HOk P w H h':=λa o e=>
 (x a o e).stay (λb u _ q=>k b u q) (λ_ q=>q) λ_ _ q=>q
def HOk.laid (x:7#Z)(k:∀b u,h.get? b=4#o->h'.get? b=4#o)(hp:h.objs.size<=a)(new:ObjOk P w 148#a h' a o):HOk P w 148#a h':=λb u e=>by
 have hn:=x.fresh hp;by_cases hb:b=a
 ·subst hb;rw[ac] at e;cases e;exact new
 ·rw[ai hb] at e;exact(x b u e).stay (λc v _ q=>k c v q) (λc q=>by rw[ai 0#ep];exact q) λc xs q=>by rw[ai 0#ep];exact q
end
def Rd (H:Hp)(a:Addr)(u:HO):Prop:=H a=4#o ∨ ∃o,H a=some (.frz o u)
def Rd.ok {P:1#E}{w:World}{H:Hp}{h:Heap}{a:Addr}{u:HO}(r:Rd H a u)(x:7#Z):ObjOk P w H h a u:=by
 rcases r with r |⟨o,r⟩
 ·exact x a u r
 ·obtain⟨_,q⟩:=x a _ r;exact q
def Mut:Option HO->Prop
 |some (.lst _)=>True
 |some (.dK _)=>True
 |some (.dT _)=>True
 |some (.set _ _)=>True
 |some (.ins _ _ _)=>True
 |some (.ext _)=>True
 |_=>False
section
variable {P:1#E}{w:World}{H:Hp}{h h':Heap}{x e:Addr}{o':HO}
def HOk.write (ok:7#Z)(mu:Mut (H x))(he:e=x ∨ H e=some (.own x))(k:∀b u,b≠e->h.get? b=4#o->h'.get? b=4#o)(heo:∃u,h'.get? e=4#o)
  (new:ObjOk P w (4#b x o') h' x o'):HOk P w (4#b x o') h':=λb u q=>by
 have a1:∀c y,H c=some (.own y)->c≠x:=λc y r z=>by subst z;rw[r] at mu;exact mu
 have a2:∀c xs,H c=some 6#V->c≠x:=λc xs r z=>by subst z;rw[r] at mu;exact mu
 by_cases hb:b=x
 ·subst hb;rw[ac] at q;cases q;exact new
 ·rw[ai hb] at q;by_cases hbe:b=e
  ·have q':H b=some (.own x):=by
    rcases he with z |z
    ·exact 0#A (hbe.trans z) hb
    ·rw[hbe];exact z
   rw[q] at q';cases q';obtain⟨v,hv⟩:=heo;exact⟨v,by rw[hbe];exact hv⟩
  ·refine(ok b u q).stay (λc v hc r=>k c v ?_ r) (λc r=>by rw[ai (a1 c b r)];exact r) λc xs r=>by rw[ai (a2 c xs r)];exact r
   rcases hc with rfl |hc
   ·exact hbe
   ·rintro rfl;rcases he with z |z
    ·exact a1 c b hc z
    ·rw[hc] at z;cases z;exact hb rfl
end
structure Un (fs ex:1#B)(H H':Hp)(h h':Heap):Prop where
 keep:∀b o,h.get? b=1#T->H b=none->b∉fs->b∉ex->h'.get? b=1#T
 slot:∀b o,h.get? b=1#T->H b=none->b∈fs->b∉ex->∃sl,h'.get? b=some 131#o
 free:∀b o,h.get? b=1#T->H b=none->b∉ex->H' b=none
 there:∀b o,h.get? b=1#T->b∉ex->∃o',h'.get? b=some o'
 tups:∀b xs,H b=some 6#V->H' b=some 6#V
 frzs:∀b o u,H b=some (.frz o u)->H' b=some (.frz o u)
 tbls:∀b ps,H b=some (.tbl ps)->∃more,H' b=some (.tbl (ps++more))
section
variable {fs fs' ex ex':1#B}{H H1 H2:Hp}{h h1 h2 h':Heap}{a x e:Addr}{o:HO}
def Un.any (u:Un fs ex H H1 h h1){b:Addr}{ob:Obj}(q:h.get? b=some ob)(n:H b=none)(hx:b∉ex):∃sl,h1.get? b=some 131#ob:=by
 by_cases hb:b∈fs
 ·exact u.slot b ob q n hb hx
 ·exact⟨ob.slots,u.keep b ob q n hb hx⟩
def Un.kept (k:∀b u,h.get? b=4#o->h'.get? b=4#o):Un fs ex H H h h':=
 ⟨λb ob q _ _ _=>k b ob q,λb ob q _ _ _=>⟨ob.slots,k b ob q⟩,λ_ _ _ n _=>n,λb ob q _=>⟨ob,k b ob q⟩,λ_ _ q=>q,λ_ _ _ q=>q,λ_ ps q=>⟨#[],by rw[q];simp⟩⟩
def Un.refl:Un fs ex H H h h:=Un.kept λ_ _ q=>q
def Un.laid (k:∀b u,h.get? b=4#o->h'.get? b=4#o)(hp:h.objs.size<=a)(hn:H a=none):Un fs ex H 148#a h h' where
 keep:=λb u q _ _ _=>k b u q
 slot:=λb u q _ _ _=>⟨u.slots,k b u q⟩
 free:=λb u q n _=>by rw[ai (l27 (l32 (0#S q) hp))];exact n
 there:=λb u q _=>⟨u,k b u q⟩
 tups:=λb xs q=>by rw[ai 0#ep];exact q
 frzs:=λb u xs q=>by rw[ai 0#ep];exact q
 tbls:=λb ps q=>⟨#[],by rw[ai 0#ep,q];simp⟩
def Un.write (mu:Mut (H x))(he:e=x ∨ H e=some (.own x))(k:∀b u,b≠e->h.get? b=4#o->h'.get? b=4#o)(heo:∃u,h'.get? e=4#o):Un fs ex H 148#x h h':=by
 have hx:∀b,H b=none->b≠x:=λb n z=>by subst z;rw[n] at mu;exact mu
 have hb:∀b,H b=none->b≠e:=λb n z=>by
  subst z;rcases he with r |r
  ·exact hx b n r
  ·rw[n] at r;cases r
 have hm:∀b u,H b=4#o->¬ Mut 23#u->b≠x:=λb u q nm z=>by subst z;rw[q] at mu;exact nm mu
 refine ⟨λb u q n _ _=>k b u (hb b n) q,λb u q n _ _=>⟨u.slots,k b u (hb b n) q⟩,λb u q n _=>by rw[ai (hx b n)];exact n,λb u q _=>?_,
  λb xs q=>by rw[ai (hm b _ q λz=>z)];exact q,λb u xs q=>by rw[ai (hm b _ q λz=>z)];exact q,λb ps q=>⟨#[],by rw[ai (hm b _ q λz=>z),q];simp⟩⟩
 by_cases hbe:b=e
 ·subst hbe;exact heo
 ·exact⟨u,k b u hbe q⟩
end
def trk (h:Heap)(H:Hp):List Addr:=(1#Q h.objs.size).filter λa=>(H a).isSome
def hidT (h:Heap)(H:Hp):Heap:=hideAll h (trk h H)
def qO (h:Heap)(H:Hp):(hidT h H).objs.size=h.objs.size:=PySem.W.hideAll_size _ _
def uK {h:Heap}{H:Hp}{b:Addr}{o:Obj}(e:h.get? b=1#T)(n:H b=none):(hidT h H).get? b=some o:=
 0#fN _ e λhm=>by
  have q:(H b).isSome=true:=(l75.mp hm).2;rw[n] at q;simp at q
def xD {h:Heap}{H:Hp}{b:Addr}{o:Obj}(e:(hidT h H).get? b=1#T):h.get? b=1#T/\H b=none:=by
 have e':h.get? b=some o:=of_hideAll (trk h H) e;refine 147#e';cases q:H b with
 |none=>rfl
 |some x=>
  have hm:b∈trk h H:=l75.mpr ⟨l54.mpr (0#S e'),by simp[q]⟩;have z:(hidT h H).get? b=none:=hideAll_none (trk h H) hm;rw[z] at e;cases e
structure Mod (K:Frag)(mg:Str->0#B)(base:Heap):Prop where
 kin:K.In base
 glob:base.Ns 8#e mg
 blt:∃mb,base.Ns builtinsNs mb/\∀x:Str,x≠"__name__"->mb x=5#w
 nolimit:base.NoLimit
structure Cx where
 prog:1#E
 w:World
 K:Frag
 mg:Str->0#B
 base:Heap
 A:5#F
 N:0#O
 s₀:1#a
 H₀:Hp
 env:Env
 outer:4#V
 stack:4#V
 ex:1#B
 fn:Str->Bool
 calm:Bool
 pn:1#H
 xe:Value->1#a->Prop
def frs (l:4#V):List Addr:=l.filterMap (·.frame)
abbrev Cx.fs (X:Cx):List Addr:=frs X.outer
def Vis (sc:Scope)(x:Str):Prop:=0#aE=some .local ∨ sc.names.lookup x=some .cell ∨ sc.names.lookup x=some .free
def Loc (sc:Scope)(x:Str):Prop:=0#aE=some .local ∨ sc.names.lookup x=some .cell
def Look (env:Env)(h:Heap)(m:Str->0#B)(x:Str)(u:Value):Prop:=
 (env.kindOf x=some .local/\m x=4#o) ∨ ((env.kindOf x=some .cell ∨ env.kindOf x=some .free)/\∃c,env.cells.lookup x=some c/\h.IsCell c 23#u)
structure Cx.Ok (X:Cx):Prop where
 mod:Mod X.K X.mg X.base
 kind:X.env.scope.kind = .function
 glob:X.env.globals=8#e
 blt:X.env.builtins=builtinsNs
 above:3#y<=2#e
 inj:∀x y c,1#R=some c->X.env.cells.lookup y=some c->x=y
 has:∀x,3#a->∃c,1#R=some c
 cab:∀x c,X.fn x=true->1#R=some c->3#y<=c
 hd:7#J=true->X.A.handled=none
 frames:X.A.frames=some 7#d
 stk:7#d=X.outer ∨ (7#d=X.env::X.outer/\X.env.frame=some 2#e)
 exf:∀b∈X.ex,b≠2#e/\∀x c,1#R=some c->c≠b
 bs:∀b o,X.base.get? b=1#T->X.s₀.heap.get? b=1#T/\X.H₀ b=none
 bsz:X.base.objs.size<=3#y
 noex:∀b o,X.base.get? b=1#T->b∉X.ex
 exfs:∀b∈X.ex,b∉X.fs
 funs:X.s₀.heap.FunFrames X.base X.outer
 frf:∀b∈X.fs,X.H₀ b=none
structure Inv (X:Cx)(w9:1#H)(σ:List (Option V))(H:Hp)(s:1#a):Prop where
 ok:X.Ok
 os:s.os=X.s₀.os
 bare:AllBare s.gens
 base:Un X.fs X.ex X.H₀ H X.s₀.heap 6#U
 loc:∃m,s.heap.Ns X.env.locals m/\∀(i:Nat) (x:Str) (v:V),X.N[i]? = some x->σ[i]? = some 23#v->Vis X.env.scope x->∃u,0#dx/\Look X.env s.heap m x u
 cell:∀x c,1#R=some c->∃v,0#dN
 free:H 2#e=none
 freeC:∀x c,1#R=some c->H c=none
 pin:∀p∈X.pn++w9,s.heap.get? p.1=some p.2/\H p.1=none/\p.1≠2#e/\p.1∉X.fs/\∀v,p.2.data ≠ .cell v
 hok:8#V H 6#U
 len:σ.length=X.N.length
 tk:0 < 6#G
section
variable {X:Cx}{w9:1#H}{σ:List (Option V)}{H H':Hp}{s:1#a}{h':Heap}
def Cx.Ok.nofr (ok:X.Ok){b:Addr}{o:Obj}(e:X.base.get? b=1#T):b∉X.fs:=λhb=>by
 have:=(ok.funs.mem hb).1;rw[e] at this;cases this
def Inv.bs (I:0#d):∀b o,X.base.get? b=1#T->s.heap.get? b=1#T/\H b=none:=λb o e=>
 ⟨I.base.keep b o (I.ok.bs b o e).1 (I.ok.bs b o e).2 (I.ok.nofr e) (I.ok.noex b o e),I.base.free b o (I.ok.bs b o e).1 (I.ok.bs b o e).2 (I.ok.noex b o e)⟩
def Inv.bk (I:0#d):∀b o,X.base.get? b=1#T->s.heap.get? b=some o:=λb o e=>(I.bs b o e).1
def Inv.mod (I:0#d):Mod X.K X.mg X.base:=I.ok.mod
def Inv.kIn (I:0#d):X.K.In s.heap:=I.ok.mod.kin.keeps I.bk
def Inv.lt (I:0#d):2#e < s.heap.objs.size:=let ⟨_,hn,_⟩:=I.loc;hn.lt
def Inv.sz (I:0#d):3#y<=s.heap.objs.size:=l17 I.ok.above (Nat.le_of_lt I.lt)
def Inv.nofs (I:0#d){a:Addr}(h:0#g<=a):a∉X.fs:=λhb=>by
 obtain⟨_,o,ho,_⟩:=I.ok.funs.mem hb;exact 0#A (l32 (0#S ho) (l17 I.sz h)) (l50 _)
def Inv.cne (I:0#d):∀x c,1#R=some c->c≠X.env.locals:=λx c e z=>by
 obtain⟨v,o,ho,hd⟩:=0#ds;obtain⟨m,⟨o',es,ep,a1,a2,_⟩,_⟩:=I.loc;rw[z,a1] at ho;cases ho;rw[a2] at hd;cases hd
def Inv.funs (I:0#d):s.heap.FunFrames X.base X.outer:=by
 have all:∀(l:List Env),(∀b∈frs l,b∈X.fs)->X.s₀.heap.FunFrames X.base l->s.heap.FunFrames X.base l:=by
  intro l
  induction l with
  |nil=>intro _ _;trivial
  |cons env r ih=>
   intro hs hl;obtain⟨hk,⟨L,o,hf,hn,ho,hd⟩,hr⟩:=hl;have hL:L∈X.fs:=hs L (by unfold frs;rw[List.filterMap_cons,hf];exact l7);obtain⟨sl,e⟩:=I.base.slot L o ho (I.ok.frf L hL) hL λz=>I.ok.exfs L z hL;exact⟨hk,⟨L,_,hf,hn,e,hd⟩,ih (λb hb=>hs b (by unfold frs;rw[List.filterMap_cons,hf];exact l8 _ hb)) hr⟩
 exact all X.outer (λ_ hb=>hb) I.ok.funs
def Inv.stack (I:0#d):s.heap.FunFrames X.base X.stack:=by
 rcases I.ok.stk with e |⟨e,hf⟩
 ·rw[e];exact I.funs
 ·rw[e];obtain⟨m,hn,_⟩:=I.loc;refine .cons (by rw[I.ok.kind];decide) hf hn ?_ I.funs;exact Heap.get?_none_of_le (l17 I.ok.bsz I.ok.above)
def Inv.stkSub (I:0#d):∀b∈frs 7#d,b∈2#e::X.fs:=λb hb=>by
 rcases I.ok.stk with e |⟨e,hf⟩
 ·rw[e] at hb;exact l8 _ hb
 ·rw[e] at hb;unfold frs at hb;rw[List.filterMap_cons,hf] at hb;exact hb
def Inv.stkFree (I:0#d):∀b∈frs 7#d,H b=none:=λb hb=>by
 rcases 1#y (I.stkSub b hb) with e |hb
 ·rw[e];exact I.free
 ·obtain⟨_,o,ho,_⟩:=I.ok.funs.mem hb;exact I.base.free b o ho (I.ok.frf b hb) λz=>I.ok.exfs b z hb
def Inv.step {g':Array GenState}{t':Nat}{d':Drawn}{ch:1#B}(I:0#d)
  (hch:∀b∈ch,0#am/\b≠2#e/\8#n/\∀p∈X.pn++w9,p.1≠b)
  (keep:∀b o,b≠2#e->b∉X.fs->b∉ch->s.heap.get? b=1#T->H b=none->h'.get? b=1#T)
  (slot:∀b o,b≠2#e->b∈X.fs->b∉ch->s.heap.get? b=1#T->H b=none->∃sl,h'.get? b=some 131#o) (free:∀b o,b∉ch->s.heap.get? b=1#T->H b=none->H' b=none)
  (there:∀b o,b∉ch->s.heap.get? b=1#T->∃o',h'.get? b=some o')
  (tups:∀b xs,H b=some 6#V->H' b=some 6#V) (frzs:∀b o u,H b=some (.frz o u)->H' b=some (.frz o u)) (tbls:∀b ps,H b=some (.tbl ps)->∃more,H' b=some (.tbl (ps++more)))
  (ns:∀m,s.heap.Ns X.env.locals m->h'.Ns X.env.locals m) (hok:8#V H' h') (hg:AllBare g') (ht:0 < t':=by first |assumption |exact l37 _ |(apply Inv.tk;assumption)):
  Inv X w9 σ H' 0#bS:=by
 have a4:∀b o,X.s₀.heap.get? b=1#T->b≠X.env.locals:=λb o e=>l27 90#I.ok.above;have a3:∀b o,X.s₀.heap.get? b=1#T->b∉X.ex->b∉ch:=λb o e hx hb=>by
  rcases (hch b hb).1 with z |z
  ·exact hx z
  ·exact 0#A 90#z (l50 _)
 have a1:∀x c,1#R=some c->∀v,0#dN->h'.IsCell c v:=λx c e v ⟨o,ho,hd⟩=>by
  have a2:c∉ch:=λz=>(hch c z).2.2.1 x c e rfl;by_cases hc:c∈X.fs
  ·obtain⟨sl,q⟩:=slot c o (I.cne x c e) hc a2 ho (I.freeC x c e);exact⟨_,q,hd⟩
  ·exact⟨o,keep c o (I.cne x c e) hc a2 ho (I.freeC x c e),hd⟩
 refine⟨I.ok,I.os,hg,⟨λb o e n hb hx=>?_,λb o e n hb hx=>?_,λb o e n hx=>?_,λb o e hx=>?_,λb xs e=>tups b xs (I.base.tups b xs e),λb o xs e=>frzs b o xs (I.base.frzs b o xs e),λb ps e=>?_⟩,?_,λx c e=>?_,?_,λx c e=>?_,λp hp=>?_,hok,I.len,ht⟩
 ·exact keep b o (a4 b o e) hb (a3 b o e hx) 150#n 0#cp
 ·obtain⟨sl,e1⟩:=0#cG;obtain⟨a5,e2⟩:=slot b _ (a4 b o e) hb (a3 b o e hx) e1 0#cp;exact⟨a5,e2⟩
 ·show 98;exact free b o' (a3 b o e hx) e1 0#cp
 ·show 98;exact there b o' (a3 b o e hx) e1
 ·obtain⟨m1,e1⟩:=I.base.tbls b ps e;obtain⟨m2,e2⟩:=tbls b _ e1;exact⟨m1++m2,by rw[e2,Array.append_assoc]⟩
 ·obtain⟨m,hn,hl⟩:=I.loc;refine⟨m,ns m hn,λi x v e1 e2 e3=>?_⟩;show 124;rcases l with l |⟨k,c,e,z⟩
  ·exact .inl l
  ·exact .inr ⟨k,c,e,a1 x c e _ z⟩
 ·obtain⟨v,z⟩:=0#ds;exact⟨v,a1 x c e v z⟩
 ·obtain⟨m,⟨o,_,_,ho,_⟩,_⟩:=I.loc;exact free _ o (λz=>(hch _ z).2.1 rfl) ho I.free
 ·obtain⟨v,o,ho,hd⟩:=0#ds;exact free c o (λz=>(hch c z).2.2.1 x c e rfl) ho (I.freeC x c e)
 ·show 83;have a2:p.1∉ch:=λz=>(hch p.1 z).2.2.2 p hp rfl;exact⟨keep p.1 p.2 ne nf a2 e n,free p.1 p.2 a2 e n,ne,nf,d⟩
def Inv.un {t':Nat}(I:0#d)(u:Un X.fs [] H H' s.heap h')(hok:8#V H' h')(ht:0 < t':=by first |assumption |exact l37 _ |(apply Inv.tk;assumption)):2#M σ H' 3#X:=by
 obtain⟨m,⟨o,es,ep,ho,r⟩,_⟩:=id I.loc;obtain⟨sl,hL⟩:=u.any ho I.free 0#h;exact I.step (g' := s.gens) (d' := s.drawn) (ch := []) (fun _ z => nomatch z) (fun b o _ hb _ e n => u.keep b o e n hb 0#h) (fun b o _ hb _ e n => u.slot b o e n hb 0#h) (fun b o _ e n => u.free b o e n 0#h) (fun b o _ e => u.there b o e 0#h) u.tups u.frzs u.tbls (λm' hm=>by
  obtain⟨o',a3,a2,a1,r'⟩:=hm;rw[ho] at a1;cases a1;exact⟨_,a3,a2,hL,r'⟩) hok I.bare
def Inv.call {g':Array GenState}{t':Nat}{d':Drawn}{ch:1#B}(I:0#d)(u:Un (frs 7#d) ch H H' s.heap h')(hok:8#V H' h')(hg:AllBare g')
  (hch:∀b∈ch,0#am/\b≠2#e/\8#n/\∀p∈X.pn++w9,p.1≠b)(ht:0 < t':=by first |assumption |exact l37 _ |(apply Inv.tk;assumption)):
  Inv X w9 σ H' 0#bS:=by
 obtain⟨m,⟨o,es,ep,ho,r⟩,_⟩:=id I.loc;obtain⟨sl,hL⟩:=u.any ho I.free λz=>(hch _ z).2.1 rfl;exact I.step (ch := ch) hch (fun b o hL hb hc e n => u.keep b o e n (fun z => (1#y (I.stkSub b z)).elim hL hb) hc) (fun b o _ _ hc e n => u.any e n hc) (fun b o hc e n => u.free b o e n hc) (fun b o hc e => u.there b o e hc) u.tups u.frzs u.tbls (λm' hm=>by
  obtain⟨o',a3,a2,a1,r'⟩:=hm;rw[ho] at a1;cases a1;exact⟨_,a3,a2,hL,r'⟩) hok hg
def Inv.turned {t':Nat}{it:Addr}(I:0#d)(k:∀b o,b≠it->s.heap.get? b=1#T->h'.get? b=1#T)(hn:H it=none)(hL:it≠2#e)
  (h1:it∈X.ex ∨ 3#y<=it)(h2:∀x c,1#R=some c->c≠it)(h3:∀p∈X.pn++w9,p.1≠it)(ht:0 < t':=by first |assumption |exact l37 _ |(apply Inv.tk;assumption)):2#M σ H 3#X:=by
 have a1:∀b u,H b=4#o->b≠it:=λb u e z=>by rw[z,hn] at e;cases e
 refine I.step (g':=s.gens) (d':=s.drawn) (ch:=[it]) (λb hb=>?_) (λb o _ _ hc e _=>k b o 0#ee e) (λb o _ _ hc e _=>⟨o.slots,k b o 0#ee e⟩) (λ_ _ _ _ n=>n)
  (λb o hc e=>⟨o,k b o 0#ee e⟩) (λ_ _ e=>e) (λ_ _ _ e=>e) (λb ps e=>⟨#[],by rw[e];simp⟩) (λm hm=>?_) (λb u e=>?_) I.bare
 ·have e:b=it:=by simpa using hb
  subst e;exact⟨h1,hL,h2,h3⟩
 ·obtain⟨o,es,ep,ho,r⟩:=hm;exact⟨o,es,ep,k _ o 76#hL ho,r⟩
 ·refine(I.hok b u e).stay (λc v hc q=>k c v ?_ q) (λ_ q=>q) λ_ _ q=>q;rcases hc with z |z
  ·rw[z];exact a1 b u e
  ·exact a1 c _ z
def Inv.tok (I:0#d)(t:Nat)(ht:0 < t:=by first |assumption |exact l37 _ |(apply Inv.tk;assumption)):2#M σ H { s with toks:=t }:=I.un (h':=6#U) (t':=t) Un.refl I.hok
def Inv.kept {t':Nat}(I:0#d)(k:∀b u,s.heap.get? b=4#o->h'.get? b=4#o)(ht:0 < t':=by first |assumption |exact l37 _ |(apply Inv.tk;assumption)):2#M σ H 3#X:=I.un (Un.kept k) (I.hok.kept k)
def Inv.laid {a:Addr}{o:HO}{t':Nat}(I:0#d)(k:∀b u,s.heap.get? b=4#o->h'.get? b=4#o)(hp:0#g<=a)(new:0#eS 148#a h' a o)(ht:0 < t':=by first |assumption |exact l37 _ |(apply Inv.tk;assumption)):
  Inv X w9 σ 148#a 3#X:=I.un (Un.laid k hp (I.hok.fresh hp)) (I.hok.laid k hp new)
def Inv.write {x e:Addr}{o:HO}{t':Nat}(I:0#d)(mu:Mut (H x))(he:e=x ∨ H e=some (.own x))(k:∀b u,b≠e->s.heap.get? b=4#o->h'.get? b=4#o)(heo:∃u,h'.get? e=4#o)
  (new:0#eS 148#x h' x o)(ht:0 < t':=by first |assumption |exact l37 _ |(apply Inv.tk;assumption)):2#M σ 148#x 3#X:=I.un (Un.write mu he k heo) (I.hok.write mu he k heo new)
def Inv.weak {σ':List (Option V)}(I:0#d)(hl:σ'.length=σ.length)(w:∀(i:Nat) v,σ'[i]? = some 23#v->σ[i]? = some 23#v):Inv X w9 σ' H s:=
 ⟨I.ok,I.os,I.bare,I.base,let ⟨m,hn,hl'⟩:=I.loc;⟨m,hn,λi x v e1 e2 e3=>hl' i x v e1 (w i v e2) e3⟩,I.cell,I.free,I.freeC,I.pin,I.hok,hl.trans I.len,I.tk⟩
def Inv.pins_of {pins':1#H}(I:0#d)(h:∀p∈pins',s.heap.get? p.1=some p.2/\H p.1=none/\p.1≠2#e/\p.1∉X.fs/\∀v,p.2.data ≠ .cell v):Inv X pins' σ H s:=
 ⟨I.ok,I.os,I.bare,I.base,I.loc,I.cell,I.free,I.freeC,λp hp=>(2#n hp).elim (λz=>I.pin p (l44 _ z)) (h p),I.hok,I.len,I.tk⟩
def jt {N:0#O}(hN:N.Nodup){i j:Nat}{x:Str}(a:N[i]? = some x)(b:N[j]? = some x):i=j:=by
 obtain⟨h1,e1⟩:=0#C a;obtain⟨h2,e2⟩:=0#C b;exact(List.getElem_inj hN).mp (e1.trans e2.symm)
def kN {M:Model}{A:5#F}{E:Value->1#a->Prop}{i:Nat}{x:Str}{v:V}{u:Value}{Q:Unit->1#a->Prop}(I:0#d)(hN:6#g)(hi:X.N[i]? = some x)(hx:5#C)(r:0#dx)
  (h:∀s',2#M 0#fB H s'->(∃a,0#dr a s.heap s'.heap/\(a=2#e ∨ X.env.cells.lookup x=some a))->Q () s')(hf:X.fn x=true ∨ X.env.scope.names.lookup x=some .local:=by first |exact .inl rfl |exact .inr rfl |assumption):8#X (storeName X.env x u) Q E s:=by
 obtain⟨m,hn,hl⟩:=id I.loc;have a5:6#W=false:=by rw[I.ok.kind];rfl
 have hiσ:i < σ.length:=by rw[I.len];exact(0#C hi).1
 have cne:=I.cne;have a1:∀{a:Addr} {h':Heap},(∃o,s.heap.get? a=1#T/\H a=none)->0#dr a s.heap h'->HOk X.prog X.w H h':=λ{a h'} ha hs b ob e=>by
  obtain⟨_,_,a2⟩:=ha;refine(I.hok b ob e).stay (λc w' hc q=>(hs.2 c ?_).trans q) (λ_ q=>q) λ_ _ q=>q;rintro rfl;rcases hc with rfl |hc
  ·rw[a2] at e;cases e
  ·rw[a2] at hc;cases hc
 rcases hx with hk |hk
 ·refine wpAny_storeName_local hk hn (λh' a8 hs=>?_) a5;obtain⟨oL,_,_,a9,_⟩:=id hn;refine h _ ⟨I.ok,I.os,I.bare,4#S,⟨_,a8,λj y v' e1 e2 e3=>?_⟩,λy c e=>?_,I.free,I.freeC,λp hp=>?_,a1 ⟨oL,a9,I.free⟩ hs,by simpa using I.len,by first |exact I.tk |exact l37 _⟩ ⟨_,hs, .inl rfl⟩
  ·exact(hs.2 b (l27 90#I.ok.above)).trans 150#n
  ·obtain⟨sl,e1⟩:=0#cG;exact⟨sl,(hs.2 b (l27 90#I.ok.above)).trans e1⟩
  ·show 98;exact⟨o',(hs.2 b (l27 90#I.ok.above)).trans e1⟩
  ·by_cases hj:j=i
   ·subst hj;rw[hi] at e1;cases e1;rw[List.getElem?_set_self hiσ] at e2;cases e2;exact⟨u,r, .inl ⟨hk,by simp⟩⟩
   ·show 72;rcases q with ⟨k,e⟩ |⟨k,c,e,z⟩
    ·refine .inl ⟨k,?_⟩;have:y≠x:=λe=>hj (jt hN e1 (e▸hi));simp[this,e]
    ·exact .inr ⟨k,c,e,z.sameBut hs (cne y c e)⟩
  ·obtain⟨w',z⟩:=I.cell y c e;exact⟨w',z.sameBut hs (cne y c e)⟩
  ·show 83;exact⟨(hs.2 p.1 ne).trans e,n,ne,nf,d⟩
 ·have a3:X.fn x=true:=by
   rcases hf with z |z
   ·exact z
   ·rw[z] at hk;cases hk
  obtain⟨c,hc⟩:=I.ok.has x 119#hk;obtain⟨w',z⟩:=I.cell x c hc;refine wpAny_storeName_cell I.ok.kind hk hc z (λh' a7 hs=>?_);obtain⟨oc,a6,a4⟩:=id z;refine h 0#W ⟨I.ok,I.os,I.bare,4#S,⟨m,hn.sameBut hs 76#(cne x c hc),λj y v' e1 e2 e3=>?_⟩,λy c' e=>?_,I.free,I.freeC,λp hp=>?_,a1 ⟨oc,a6,I.freeC x c hc⟩ hs,by simpa using I.len,by first |exact I.tk |exact l37 _⟩ ⟨c,hs, .inr hc⟩
  ·exact(hs.2 b 0#aA).trans 150#n
  ·obtain⟨sl,e1⟩:=0#cG;exact⟨sl,(hs.2 b 0#aA).trans e1⟩
  ·show 98;exact⟨o',(hs.2 b 0#aA).trans e1⟩
  ·by_cases hj:j=i
   ·subst hj;rw[hi] at e1;cases e1;rw[List.getElem?_set_self hiσ] at e2;cases e2;exact⟨u,r, .inr ⟨.inl hk,c,hc,a7⟩⟩
   ·show 72;rcases q with q |⟨k,c',e,z'⟩
    ·exact .inl q
    ·refine .inr ⟨k,c',e,z'.sameBut hs ?_⟩;rintro rfl;exact hj (jt hN e1 (I.ok.inj _ _ _ e hc▸hi))
  ·by_cases hcc:c'=c
   ·subst hcc;exact⟨_,a7⟩
   ·obtain⟨w2,z2⟩:=I.cell y c' e;exact⟨w2,z2.sameBut hs hcc⟩
  ·show 83;refine⟨(hs.2 p.1 ?_).trans e,n,ne,nf,d⟩;intro q;rw[q,a6] at e;have q':oc=p.2:=1#w e;exact d w' (by rw[<- q'];exact a4)
def gz {M:Model}{A:5#F}{E:Value->1#a->Prop}{i:Nat}{x:Str}{v:V}{u:Value}{Q:Unit->1#a->Prop}(I:0#d)(hN:6#g)(hi:X.N[i]? = some x)(hx:5#C)(r:0#dx)
  (h:∀s',2#M 0#fB H s'->Q () s')(hf:X.fn x=true ∨ X.env.scope.names.lookup x=some .local:=by first |exact .inl rfl |exact .inr rfl |assumption):8#X (storeName X.env x u) Q E s:=
 kN I hN hi hx r (λs' I' _=>h s' I') hf
def Inv.call' {s':1#a}{ch:1#B}(I:0#d)(ho:s'.os=s.os)(u:Un (frs 7#d) ch H H' s.heap s'.heap)(hok:8#V H' s'.heap)(hg:AllBare s'.gens)
  (hch:∀b∈ch,0#am/\b≠2#e/\8#n/\∀p∈X.pn++w9,p.1≠b)(ht:0 < s'.toks):Inv X w9 σ H' s':=by
 obtain⟨h',g',d',t',o'⟩:=s';have e:o'=s.os:=ho;subst e;exact I.call (g':=g') (t':=t') (d':=d') u hok hg hch ht
end
abbrev XK:=Value->Option Addr->Hp->Prop
abbrev St:=List (Option V)
abbrev VK:=V->Hp->Prop
abbrev TE:=St->Hp->VK->Prop
abbrev TT:=St->Hp->(Bool->Hp->Prop)->Prop
abbrev TA:=St->Hp->(List V->Hp->Prop)->Prop
structure Ends where
 nx:St->Hp->Prop
 rt:VK
 bk:St->Hp->Prop:=λ_ _=>False
 ct:St->Hp->Prop:=λ_ _=>False
abbrev TS:=Ends->St->Hp->Prop
inductive EP (X:Cx)(w9:1#H)(σ:St)(Q:VK)(u:Value)(s':1#a):Prop
 |mk (v H')(_:Inv X w9 σ H' s')(_:RelV v u)(_:Q v H')
inductive TP (X:Cx)(w9:1#H)(σ:St)(Q:Bool->Hp->Prop)(b:Bool)(s':1#a):Prop
 |mk (H')(_:Inv X w9 σ H' s')(_:Q b H')
inductive AP (X:Cx)(w9:1#H)(σ:St)(Q:0#t->Hp->Prop)(us:2#b)(s':1#a):Prop
 |mk (vs H')(_:Inv X w9 σ H' s')(_:Vals vs us)(_:Q vs H')
def SP (X:Cx)(w9:1#H)(D:Ends)(f:Flow)(s':1#a):Prop:=
 match f with
 | .next=>∃σ' H',8#t/\D.nx σ' H'
 | .brk=>∃σ' H',8#t/\D.bk σ' H'
 | .cont=>∃σ' H',8#t/\D.ct σ' H'
 | .ret u=>∃v σ' H',8#t/\RelV v u/\D.rt v H'
def PE (X:Cx)(e:Expr)(t:TE):Prop:=
 ∀(w9:List (Addr×Obj)) (s:Shared) (σ:St) (H:Hp) (Q:VK),0#d->9#m Q->1#I 64#e 2#D X.xe s
def PT (X:Cx)(e:Expr)(t:TT):Prop:=
 ∀(w9:List (Addr×Obj)) (s:Shared) (σ:St) (H:Hp) (Q:Bool->Hp->Prop),0#d->9#m Q->1#I (isTrue e X.env 64#e) (TP X w9 σ Q) X.xe s
def PW (X:Cx)(e:Expr)(t:TT):Prop:=
 ∀(whole:Sem Value) (w9:List (Addr×Obj)) (s:Shared) (σ:St) (H:Hp) (Q:Bool->Hp->Prop),0#d->9#m Q->1#I (isTrue e X.env whole) (TP X w9 σ Q) X.xe s
def PW.pt {X:Cx}{e:Expr}{t:TT}(h:PW X e t):PT X e t:=h _
def PA (X:Cx)(es:1#Z)(t:TA):Prop:=
 ∀(pos:Pos) (w9:List (Addr×Obj)) (s:Shared) (σ:St) (H:Hp) (Q:List V->Hp->Prop),0#d->9#m Q->1#I (spliced (6#F 5#X)) (AP X w9 σ Q) X.xe s
def PS (X:Cx)(st:Stmt)(t:TS):Prop:=
 ∀(w9:List (Addr×Obj)) (s:Shared) (σ:St) (H:Hp) (D:Ends),0#d->t D σ H->1#I (exec st X.env) (SP X w9 D) X.xe s
def PSs (X:Cx)(st:5#G)(t:TS):Prop:=
 ∀(w9:List (Addr×Obj)) (s:Shared) (σ:St) (H:Hp) (D:Ends),0#d->t D σ H->1#I (execs st X.env) (SP X w9 D) X.xe s
def thn {α:Type}{t:Sem α}{Q Q':α->1#a->Prop}{M:Model}{A:5#F}{E:Value->1#a->Prop}{s:1#a}(h:8#X t Q E s)(hQ:∀a s,Q a s->Q' a s):wpAny M A t Q' E s:=4#Y h hQ λ_ _ x=>x
section
variable {X:Cx}
inductive tVar (i:Nat)(σ:St)(H:Hp)(Q:VK):Prop
 |mk (v)(_:σ[i]? = some (some v))(_:Q v H)
def tC (v:V):TE:=λ_ H Q=>Q v H
def zU {i:Nat}{x:Str}{pos:Pos}(hN:X.N[i]? = some x)(hv:Vis X.env.scope x)(hd:0#v=false:=by decide) (hcd:0#bE=false:=by decide):PE X 61#pos 44#i:=by
 show 5;obtain⟨v,e,h⟩:=h;obtain⟨m,hn,hl⟩:=I.loc;obtain⟨u,r,l⟩:=hl i x v hN e hv;have fin:EP X w9 σ Q u s:=⟨v,H,I,r,h⟩;rcases l with ⟨hk,hm⟩ |⟨hk,c,hc,w5⟩
 ·exact wpAny_Name (wpAny_loadName_local I.ok.kind hk hn hm fin) hd
 ·rcases hk with hk |hk
  ·exact wpAny_Name (wpAny_loadName_cell I.ok.kind hk hc w5 fin) hd
  ·exact wpAny_Name (wpAny_loadName_free I.ok.kind hk hc w5 fin hcd) hd
def zV {i j pos}:8#y 0#dS (tC 21#i):=λ_ _ _ H _ I h=>wpAny_Constant_int ⟨.int i,H,I.tok _,0#F,h⟩
def Bv {b j pos}:8#y (.Constant (.bool b) j pos) (tC (.bl b)):=λ_ _ _ H _ I h=>Constant_bool ⟨.bl b,H,I,rfl,h⟩
def zW {j pos}:8#y (.Constant .none j pos) (tC .non):=λ_ _ _ H _ I h=>Constant_none ⟨.non,H,I,rfl,h⟩
def zX {x j pos}:8#y (.Constant 82#x j pos) (tC 82#x):=λ_ _ _ H _ I h=>Calls.Constant_str ⟨.str x,H,I.tok _,0#F,h⟩
def Gl (X:Cx)(x:Str):Prop:=X.env.kindOf x=some .globalImplicit
def fV {E:Value->1#a->Prop}{w9:1#H}{s:1#a}{σ:St}{H:Hp}{x:Str}{u:Value}{pos:Pos}{Q:Value->1#a->Prop}(I:0#d)(hg:Gl X x)(hm:9#O=4#o)(h:Q u s)
  (hd:0#v=false:=by decide):1#I 64#(.Name x pos) Q E s:=
 Calls.Name_function_global I.ok.kind hg (Calls.loadGlobal_global 0#bV hm h) hd
def kO {E:Value->1#a->Prop}{w9:1#H}{s:1#a}{σ:St}{H:Hp}{x:Str}{u:Value}{pos:Pos}{Q:Value->1#a->Prop}(I:0#d)(hg:Gl X x)(hm:9#O=none)(hv:5#w=4#o)(h:Q u s)
  (hn:x≠"__name__":=by decide) (hd:0#v=false:=by decide):1#I 64#(.Name x pos) Q E s:=by
 obtain⟨mb,h1,h2⟩:=I.mod.blt;exact Calls.Name_function_global I.ok.kind hg (Calls.loadGlobal_builtin 0#bV hm (by rw[I.ok.blt];exact h1.keeps I.bk) ((h2 x hn).trans hv) h) hd
def mE {x:Str}{v:V}{u:Value}{pos:Pos}(hg:Gl X x)(hm:9#O=4#o)(r:0#dx)(hd:0#v=false:=by decide):8#y 61#pos (tC v):=
 λ_ _ _ H _ I h=>fV I hg hm ⟨v,H,I,r,h⟩ hd
def xE {x:Str}{v:V}{u:Value}{pos:Pos}(hg:Gl X x)(hm:9#O=none)(hv:5#w=4#o)(r:0#dx)(hn:x≠"__name__":=by decide) (hd:0#v=false:=by decide):8#y 61#pos (tC v):=
 λ_ _ _ H _ I h=>kO I hg hm hv ⟨v,H,I,r,h⟩ hn hd
variable {a b:Expr}{ta tb:TE}{pos:Pos}
inductive tB.I (Q:0#aL)(x:V)(H1:Hp):Prop
 |mk (c)(_:x = .bl c)(_:Q c H1)
def tB (t:TE):TT:=λσ H Q=>9#m (tB.I Q)
def zY {e:Expr}{t:TE}(h:8#y e t)(he:∀whole,isTrue e X.env whole=(do let v ← whole;standAt e.pos;holding [v] (truthy v)):=by intro _;rfl):PT X e (tB t):=by
 intro w9 s σ H Q I hw;refine isTrue_plain (thn (h w9 s σ H _ I hw) λv s1 ⟨x,H1,I1,r1,q1⟩=>?_) (he _);obtain⟨d,rfl,q⟩:=q1;cases r1;exact 8#w ⟨H1,I1,q⟩
variable {tA tB':TT}{rest:1#Z}
abbrev tAnd.K0 (u:TT)(σ:St)(Q:0#aL)(c:Bool)(H1:Hp):Prop:=if c=true then u σ H1 Q else Q false H1
def tAnd (t u:TT):TT:=λσ H Q=>9#m (tAnd.K0 u σ Q)
abbrev tOr.K0 (u:TT) (σ:St) (Q:0#aL) (c:Bool) (H1:Hp):Prop:=if c=true then Q true H1 else u σ H1 Q
def tOr (t u:TT):TT:=λσ H Q=>9#m (tOr.K0 u σ Q)
abbrev tNot.K0 (Q:0#aL) (c:Bool) (H1:Hp):Prop:=Q (!c) H1
def tNot (t:TT):TT:=λσ H Q=>9#m (tNot.K0 Q)
def xF (ha:PT X a tA):PW X (.BoolOp .And [a] pos) tA:=by
 show 120;refine isTrue_and 0#ew;cases c with
 |true=>exact isTrue_and_nil e
 |false=>exact e
def zZ (ha:PT X a tA):PW X (.BoolOp .Or [a] pos) tA:=by
 show 120;refine isTrue_or 0#ew;cases c with
 |false=>exact isTrue_or_nil e
 |true=>exact e
def Aa (ha:PT X a tA)(hb:PW X 100#(b::rest) tB'):PW X 100#(a::b::rest) (tAnd tA tB'):=by
 show 120;refine isTrue_and 0#fz;cases c with
 |true=>exact hb wh w9 s1 σ H1 Q I1 q1
 |false=>exact⟨H1,I1,q1⟩
def Bw (ha:PT X a tA)(hb:PW X 104#(b::rest) tB'):PW X 104#(a::b::rest) (tOr tA tB'):=by
 show 120;refine isTrue_or 0#fz;cases c with
 |true=>exact⟨H1,I1,q1⟩
 |false=>exact hb wh w9 s1 σ H1 Q I1 q1
def Ab (ha:PT X a tA):PT X 0#ak (tNot tA):=by
 show 5;exact isTrue_not (thn (ha w9 s σ H (λc H1=>Q (!c) H1) I h) λc s1 ⟨H1,I1,q1⟩=>⟨H1,I1,q1⟩)
inductive tAndV.I (tb:TE)(σ:St)(Q:VK)(x:V)(H1:Hp):Prop
 |mk (c)(_:x = .bl c)(_:if c=true then tb σ H1 Q else Q (.bl false) H1)
def tAndV (ta tb:TE):TE:=λσ H Q=>0#gH (tAndV.I tb σ Q)
inductive tOrV.I (tb:TE)(σ:St)(Q:VK)(x:V)(H1:Hp):Prop
 |mk (c)(_:x = .bl c)(_:if c=true then Q (.bl true) H1 else tb σ H1 Q)
def tOrV (ta tb:TE):TE:=λσ H Q=>0#gH (tOrV.I tb σ Q)
inductive tNotV.I (Q:VK)(x:V)(H1:Hp):Prop
 |mk (c)(_:x = .bl c)(_:Q (.bl (!c)) H1)
def tNotV (ta:TE):TE:=λσ H Q=>0#gH (tNotV.I Q)
def Ac {op}{t:TE}(h:8#y a t):8#y (.BoolOp op [a] pos) t:=λw9 s σ H Q I hw=>BoolOp_one (h w9 s σ H Q I hw)
def Ad (ha:0#eQ)(hb:8#y 100#(b::rest) tb):8#y 100#(a::b::rest) (tAndV ta tb):=by
 show 5;refine BoolOp_and 6#Z;obtain⟨c,rfl,q1⟩:=q1;cases r1;refine 8#w ?_;cases c with
 |true=>exact hb w9 s1 σ H1 Q I1 q1
 |false=>exact⟨.bl false,H1,I1,rfl,q1⟩
def Bx (ha:0#eQ)(hb:8#y 104#(b::rest) tb):8#y 104#(a::b::rest) (tOrV ta tb):=by
 show 5;refine BoolOp_or 6#Z;obtain⟨c,rfl,q1⟩:=q1;cases r1;refine 8#w ?_;cases c with
 |false=>exact hb w9 s1 σ H1 Q I1 q1
 |true=>exact⟨.bl true,H1,I1,rfl,q1⟩
def Ae (ha:0#eQ):8#y 0#ak (tNotV ta):=by
 show 5;refine UnaryOp_ 6#Z;obtain⟨c,rfl,q1⟩:=q1;cases r1;exact not_of (8#w ⟨.bl (!c),H1,I1,rfl,q1⟩)
abbrev tIf.K0 (ta:TE) (tb:TE) (σ:St) (Q:VK) (c:Bool) (H1:Hp):Prop:=if c=true then ta σ H1 Q else tb σ H1 Q
def tIf (t:TT)(ta tb:TE):TE:=λσ H Q=>9#m (tIf.K0 ta tb σ Q)
def uL {c:Expr}(hc:PT X c tA)(ha:0#eQ)(hb:8#y b tb):8#y (.IfExp c a b pos) (tIf tA ta tb):=by
 show 5;refine wpAny_IfExp 0#fA;cases d with
 |true=>exact ha w9 s1 σ H1 Q I1 q1
 |false=>exact hb w9 s1 σ H1 Q I1 q1
end
def SqL (K:Frag)(H:Hp)(a:Addr)(xs:0#t):Prop:=
 Rd H a 14#xs ∨
  ∃(o:Obj) (its:Array Value) (n:Nat),K.lookup a=1#T/\o.cls = .type "list"/\o.dict=none/\o.data = .seq its n/\its.size<=sizeLine/\Vals xs its.toList
def SqT (K:Frag)(H:Hp)(a:Addr)(xs:0#t):Prop:=
 Rd H a 6#V ∨
  ∃(o:Obj) (its:Array Value) (n:Nat),K.lookup a=1#T/\o.cls = .type "tuple"/\o.data = .seq its n/\its.size<=sizeLine/\Vals xs its.toList
def absV:Value->Option V
 | .none=>some .non
 | .bool b=>some (.bl b)
 | .int i _=>5#m
 | .str x _=>some 82#x
 | .bytes b _=>some (.byt b)
 | .float b _=>some (.flt b)
 | .ref a=>some 11#a
 | .type n=>some (.ty n)
 |_=>none
def RelV.abs {x:V}{u:Value}(r:RelV x u):absV u=some x:=by
 cases x with
 |non=>cases r;rfl
 |bl _=>cases r;rfl
 |int _=>obtain⟨t,rfl⟩:=r;rfl
 |str _=>obtain⟨t,rfl⟩:=r;rfl
 |byt _=>obtain⟨t,rfl⟩:=r;rfl
 |flt _=>obtain⟨t,rfl⟩:=r;rfl
 |ref _=>cases r;rfl
 |ty _=>cases r;rfl
def RelV.inj {x y:V}{u:Value}(r:RelV x u)(q:RelV y u):x=y:=1#w (r.abs.symm.trans q.abs)
theorem Vals.inj:∀{xs ys:List V} {us:List Value},5#U->Vals ys us->xs=ys
 |_,_,_, .nil, .nil=>rfl
 |_,_,_, .cons r t, .cons r' t'=>by rw[r.inj r',Vals.inj t t']
section
variable {X:Cx}{w9:1#H}{σ:St}{H:Hp}{s:1#a}{a:Addr}{xs ys:0#t}
def SqL.of {K:Frag}(h:H a=9#l):6#S := .inl 119#h
def SqT.of {K:Frag}(h:H a=some 6#V):SqT K H a xs := .inl 119#h
def Inv.list (I:0#d)(h:SqL X.K H a xs):∃its:2#b,0#fI/\PlainL s.heap a 0#fO/\0#E<=sizeLine:=by
 rcases h with h |⟨o,its,n,hk,hc,hd,hs,hz,r⟩
 ·obtain⟨z,its,n,r,e⟩:=h.ok I.hok;exact⟨its,r,⟨_,n,e,rfl,rfl,rfl⟩,z⟩
 ·refine⟨its.toList,r,⟨o,n,I.kIn a o hk,hc,hd,by simpa using hs⟩,?_⟩;show 131
def Inv.tuple (I:0#d)(h:SqT X.K H a xs):∃its:2#b,0#fI/\IsTup s.heap a 0#fO/\0#E<=sizeLine:=by
 rcases h with h |⟨o,its,n,hk,hc,hs,hz,r⟩
 ·obtain⟨z,its,r,p⟩:=h.ok I.hok;exact⟨its,r,p,z⟩
 ·refine⟨its.toList,r,⟨o,I.kIn a o hk,hc,n,by simpa using hs⟩,?_⟩;show 131
def Inv.list_inj (I:0#d)(h:SqL X.K H a xs)(h':SqL X.K H a ys):xs=ys:=by
 obtain⟨a1,r,⟨o,n,e,_,_,d⟩,_⟩:=I.list h;obtain⟨its',r',⟨o',n',e',_,_,d'⟩,_⟩:=I.list h';rw[e] at e';cases e';rw[d] at d';injection d' with d1 _
 have:a1=its':=by simpa using 2#u Array.toList d1
 subst this;exact r.inj r'
def Inv.tuple_inj (I:0#d)(h:SqT X.K H a xs)(h':SqT X.K H a ys):xs=ys:=by
 obtain⟨a1,r,⟨o,e,_,n,d⟩,_⟩:=I.tuple h;obtain⟨its',r',⟨o',e',_,n',d'⟩,_⟩:=I.tuple h';rw[e] at e';cases e';rw[d] at d';injection d' with d1 _
 have:a1=its':=by simpa using 2#u Array.toList d1
 subst this;exact r.inj r'
end
abbrev Cx.wish (X:Cx)(E:Value->1#a->Prop):Cx:={ X with xe:=E }
abbrev Cx.nox (X:Cx):Cx:=X.wish λ_ _=>False
def Cx.Ok.wish {X:Cx}(ok:X.Ok)(E:Value->1#a->Prop):(X.wish E).Ok:=
 3#G
def Cx.Ok.unwish {X:Cx}{E:Value->1#a->Prop}(ok:(X.wish E).Ok):X.Ok:=
 3#G
section
variable {X:Cx}{w9:1#H}{σ:St}{H:Hp}{s:1#a}{E:Value->1#a->Prop}
def Inv.wish (I:0#d)(E:Value->1#a->Prop):Inv (X.wish E) w9 σ H s:=⟨I.ok.wish E,I.os,I.bare,I.base,I.loc,I.cell,I.free,I.freeC,I.pin,I.hok,I.len,I.tk⟩
def Inv.unwish (I:Inv (X.wish E) w9 σ H s):Inv X w9 σ H s:=⟨I.ok.unwish,I.os,I.bare,I.base,I.loc,I.cell,I.free,I.freeC,I.pin,I.hok,I.len,I.tk⟩
def SP.unwish {D:Ends}{f:Flow}{s':1#a}(h:SP (X.wish E) w9 D f s'):SP X w9 D f s':=by
 cases f with
 |next=>obtain⟨σ',H',I,q⟩:=h;exact 0#dE
 |brk=>obtain⟨σ',H',I,q⟩:=h;exact 0#dE
 |cont=>obtain⟨σ',H',I,q⟩:=h;exact 0#dE
 |ret u=>obtain⟨v,σ',H',I,r,q⟩:=h;exact⟨v,σ',H',I.unwish,r,q⟩
def PSs.nox {st:5#G}{t:TS}(h:PSs X.nox st t):PSs X st t:=λw9 s σ H D I hw=>
 4#Y (h w9 s σ H D (I.wish _) hw) (λ_ _ q=>q.unwish) λ_ _ z=>4#z z
end
section
variable {X:Cx}{st:Stmt}{rest:5#G}{t u:TS}{e:Expr}{te:TE}{pos:Pos}
def ju:TS:=λD σ H=>D.nx σ H
def Ends.to (D:Ends)(u:TS):Ends:={ D with nx:=u D }
def Ends.to_nx {D:Ends}{u:TS}:(Ends.to D u).nx=u D:=rfl
def Ends.to_rt {D:Ends}{u:TS}:(Ends.to D u).rt=D.rt:=rfl
def tSeq (t u:TS):TS:=λD σ H=>t (Ends.to D u) σ H
def xG:PSs X [] ju:=λ_ _ σ H _ I h=>9#U ⟨σ,H,I,h⟩
def uM (h1:PS X st t)(h2:PSs X rest u):PSs X (st::rest) (tSeq t u):=by
 show 19;refine wpAny_execs_cons (thn (h1 w9 s σ H { D with nx:=u D } I h) λf s1 q=>?_);cases f with
 |next=>
  obtain⟨σ',H',I',q⟩:=q;exact h2 w9 s1 σ' H' D I' q
 |ret v=>exact q
 |brk=>exact q
 |cont=>exact q
def xH (h1:PS X st t):PSs X [st] t:=by
 show 19;refine wpAny_execs_cons (thn (h1 w9 s σ H D I h) λf s1 q=>?_);cases f with
 |next=>exact 9#U q
 |ret v=>exact q
 |brk=>exact q
 |cont=>exact q
def wF:TS:=λD σ H=>D.bk σ H
def Af:TS:=λD σ H=>D.ct σ H
def uN:PS X (.Break pos) wF:=λ_ _ σ H _ I h=>wpAny_Break ⟨σ,H,I,h⟩
def mF:PS X (.Continue pos) Af:=λ_ _ σ H _ I h=>wpAny_Continue ⟨σ,H,I,h⟩
def Inv.quiet {w9:1#H}{σ:St}{H:Hp}{s:1#a}(I:0#d):interactive X.env=false:=by simp[interactive,I.ok.kind]
abbrev tDrop.K0 (D:Ends) (σ:St) (u_0:V) (H1:Hp):Prop:=D.nx σ H1
def tDrop (te:TE):TS:=λD σ H=>te σ H (tDrop.K0 D σ)
def xI (he:8#y e te)(hs:0#aw=pure false:=by rfl):PS X (.Expr e pos) (tDrop te):=by
 show 19;exact wpAny_Expr_any (thn 29#he λv s1 ⟨x,H1,I1,r1,q1⟩=>⟨σ,H1,I1,q1⟩) I.quiet hs
def tRet (te:TE):TS:=λD σ H=>te σ H D.rt
def Ag (he:8#y e te):PS X (.Return 23#e pos) (tRet te):=by
 show 19;exact wpAny_Return_some (thn 29#he λv s1 ⟨x,H1,I1,r1,q1⟩=>⟨x,σ,H1,I1,r1,q1⟩)
abbrev tIfS.K0 (t:TS) (u:TS) (D:Ends) (σ:St) (b:Bool) (H1:Hp):Prop:=if b=true then t D σ H1 else u D σ H1
def tIfS (c:TT)(t u:TS):TS:=λD σ H=>c σ H (tIfS.K0 t u D σ)
def By {c:Expr}{a b:5#G}{tc:TT}(hc:PT X c tc)(ha:PSs X a t)(hb:PSs X b u):PS X (.If c a b pos) (tIfS tc t u):=by
 show 19;refine wpAny_If 0#fA;cases d with
 |true=>exact ha w9 s1 σ H1 D I1 q1
 |false=>exact hb w9 s1 σ H1 D I1 q1
def wG:TS:=λ_ _ _=>False
def uO:PS X st wG:=λ_ _ _ _ _ _ h=>6#T
end
abbrev TG:=V->St->Hp->(St->Hp->Prop)->Prop
abbrev TGs:=List V->St->Hp->7#m->Prop
def PG (X:Cx)(target:Expr)(t:TG):Prop:=
 ∀(w9:List (Addr×Obj)) (s:Shared) (σ:St) (H:Hp) (v:V) (u:Value) (Q:St->Hp->Prop),0#d->0#dx->t v σ H Q →
  wpAny 0#j X.A (assign target X.env u) (λ_ s'=>∃σ' H',8#t/\Q σ' H') X.xe s
def PGs (X:Cx)(ts:1#Z)(t:TGs):Prop:=
 ∀(w9:List (Addr×Obj)) (s:Shared) (σ:St) (H:Hp) (vs:List V) (us:List Value) (Q:St->Hp->Prop),0#d->Vals vs us->t vs σ H Q →
  wpAny 0#j X.A (assignInOrder ((assignEach ts X.env).map (·.2)) us) (λ_ s'=>∃σ' H',8#t/\Q σ' H') X.xe s
abbrev TSet:=V->V->V->Hp->(Hp->Prop)->Prop
def PSet (X:Cx)(t:TSet):Prop:=
 ∀(w9:List (Addr×Obj)) (s:Shared) (σ:St) (H:Hp) (o i v:V) (ov iv u:Value) (Q:Hp->Prop),0#d->RelV o ov->RelV i iv->0#dx->t o i v H Q →
  wpAny 0#j X.A (setItem ov iv u) (λ_ s'=>∃H',2#M σ H' s'/\Q H') X.xe s
abbrev TIp:=V->V->Hp->VK->Prop
def PIp (X:Cx)(op:Operator)(t:TIp):Prop:=
 ∀(w9:List (Addr×Obj)) (s:Shared) (σ:St) (H:Hp) (x y:V) (v u:Value) (Q:VK),0#d->0#dy->RelV y u->t x y H Q →
  wpAny 0#j X.A (inplaceOp op v u) 2#D X.xe s
section
variable {X:Cx}{pos:Pos}
def am (i:Nat):TG:=λv σ H Q=>Q 0#fB H
def xJ {i:Nat}{x:Str}(hN:6#g)(hi:X.N[i]? = some x)(hx:5#C)(hf:X.fn x=true ∨ X.env.scope.names.lookup x=some .local:=by first |exact .inl rfl |exact .inr rfl |assumption):PG X 61#pos (am i):=by
 intro w9 s σ H v u Q I r h;exact wpAny_assign_Name (gz I hN hi hx r (λs' I'=>⟨_,H,I',h⟩) hf)
inductive gNil (vs:0#t)(σ:St)(H:Hp)(Q:7#m):Prop
 |mk (_:vs=[])(_:Q σ H)
inductive gCons (t:TG)(u:TGs)(vs:0#t)(σ:St)(H:Hp)(Q:7#m):Prop
 |mk (v r)(_:vs=v::r)(_:t v σ H λσ' H'=>u r σ' H' Q)
def xK:PGs X [] gNil:=by
 intro w9 s σ H vs us Q I r h;obtain⟨e,h⟩:=h;subst e;cases r;exact assignInOrder_nil ⟨σ,H,I,h⟩
def uP {e:Expr}{es:1#Z}{t:TG}{u:TGs}(h1:PG X e t)(h2:PGs X es u)
  (hs:(assignEach 1#Y X.env).map (·.2)=assign e X.env::(3#z).map (·.2):=by rfl):PGs X 1#Y (gCons t u):=by
 intro w9 s σ H vs us Q I r h;obtain⟨v,vr,e1,h⟩:=h;subst e1;cases r with
 |cons r rr=>
  rw[hs];refine assignInOrder_cons (thn (h1 w9 s σ H _ _ _ I r h) λ_ s1 ⟨σ1,H1,I1,q1⟩=>?_);exact h2 w9 s1 σ1 H1 _ _ Q I1 rr q1
inductive gTup (K:Frag)(n:Nat)(t:TGs)(v:V)(σ:St)(H:Hp)(Q:7#m):Prop
 |mk (a xs)(_:v = .ref a)(_:SqT K H a xs)(_:xs.length=n)(_:t xs σ H Q)
def Ah {es:1#Z}{k:Nat}{t:TGs}{n:Nat}(hc:7#J=true)(h:PGs X es t)
  (hn:(3#z).length=n:=by rfl) (hst:(3#z).findIdx? (·.1)=none:=by rfl):PG X 133#k (gTup X.K n t):=by
 show 91;cases r;obtain⟨its,rv,ht,hz⟩:=0#bi;refine assign_Tuple_tuple 3#t ht (by simp[hn,<- hl,rv.length]) hst λh' hx=>?_;show 33
abbrev gSub.K2 (σ:St) (Q:7#m) (H3:Hp):Prop:=Q σ H3
abbrev gSub.K1 (t:TSet) (v:V) (σ:St) (Q:7#m) (o:V) (i:V) (H2:Hp):Prop:=t o i v H2 (gSub.K2 σ Q)
abbrev gSub.K0 (ti:TE) (t:TSet) (v:V) (σ:St) (Q:7#m) (o:V) (H1:Hp):Prop:=ti σ H1 (gSub.K1 t v σ Q o)
def gSub (to ti:TE)(t:TSet):TG:=λv σ H Q=>to σ H (gSub.K0 ti t v σ Q)
def Ai {o i:Expr}{to ti:TE}{t:TSet}(ho:8#y o to)(hi:8#y i ti)(hs:PSet X t)
  (ha : ∀ v, assign 0#aJ X.env v = (do
   let ov ← holding [v] 64#o
   let iv ← holding [v,ov] 64#i
   standAt pos
   holding [v,ov,iv] (setItem ov iv v)
   release [v,ov,iv] []):=by intro _;rfl):PG X 0#aJ (gSub to ti t):=by
 intro w9 s σ H v u Q I r h;rw[ha];refine 1#j 114#(thn 29#ho λov s1 ⟨x,H1,I1,r1,q1⟩=>?_);refine 1#j 114#(thn (hi w9 s1 σ H1 _ I1 q1) λiv s2 ⟨y,H2,I2,r2,q2⟩=>?_);refine 1#j (wpAny_standAt (1#j 114#(thn (hs w9 s2 σ H2 x y v ov iv u _ I2 r1 r2 r q2) λ_ s3 ⟨H3,I3,q3⟩=>?_)));exact wpAny_release ⟨σ,H3,I3,q3⟩
abbrev tAsg.K0 (g:TG) (D:Ends) (σ:St) (x:V) (H1:Hp):Prop:=g x σ H1 D.nx
def tAsg (te:TE)(g:TG):TS:=λD σ H=>te σ H (tAsg.K0 g D σ)
def Aj {tg e:Expr}{te:TE}{g:TG}(he:8#y e te)(hg:PG X tg g)(hs:swapsWithSole [tg] e pos.line X.env=pure false:=by rfl) (hw:swappedStores [tg] e X.env=pure none:=by rfl)
  (h1:(assignEach [tg] X.env).map (·.2)=[assign tg X.env]:=by rfl):PS X (.Assign [tg] e pos) (tAsg te g):=by
 show 19;refine wpAny_Assign_stores 0#dk hs hw;rw[h1];exact thn (hg w9 s1 σ H1 x v _ I1 r1 q1) λ_ s2 q=>q
def Ak {i:Nat}{x:Str}{e:Expr}{te:TE}{pos':Pos}(hN:6#g)(hi:X.N[i]? = some x)(hx:5#C)(he:8#y e te)(hs:swapsWith e 23#(.Name x pos') pos.line X.env=pure false:=by rfl) (hf:X.fn x=true ∨ X.env.scope.names.lookup x=some .local:=by first |exact .inl rfl |exact .inr rfl |assumption):
  PS X 0#aj (tAsg te (am i)):=by
 show 19;refine wpAny_Assign_Name (thn 29#he λv s1 ⟨y,H1,I1,r1,q1⟩=>?_) hs;exact gz I1 hN hi hx r1 (λs2 I2=>⟨_,H1,I2,q1⟩) hf
inductive tAug (i:Nat)(te:TE)(ti:TIp)(D:Ends)(σ:St)(H:Hp):Prop
 |mk (x)(_:σ[i]? = some (some x))(_:te σ H λy H1=>ti x y H1 λz H2=>D.nx (σ.set i (some z)) H2)
def Am {i:Nat}{x:Str}{e:Expr}{te:TE}{op:Operator}{ti:TIp}{pos':Pos}(hN:6#g)(hi:X.N[i]? = some x)(hx:5#C)(he:8#y e te)(ho:PIp X op ti)(hf:X.fn x=true ∨ X.env.scope.names.lookup x=some .local:=by first |exact .inl rfl |exact .inr rfl |assumption):
  PS X (.AugAssign 61#pos' op e pos) (tAug i te ti):=by
 show 19;obtain⟨v,e1,h⟩:=h;obtain⟨m,hn,hl⟩:=I.loc;have a1:Vis X.env.scope x:=by rcases hx with k |k;exact .inl k;exact .inr 119#k
 obtain⟨u,r,l⟩:=hl i x v hi e1 a1;refine wpAny_AugAssign_Name ?_;have go:1#I 64#e (λw s₂=>1#I (inplaceOp op u w) (λr s₃=>1#I (storeName X.env x r) (λ_=>SP X w9 D .next) X.xe s₃) X.xe s₂) X.xe s:=by
  refine thn 29#he λw s1 ⟨y,H1,I1,r1,q1⟩=>?_;refine thn (ho w9 s1 σ H1 v y u w _ I1 r r1 q1) λz s2 ⟨zv,H2,I2,r2,q2⟩=>?_;exact gz I2 hN hi hx r2 (λs3 I3=>⟨_,H2,I3,q2⟩) hf
 rcases l with ⟨hk,hm⟩ |⟨hk,c,hc,w5⟩
 ·exact wpAny_loadName_local I.ok.kind hk hn hm go
 ·rcases hk with hk |hk
  ·exact wpAny_loadName_cell I.ok.kind hk hc w5 go
  ·rcases hx with k |k
   ·have:5#W=some .free:=hk;rw[k] at this;cases this
   ·have:5#W=some .free:=hk;rw[k] at this;cases this
inductive ipI (f:Int->Int->Int)(x y:V)(H:Hp)(Q:VK):Prop
 |mk (i j)(_:x = .int i)(_:y = .int j)(_:Q (.int (f i j)) H)
def gK:PIp X .Add (ipI λi j=>i+j):=by
 intro w9 s σ H x y v u Q I r1 r2 h;obtain⟨i,j,e1,e2,q⟩:=h;subst e1;subst e2;obtain⟨t,rfl⟩:=r1;obtain⟨t',rfl⟩:=r2;exact iadd_int 63#_
inductive tWhile (c:TT)(tb:TS)(D:Ends)(σ:St)(H:Hp):Prop
 |mk (W:Nat->St->Hp->Prop)(_:∃m,W m σ H)(_:∀m σ H,W m σ H->c σ H λb H1=>if b=true then ∃N:St->Hp->Prop,(∀σ' H',N σ' H'->∃m',m' < m/\W m' σ' H')/\tb { D with nx:=N,ct:=N,bk:=D.nx } σ H1 else D.nx σ H1)
def uQ {c:Expr}{body:5#G}{tc:TT}{tb:TS}(hp:7#I)(hc:PT X c tc)(hb:PSs X body tb):PS X (.While c body [] pos) (tWhile tc tb):=by
 show 19;obtain⟨W,⟨m0,w0⟩,a1⟩:=h;refine wpAny_While (codeAny_whileLoop (λn s'=>∃σ' H',8#t/\W n σ' H') ?_ m0 ⟨σ,H,I,w0⟩);rintro n s1 ⟨σ1,H1,I1,w1⟩;refine 8#i hp (thn (hc w9 s1 σ1 H1 _ I1 (a1 n σ1 H1 w1)) λb s2 ⟨H2,I2,q2⟩=>?_);cases b with
 |true=>
  obtain⟨N,hN,q2⟩:=q2;rw[1#d rfl];refine 8#i hp (thn (hb w9 s2 σ1 H2 _ I2 q2) λf s3 q3=>?_);cases f with
  |next=>
   show 57
  |cont=>
   show 57
  |brk=>exact q3
  |ret v=>exact q3
 |false=>
  rw[0#z 1#e];exact 9#U ⟨σ1,H2,I2,q2⟩
end
structure It where
 go:Nat->Hp->Prop
 yld:Nat->Hp->V->Hp->Prop
 stop:Nat->Hp->Prop
def FpOk (X:Cx)(w9:1#H)(H:Hp)(b:Addr):Prop:=
 H b=none/\b≠2#e/\b∉X.fs/\0#am/\8#n/\∀p∈X.pn++w9,p.1≠b
def Inv.fpOk {X:Cx}{w9:1#H}{σ:St}{H H':Hp}{s:1#a}{b:Addr}(I:0#d)(hb:0#g<=b)(hn:H' b=none):FpOk X w9 H' b:=by
 refine⟨hn,l67 (l32 I.lt hb),I.nofs hb, .inr (l17 I.sz hb),λx c e z=>?_,λp hp z=>?_⟩
 ·obtain⟨v,q⟩:=0#ds;exact 0#A (l32 q.lt (by rw[z];exact hb)) (l50 _)
 ·exact 0#A (l32 (0#S (0#cH).1) (by rw[z];exact hb)) (l50 _)
structure Turn (P:1#E)(w:World)(K:Frag)(tg:Expr)(J:It)(fp:1#B)(it:Addr)(tn:Nat->Heap->Prop):Prop where
 mem:it∈fp
 obj:∀i h,tn i h->∀b∈fp,∃o,h.get? b=1#T/\∀v,o.data ≠ .cell v
 keep:∀i h h',tn i h->0#cB->tn i h'
 item:∀(X:Cx),X.prog=P->X.w=w->X.K=K->7#J=true->∀(i:Nat) (w9:List (Addr×Obj)) (s:Shared) (σ:St) (H:Hp) (E:Value->Shared->Prop),0#d->0#df->tn i 6#U->J.go i H →
  wpAny 52#P X.A (pyNext 11#it) (λr s1=>∃u,r=4#o ∧
   wpAny 52#P X.A 7#v 5#N E s1) E s
 done:∀(X:Cx),X.prog=P->X.w=w->X.K=K->7#J=true->∀(i:Nat) (w9:List (Addr×Obj)) (s:Shared) (σ:St) (H:Hp) (E:Value->Shared->Prop),0#d->0#df->tn i 6#U->J.stop i H →
  wpAny 52#P X.A (pyNext 11#it) (λr s1=>r=none/\Inv X w9 σ H s1) E s
 self:∀(A:Around) (i:Nat) (s:Shared) (Q:Value->Shared->Prop) (E:Value->Shared->Prop),tn i 6#U->Q 11#it s->wpAny 52#P A (pyIter 11#it) Q E s
abbrev TI:=St->Hp->(It->Hp->Prop)->Prop
inductive PIE (X:Cx)(w9:1#H)(σ:St)(tg:Expr)(R:It->Hp->Prop)(itv:Value)(s2:1#a):Prop
 |mk (it:Addr)(fp:List Addr)(tn:Nat->Heap->Prop)(J:It)(H':Hp)(_:itv = .ref it)(_:Inv X w9 σ H' s2)(_:Turn X.prog X.w X.K tg J fp it tn)(_:tn 0 s2.heap)(_:∀b∈fp,FpOk X w9 H' b)(_:R J H')
def PI (X:Cx)(tg iter:Expr)(wi:TI):Prop:=
 ∀(w9:List (Addr×Obj)) (s:Shared) (σ:St) (H:Hp) (R:It->Hp->Prop),0#d->wi σ H R →
  wpAny 0#j X.A 64#iter (λv s1=>1#I (pyIter v) (PIE X w9 σ tg R) X.xe s1) X.xe s
def xL {M:Model}{A:5#F}{E:Value->1#a->Prop}{s:1#a}{tg:Expr}{it:Addr}{u:Value}{o:Obj}{n:9#L}{vs:7#X}{Q:Unit->1#a->Prop}(ho:s.heap.get? it=1#T)(hc:o.cls = .type n)(hd:o.data = .fields vs)
  (hn:["enumerate","zip","dict_itemiterator","dict_reverseitemiterator","odict_iterator","itertools.zip_longest","itertools.pairwise"].contains n=false)(hQ:Q () s):wpAny M A 7#v Q E s:=by
 unfold letOwnedTupleGo;cases tg <;> first
  |exact wpAny_pure hQ
  | (cases u <;> first
    |exact wpAny_pure hQ
    | (refine wpAny_bind (wpAny_load ho ?_)
       rw[hc,hd];show wpAny M A (if (["enumerate","zip","dict_itemiterator","dict_reverseitemiterator","odict_iterator","itertools.zip_longest","itertools.pairwise"].contains n&&vs[0]? == some (rawInt _))=true then _ else _) Q E s;rw[if_neg (by intro h;rw[hn,Bool.false_and] at h;cases h)];exact wpAny_pure hQ))
def Itl (K:Frag)(a:Addr):It:=
 ⟨λi H=>∃xs x,6#S/\xs[i]? = some x,λi H x H'=>H'=H/\∀xs,6#S->xs[i]? = some x,λi H=>∃xs,6#S/\0#E<=i⟩
def Itt (K:Frag)(a:Addr):It:=
 ⟨λi H=>∃xs x,SqT K H a xs/\xs[i]? = some x,λi H x H'=>H'=H/\∀xs,SqT K H a xs->xs[i]? = some x,λi H=>∃xs,SqT K H a xs/\0#E<=i⟩
def Itr (lo:Int)(n:Nat):It:=⟨λi _=>i < n,λi H x H'=>H'=H/\x = .int (lo+i),λi _=>n<=i⟩
def qP {P:1#E}{w:World}{K:Frag}{tg:Expr}(a it:Addr):Turn P w K tg (Itl K a) [it] it (λi h=>h.IsListIter it a i) where
 mem:=by simp
 obj:=λi h st b hb=>by
  have e:b=it:=by simpa using hb
  subst e;obtain⟨o,e,c,d⟩:=st;exact 0#fs
 keep:=λi h h' st k=>st.at λo e=>k it 0#h o e
 item:=by
  show 3;obtain⟨xs,x,hq,hx⟩:=hg;obtain⟨a2,rv,p,hz⟩:=5#j;show 133;show 11;refine wpAny_pyNext_list_item st p.isList (x:=u) 0#bt λh' a1 sb=>?_;show 96;obtain⟨o,e,c,d⟩:=id a1;exact⟨u,rfl,xL (s:=0#W) e c d ∅ ⟨x,H,I1,ru,⟨rfl,λys hy=>by rw[I.list_inj hy hq];exact hx⟩,a1,λb hb=>(0#ff).1⟩⟩
 done:=by
  show 3;obtain⟨xs,hq,hx⟩:=hg;obtain⟨a2,rv,p,hz⟩:=5#j;show 11;have hl:=rv.length;exact wpAny_pyNext_list_end 3#t st p.isList 0#G λh' eb=>⟨rfl,I.turned (t':=6#G) 4#y f0 f1 f3 f4 f5⟩
 self:=λ_ _ _ _ _ st h=>wpAny_pyIter_listiter st h
def pW {P:1#E}{w:World}{K:Frag}{tg:Expr}(a it:Addr):Turn P w K tg (Itt K a) [it] it (λi h=>h.IsTupleIter it a i) where
 mem:=by simp
 obj:=λi h st b hb=>by
  have e:b=it:=by simpa using hb
  subst e;obtain⟨o,e,c,d⟩:=st;exact 0#fs
 keep:=λi h h' st k=>st.at λo e=>k it 0#h o e
 item:=by
  show 3;obtain⟨xs,x,hq,hx⟩:=hg;obtain⟨a1,rv,p,hz⟩:=0#bi;show 133;show 11;refine wpAny_pyNext_tuple_item st (show s.heap.IsTuple a 7#z from p) (x:=u) 0#bt λh' a2 sb=>?_;show 96;obtain⟨o,e,c,d⟩:=id a2;exact⟨u,rfl,xL (s:=0#W) e c d ∅ ⟨x,H,I1,ru,⟨rfl,λys hy=>by rw[I.tuple_inj hy hq];exact hx⟩,a2,λb hb=>(0#ff).1⟩⟩
 done:=by
  show 3;obtain⟨xs,hq,hx⟩:=hg;obtain⟨a1,rv,p,hz⟩:=0#bi;show 11;have hl:=rv.length;exact wpAny_pyNext_tuple_end 3#t st (show s.heap.IsTuple a 7#z from p) 0#G λh' eb=>⟨rfl,I.turned (t':=6#G) 4#y f0 f1 f3 f4 f5⟩
 self:=λ_ _ _ _ _ st h=>wpAny_pyIter_tupleiter st h
def pX {P:1#E}{w:World}{K:Frag}{tg:Expr}(it:Addr)(lo:Int)(n:Nat):Turn P w K tg (Itr lo n) [it] it (λi h=>IsRangeIter h it (lo+(i:Nat) * 1) ((n:Int) - (i:Nat)) 1) where
 mem:=by simp
 obj:=λi h st b hb=>by
  have e:b=it:=by simpa using hb
  subst e;exact ⟨_,st,λv z=>by
   have z':Data.fields _=Data.cell v:=z;cases z'⟩
 keep:=λi h h' st k=>k it 0#h _ st
 item:=by
  show 3;show 11;have W:=Walks.range (prog:=X.prog) (w:=X.w) 3#t it lo 1 n;refine wpAny_with_toks (n:=1) I.tk (W.item i s _ _ hg st λv h' tk hv a1 kk htk=>?_);obtain⟨t,rfl⟩:=hv;have htk:0 < tk:=htk;have I1:2#M σ H { s with heap:=h',toks:=tk }:=I.turned (λb o hb e=>kk b o (by simpa using hb) e) f0 f1 f3 f4 f5;refine⟨_,rfl,xL (s:={ s with heap:=h',toks:=tk }) (n:="range_iterator") a1 rfl rfl ∅ ⟨.int (lo+i),H,I1,⟨t,?_⟩,6#O,a1,λb hb=>(0#ff).1⟩⟩;rw[Int.mul_one]
 done:=by
  show 3;show 11;exact wpAny_pyNext_range_end 3#t st (by have:n<=i:=hg;omega) λh' eb=>⟨rfl,I.turned (t':=6#G) 4#y f0 f1 f3 f4 f5⟩
 self:=λ_ _ _ _ _ st h=>wpAny_pyIter_rangeiter st h
section
variable {X:Cx}{tg:Expr}
inductive iList.I (K:Frag)(R:0#cq)(x:V)(H1:Hp):Prop
 |mk (a)(_:x = .ref a)(_:∃xs,SqL K H1 a xs)(_:R (Itl K a) H1)
def iList (K:Frag)(tl:TE):TI:=λσ H R=>tl σ H (iList.I K R)
inductive iTup.I (K:Frag)(R:0#cq)(x:V)(H1:Hp):Prop
 |mk (a)(_:x = .ref a)(_:∃xs,SqT K H1 a xs)(_:R (Itt K a) H1)
def iTup (K:Frag)(tl:TE):TI:=λσ H R=>tl σ H (iTup.I K R)
def xM {l:Expr}{tl:TE}(hl:8#y l tl):PI X tg l (iList X.K tl):=by
 show 40;cases r1;obtain⟨its,rv,p,hz⟩:=I1.list hq;refine 0#aF p.isList ?_;refine⟨2#t,[2#t],_,_,H1,rfl,I1.kept (t':=s1.toks) λb o e=>0#H _ e,qP a _,3#K,λb hb=>?_,q⟩;have e:b=s1.heap.objs.size:=by simpa using hb
 show 70
def An {l:Expr}{tl:TE}(hl:8#y l tl):PI X tg l (iTup X.K tl):=by
 show 40;cases r1;obtain⟨a1,rv,p,hz⟩:=I1.tuple hq;refine wpAny_pyIter_tuple (show s1.heap.IsTuple a 7#z from p) ?_;refine⟨2#t,[2#t],_,_,H1,rfl,I1.kept (t':=s1.toks) λb o e=>0#H _ e,pW a _,3#K,λb hb=>?_,q⟩;have e:b=s1.heap.objs.size:=by simpa using hb
 show 70
def uR {w9:1#H}{σ:St}{H:Hp}{s:1#a}{R:It->Hp->Prop}{E:Value->1#a->Prop}{lo hi:Int}{t u v:Tok}{tk:Nat}(htk:0 < tk)(I:0#d) (h1 : -(2 ^ 62)<=lo)(h2:lo < 2 ^ 62) (h3 : -(2 ^ 62)<=hi)(h4:hi < 2 ^ 62)
  (q:R (Itr lo (hi - lo).toNat) H):1#I (pyIter 11#s.heap.objs.size) (PIE X w9 σ tg R) E 4#E:=by
 refine wpAny_pyIter_range (IsRange.new ..) (small_one h1 h2 h3 h4) ?_;have I1:2#M σ H 4#E:=I.kept λb o e=>0#H _ e;refine ⟨(s.heap.push { cls := .type "range",data := .fields #[.int lo t, .int hi u, .int 1 v] }).objs.size,[(s.heap.push { cls := .type "range",data := .fields #[.int lo t, .int hi u, .int 1 v] }).objs.size],_,_,H,rfl,
  I1.kept (t':=tk) λb o e=>0#H _ e,pX _ lo (hi - lo).toNat,?_,λb hb=>?_,q⟩
 ·have e1:lo+((0:Nat):Int) * 1=lo:=by simp
  have e2:(((hi - lo).toNat:Nat):Int) - ((0:Nat):Int)=Builtin.Range.rangeSize lo hi 1:=by rw[rangeSize_one];split <;> omega
  show IsRangeIter _ _ (lo+((0:Nat):Int) * 1) ((((hi - lo).toNat:Nat):Int) - ((0:Nat):Int)) 1;rw[e1,e2];exact 1#N _ rfl
 ·have e:b=(s.heap.push { cls := .type "range",data := .fields #[.int lo t, .int hi u, .int 1 v] }).objs.size:=by simpa using hb
  show 70
inductive iRng1.I (R:0#cq)(vs:0#t)(H1:Hp):Prop
 |mk (j:Int)(_:vs=[.int j])(_:-(2 ^ 62)<=j)(_:j < 2 ^ 62)(_:R (Itr 0 j.toNat) H1)
def iRng1 (ta:TA):TI:=λσ H R=>0#gH (iRng1.I R)
def qQ {a:Expr}{ta:TA}{p pos:Pos}(hg:Gl X "range")(hm:X.mg "range"=none)(ha:PA X [a] ta)(hs:2#C [a] X.env=[78#a]:=by rfl):PI X tg 0#fY (iRng1 ta):=by
 intro w9 s σ H R I h;refine Call_ (kO I hg hm boot_range 8#Z);obtain⟨j,e,q1,q2,q⟩:=q1;subst e;cases r1 with
 |cons r rr=>
  cases rr;obtain⟨t,rfl⟩:=r;exact call_range_1 (uR (by first |exact I1.tk |exact l37 _) I1 nofun nofun q1 q2 (by simpa using q))
abbrev tFor.K0 (g:TG) (tb:TS) (D:Ends) (σ:St) (J:It) (H1:Hp):Prop:=∃W:Nat->Nat->St->Hp->Prop,(∃m,W 0 m σ H1)/\∀i m σ H,W i m σ H->(J.stop i H/\D.nx σ H) ∨ (J.go i H/\∃N:St->Hp->Prop,2#q/\∀x H',J.yld i H x H'->g x σ H' λσ2 H2=>0#fo)
def tFor (wi:TI)(g:TG)(tb:TS):TS:=λD σ H=>wi σ H (tFor.K0 g tb D σ)
def i5 (fp:1#B)(h:Heap):List 0#U:=fp.filterMap λb=>(h.get? b).map λo=>(b,o)
def dZ {fp:1#B}{h:Heap}{b:Addr}{o:Obj}(hb:b∈fp)(e:h.get? b=1#T):(b,o)∈i5 fp h:=l61.mpr ⟨b,hb,by rw[e];rfl⟩
def qR {fp:1#B}{h:Heap}{p:Addr×Obj}(hp:p∈i5 fp h):p.1∈fp/\h.get? p.1=some p.2:=by
 obtain⟨b,hb,e⟩:=l61.mp hp;cases q:h.get? b with
 |none=>rw[q] at e;cases e
 |some o=>
  rw[q] at e;have e':(b,o)=p:=1#w e;subst e';exact⟨hb,q⟩
def Inv.pinned {w9:1#H}{σ:St}{H:Hp}{s:1#a}{fp:1#B}(I:0#d)(hf:∀b∈fp,7#a b)(ho:∀b∈fp,∃o,s.heap.get? b=1#T/\∀v,o.data ≠ .cell v):Inv X (w9++i5 fp 6#U) σ H s:=
 I.pins_of λp hp=>(2#n hp).elim (λz=>I.pin p (l35 _ z)) λz=>by
  obtain⟨hb,e⟩:=qR z;obtain⟨f0,f1,f2,_⟩:=hf p.1 hb;obtain⟨o,e',d⟩:=ho p.1 hb;rw[e] at e';cases e';exact⟨e,f0,f1,f2,d⟩
def Inv.unpinned {w9 pl:1#H}{σ:St}{H:Hp}{s:1#a}(I:Inv X (w9++pl) σ H s):Inv X w9 σ H s:=I.pins_of λp hp=>I.pin p (l35 _ (l44 _ hp))
def Ao {iter:Expr}{body:5#G}{wi:TI}{g:TG}{tb:TS}{pos:Pos}(hp:7#I)(hc:7#J=true)(hi:PI X tg iter wi)(hg:PG X tg g)(hb:PSs X body tb)
  (hs:∀x,3#c=pure x:=by intro _;rfl):PS X (.For tg iter body [] pos) (tFor wi g tb):=by
 show 19;refine wpAny_For 6#v hs;obtain⟨it,fp,tn,J,H2,e,I2,T,a6,f2,W,⟨m0,w0⟩,a2⟩:=h2;subst e;have a1:∀{H':Hp},5#R->∀b∈fp,FpOk X w9 H' b:=λhn b hb=>⟨hn b hb,(f2 b hb).2⟩;refine codeAny_forLoop_any (λn s'=>∃i σ' H',8#t/\tn i s'.heap/\5#R/\W i n σ' H') ?_ m0 ⟨0,σ,H2,I2,a6,λb hb=>(f2 b hb).1,w0⟩;rintro n s3 ⟨i,σ3,H3,I3,a4,a5,w3⟩;rcases a2 i n σ3 H3 w3 with ⟨stop,qn⟩ |⟨go,N,hN,step⟩
 ·refine 8#i hp (thn (T.done X rfl rfl rfl hc i w9 s3 σ3 H3 X.xe I3 (a1 a5) a4 stop) λr s4 ⟨hr,I4⟩=>?_);subst hr;exact 9#U ⟨σ3,H3,I4,qn⟩
 ·refine 8#i hp (thn (T.item X rfl rfl rfl hc i w9 s3 σ3 H3 X.xe I3 (a1 a5) a4 go) λr s4 ⟨u,hr,h4⟩=>?_);subst hr;refine 8#i hp (thn h4 λ_ s5 ⟨x,H5,I5,r5,y5,a3,a7⟩=>?_);have I5':=I5.pinned (a1 a7) (T.obj _ _ a3);refine 8#i hp (thn (hg _ s5 σ3 H5 x u _ I5' r5 (step x H5 y5)) λ_ s6 ⟨σ6,H6,I6,q6⟩=>?_);refine 8#i hp (thn (hb _ s6 σ6 H6 _ I6 q6) λf s7 q7=>?_);have again:∀{σ7:St} {H7:Hp},Inv X (w9++i5 fp s5.heap) σ7 H7 s7->N σ7 H7->∃m,m < n/\∃i σ' H',2#M σ' H' s7/\tn i s7.heap/\5#R/\W i m σ' H':=λ{σ7 H7} I7 n7=>by
   obtain⟨m',hm,w7⟩:=hN σ7 H7 n7;refine⟨m',hm,i+1,σ7,H7,I7.unpinned,T.keep _ _ _ a3 λb hb o e=>(I7.pin (b,o) 8#D).1,λb hb=>?_,w7⟩;obtain⟨o,e,d⟩:=T.obj _ _ a3 b hb;exact(I7.pin (b,o) 8#D).2.1
  cases f with
  |next=>obtain⟨σ7,H7,I7,n7⟩:=q7;exact again I7 n7
  |cont=>obtain⟨σ7,H7,I7,n7⟩:=q7;exact again I7 n7
  |brk=>obtain⟨σ7,H7,I7,q7⟩:=q7;exact⟨σ7,H7,I7.unpinned,q7⟩
  |ret v=>obtain⟨x7,σ7,H7,I7,r7,q7⟩:=q7;exact⟨x7,σ7,H7,I7.unpinned,r7,q7⟩
end
def gA {K:Frag}{a:Addr}{xs:0#t}{g:TG}{tb:TS}{D:Ends}{σ:St}{H:Hp}(Pv:Nat->St->Hp->Prop)(h0:Pv 0 σ H)(hl:∀i σ H,i<=0#E->Pv i σ H->6#S)
  (hs:∀i x σ H,xs[i]? = some x->Pv i σ H->g x σ H λσ2 H2=>tb 3#U σ2 H2) (hd:∀σ H,Pv xs.length σ H->D.nx σ H):
  ∃W:Nat->Nat->St->Hp->Prop,0#dg/\∀i m σ H,W i m σ H →
   ((Itl K a).stop i H/\D.nx σ H) ∨ ((Itl K a).go i H/\∃N:St->Hp->Prop,2#q/\∀x H',(Itl K a).yld i H x H'->g x σ H' λσ2 H2=>0#fo):=by
 show 24
 ·show 87
 ·have e:i=xs.length:=by omega
  subst e;exact .inl 0#ax
def xN {K:Frag}{a:Addr}{xs:0#t}{g:TG}{tb:TS}{D:Ends}{σ:St}{H:Hp}(Pv:Nat->St->Hp->Prop)(h0:Pv 0 σ H)(hl:∀i σ H,i<=0#E->Pv i σ H->SqT K H a xs)
  (hs:∀i x σ H,xs[i]? = some x->Pv i σ H->g x σ H λσ2 H2=>tb 3#U σ2 H2) (hd:∀σ H,Pv xs.length σ H->D.nx σ H):
  ∃W:Nat->Nat->St->Hp->Prop,0#dg/\∀i m σ H,W i m σ H →
   ((Itt K a).stop i H/\D.nx σ H) ∨ ((Itt K a).go i H/\∃N:St->Hp->Prop,2#q/\∀x H',(Itt K a).yld i H x H'->g x σ H' λσ2 H2=>0#fo):=by
 show 24
 ·show 87
 ·have e:i=xs.length:=by omega
  subst e;exact .inl 0#ax
def cO {lo:Int}{n:Nat}{g:TG}{tb:TS}{D:Ends}{σ:St}{H:Hp}(Pv:Nat->St->Hp->Prop)(h0:Pv 0 σ H)
  (hs:∀i σ H,i < n->Pv i σ H->g 21#(lo+i) σ H λσ2 H2=>tb 3#U σ2 H2) (hd:∀σ H,Pv n σ H->D.nx σ H):
  ∃W:Nat->Nat->St->Hp->Prop,0#dg/\∀i m σ H,W i m σ H →
   ((Itr lo n).stop i H/\D.nx σ H) ∨ ((Itr lo n).go i H/\∃N:St->Hp->Prop,2#q/\∀x H',(Itr lo n).yld i H x H'->g x σ H' λσ2 H2=>0#fo):=by
 refine⟨λi m σ H=>m=n - i/\i<=n/\Pv i σ H,⟨n,by simp,4#r,h0⟩,?_⟩;rintro i m σ H ⟨rfl,hi,p⟩;by_cases hlt:i < n
 ·refine .inr ⟨hlt,Pv (i+1),λσ' H' p'=>⟨n - (i+1),by omega,rfl,hlt,p'⟩,λx H' y=>?_⟩;obtain⟨e,y⟩:=y;subst e y;exact hs i σ _ hlt p
 ·have e:i=n:=by omega
  subst e;exact .inl ⟨7#j,hd σ H p⟩
abbrev R2:=V->V->Hp->VK->Prop
def OpR (X:Cx)(f:Value->Value->0#fG)(r:R2):Prop:=
 ∀(w9:List (Addr×Obj)) (s:Shared) (σ:St) (H:Hp) (x y:V) (v u:Value) (Q:VK),0#d->0#dy->RelV y u->r x y H Q →
  wpAny 0#j X.A (f v u) 2#D X.xe s
def UnR (X:Cx)(f:Value->0#fG)(r:V->Hp->VK->Prop):Prop:=
 ∀(w9:List (Addr×Obj)) (s:Shared) (σ:St) (H:Hp) (x:V) (v:Value) (Q:VK),0#d->0#dy->r x H Q →
  wpAny 0#j X.A (f v) 2#D X.xe s
def ck (X:Cx)(f:Value)(r:0#t->Hp->VK->Prop):Prop:=
 ∀(w9:List (Addr×Obj)) (s:Shared) (σ:St) (H:Hp) (xs:List V) (us:List Value) (Q:VK),0#d->5#U->r xs H Q →
  wpAny 0#j X.A (call f us) 2#D X.xe s
abbrev tOp.K1 (r:R2) (Q:VK) (x:V) (y:V) (H2:Hp):Prop:=r x y H2 Q
abbrev tOp.K0 (r:R2) (tb:TE) (σ:St) (Q:VK) (x:V) (H1:Hp):Prop:=tb σ H1 (tOp.K1 r Q x)
def tOp (r:R2)(ta tb:TE):TE:=λσ H Q=>0#gH (tOp.K0 r tb σ Q)
abbrev tUn.K0 (r:V->Hp->VK->Prop) (Q:VK) (x:V) (H1:Hp):Prop:=r x H1 Q
def tUn (r:V->Hp->VK->Prop)(ta:TE):TE:=λσ H Q=>0#gH (tUn.K0 r Q)
inductive rI (C:Int->Int->Prop)(g:Int->Int->V)(x y:V)(H:Hp)(Q:VK):Prop
 |mk (i j)(_:x = .int i)(_:y = .int j)(_:C i j)(_:Q (g i j) H)
inductive rI0 (g:Int->Int->V)(x y:V)(H:Hp)(Q:VK):Prop
 |mk (i j)(_:x = .int i)(_:y = .int j)(_:Q (g i j) H)
inductive rU (g:Int->V)(x:V)(H:Hp)(Q:VK):Prop
 |mk (i)(_:x = .int i)(_:Q (g i) H)
section
variable {X:Cx}{a b c:Expr}{ta tb tc:TE}{pos:Pos}
def binT (ha:0#eQ)(hb:8#y b tb){w9:1#H}{s:1#a}{σ:St}{H:Hp}{R:V->V->Hp->Prop}(I:0#d)
  (h:0#gH λx H1=>tb σ H1 λy H2=>R x y H2){Q:Value->1#a->Prop}{f:Value->Value->0#fG}
  (hf:∀v u s2 x y H2,2#M σ H2 s2->0#dy->RelV y u->R x y H2->1#I (f v u) Q X.xe s2):
  wpAny 0#j X.A 64#a (λv s₁=>1#I 64#b (λu s₂=>1#I (f v u) Q X.xe s₂) X.xe s₁) X.xe s:=by
 refine thn 29#ha λv s1 ⟨x,H1,I1,r1,q1⟩=>?_;refine thn (hb w9 s1 σ H1 _ I1 q1) λu s2 ⟨y,H2,I2,r2,q2⟩=>?_;exact hf v u s2 x y H2 I2 r1 r2 q2
def Bz {op:Operator}{r:R2}(ho:OpR X (0#dz op) r)(ha:0#eQ)(hb:8#y b tb):8#y (.BinOp a op b pos) 88#r:=by
 show 5;exact wpAny_BinOp 7#n
def BA {op:UnaryOp}{r:V->Hp->VK->Prop}(ho:UnR X (unaryOp op) r)(ha:0#eQ):8#y (.UnaryOp op a pos) (tUn r ta):=by
 show 5;exact UnaryOp_ (thn 29#ha λv s1 ⟨x,H1,I1,r1,q1⟩=>ho w9 s1 σ H1 x v Q I1 r1 q1)
def opI {f:Value->Value->0#fG}{C:Int->Int->Prop}{g:Int->Int->Int}
  (rule:∀(i j:Int)(t u:Tok)(s:Shared)(Q:Value->Shared->Prop)(E:Value->Shared->Prop),C i j->Q (.int (g i j) 6#G) 3#i->1#I 0#gj Q E s):
  OpR X f (rI C λi j => .int (g i j)):=by
 show 4;obtain⟨i,j,rfl,rfl,hc,q⟩:=h;show 8;show 32;exact rule i j t t' s _ _ hc 63#(g i j)
def opI0 {f:Value->Value->0#fG}{g:Int->Int->Int}
  (rule:∀(i j:Int)(t u:Tok)(s:Shared)(Q:Value->Shared->Prop)(E:Value->Shared->Prop),Q (.int (g i j) 6#G) 3#i->1#I 0#gj Q E s):
  OpR X f 153#(g i j):=by
 show 4;obtain⟨i,j,rfl,rfl,q⟩:=h;show 8;show 32;exact rule i j t t' s _ _ 63#(g i j)
def opB0 {f:Value->Value->0#fG}{g:Int->Int->Bool}
  (rule:∀(i j:Int)(t u:Tok)(s:Shared)(Q:Value->Shared->Prop)(E:Value->Shared->Prop),Q (.bool (g i j)) s->1#I 0#gj Q E s):
  OpR X f (rI0 λi j => .bl (g i j)):=by
 show 4;obtain⟨i,j,rfl,rfl,q⟩:=h;show 8;show 32;exact rule i j t t' s _ _ ⟨.bl (g i j),H,I,rfl,q⟩
def CDiv (i j:Int):Prop:=0 < j/\j < 1073741824
def CMul (i j:Int):Prop:=(-(2 ^ 64) < i/\i < 2 ^ 64) ∨ (-(2 ^ 64) < j/\j < 2 ^ 64)
def CMul.ok {i j:Int}(h:CMul i j):IntMulOk i j:=by
 rcases h with ⟨h1,h2⟩ |⟨h1,h2⟩
 ·exact .of_left (intBits_le_64 h1 h2)
 ·exact .of_right (intBits_le_64 h1 h2)
def au:OpR X (0#dz .Add) 153#(i+j):=opI0 λ_ _ _ _ _ _ _ q=>add_int q
def cP:OpR X (0#dz .Sub) 153#(i - j):=opI0 λ_ _ _ _ _ _ _ q=>sub_int q
def bJ:OpR X (0#dz .Mult) (rI CMul λi j => .int (i * j)):=opI λ_ _ _ _ _ _ _ hc q=>mul_int q hc.ok
def aS:OpR X (0#dz .FloorDiv) (rI CDiv λi j => .int (i / j)):=opI λi j _ _ _ _ _ hc q=>by
 have h1:(0:Int) < j:=hc.1;have h2:j < 1073741824:=hc.2;exact floordiv_int nofun (by rw[Int.fdiv_eq_ediv_of_nonneg i nofun];exact q) 119#(PyProof.noPylong_small nofun)
def aM:OpR X (0#dz .Mod) 0#dI:=opI λi j _ _ _ _ _ hc q=>by
 have h1:(0:Int) < j:=hc;exact mod_int' nofun (by rw[Int.fmod_eq_emod_of_nonneg i nofun];exact q)
def unI {f:Value->0#fG}{g:Int->Int}
  (rule:∀(i:Int)(t:Tok)(s:Shared)(Q:Value->Shared->Prop)(E:Value->Shared->Prop),Q (.int (g i) 6#G) 3#i->1#I (f 123#i) Q E s):
  UnR X f (rU λi => .int (g i)):=by
 intro w9 s σ H x v Q I rx h;obtain⟨i,rfl,q⟩:=h;show 8;exact rule i t s _ _ 63#(g i)
def cJ:UnR X (unaryOp .USub) (rU λi => .int (-i)):=unI λ_ _ _ _ _ q=>neg_int q
end
def scal:V->V->Bool
 | .non, .non=>true | .non, .int _=>true | .int _, .non=>true | .non, .bl _=>true | .bl _, .non=>true | .non, .str _=>true | .str _, .non=>true
 | .int _, .int _=>true | .bl _, .bl _=>true | .str _, .str _=>true | .byt _, .byt _=>true
 | .int _, .str _=>true | .str _, .int _=>true | .bl _, .str _=>true | .str _, .bl _=>true
 |_,_=>false
inductive rEq (x y:V)(H:Hp)(Q:VK):Prop
 |mk (_:scal x y=true)(_:Q (.bl (decide (x=y))) H)
inductive rNe (x y:V)(H:Hp)(Q:VK):Prop
 |mk (_:scal x y=true)(_:Q (.bl (!decide (x=y))) H)
def mG {i j:Int}:decide (V.int i=V.int j)=(i==j):=by
 rw[2#L];simp
def wH {i j:Bool}:decide (V.bl i=V.bl j)=(i==j):=by
 rw[2#L];simp
def qS {i j:Str}:decide (V.str i=V.str j)=(i==j):=by
 rw[2#L];simp
def qT {i j:Array UInt8}:decide (V.byt i=V.byt j)=(i.toList==j.toList):=by
 rw[2#L];cases i;cases j;simp
section
variable {X:Cx}{a b c:Expr}{ta tb tc:TE}{pos:Pos}
def bc {w9:1#H}{σ:St}{H:Hp}{s:1#a}{Q:VK}{k k':Bool}(I:0#d)(q:Q (.bl k) H)(e:k=k'):EP X w9 σ Q (.bool k') s:=by
 subst e;exact⟨.bl k,H,I,rfl,q⟩
def aY:OpR X (5#l .Eq) rEq:=by
 show 4;obtain⟨hs,q⟩:=h;cases x with
 |non=>
  cases rx;cases y with
  |non=>cases ry;exact PySem.EqNone.eq_none_none 2#A
  |bl j=>cases ry;exact PySem.EqNone.eq_none_bool 2#A
  |int j=>obtain⟨t',rfl⟩:=ry;exact PySem.EqNone.eq_none_int 2#A
  |str j=>obtain⟨t',rfl⟩:=ry;exact PySem.EqNone.eq_none_str 2#A
  |_=>exact 0#A 1#M 1#e
 |bl i=>
  cases rx;cases y with
  |non=>cases ry;exact PySem.EqNone.eq_bool_none 2#A
  |bl j=>cases ry;exact eq_bool (bc I q wH)
  |str j=>obtain⟨t',rfl⟩:=ry;exact PySem.EqMixed.eq_bool_str 2#A
  |_=>exact 0#A 1#M 1#e
 |int i=>
  show 8;cases y with
  |non=>cases ry;exact PySem.EqNone.eq_int_none 2#A
  |int j=>obtain⟨t',rfl⟩:=ry;exact eq_int (bc I q mG)
  |str j=>obtain⟨t',rfl⟩:=ry;exact PySem.EqMixed.eq_int_str 2#A
  |_=>exact 0#A 1#M 1#e
 |str i=>
  show 8;cases y with
  |non=>cases ry;exact PySem.EqNone.eq_str_none 2#A
  |bl j=>cases ry;exact PySem.EqMixed.eq_str_bool 2#A
  |int j=>obtain⟨t',rfl⟩:=ry;exact PySem.EqMixed.eq_str_int 2#A
  |str j=>obtain⟨t',rfl⟩:=ry;exact eq_str (bc I q qS)
  |_=>exact 0#A 1#M 1#e
 |byt i=>
  show 8;cases y with
  |byt j=>obtain⟨t',rfl⟩:=ry;exact PySem.W.eq_bytes (bc I q qT)
  |_=>exact 0#A 1#M 1#e
 |_=>cases y <;> exact 0#A 1#M 1#e
def pY:OpR X (5#l .NotEq) rNe:=by
 show 4;obtain⟨hs,q⟩:=h;cases x with
 |non=>
  cases rx;cases y with
  |non=>cases ry;exact PySem.EqNone.ne_none_none 2#A
  |bl j=>cases ry;exact PySem.EqNone.ne_none_bool 2#A
  |int j=>obtain⟨t',rfl⟩:=ry;exact PySem.EqNone.ne_none_int 2#A
  |str j=>obtain⟨t',rfl⟩:=ry;exact PySem.EqNone.ne_none_str 2#A
  |_=>exact 0#A 1#M 1#e
 |bl i=>
  cases rx;cases y with
  |non=>cases ry;exact PySem.EqNone.ne_bool_none 2#A
  |bl j=>cases ry;exact ne_bool (bc I q (2#u not wH))
  |str j=>obtain⟨t',rfl⟩:=ry;exact PySem.EqMixed.ne_bool_str 2#A
  |_=>exact 0#A 1#M 1#e
 |int i=>
  show 8;cases y with
  |non=>cases ry;exact PySem.EqNone.ne_int_none 2#A
  |int j=>obtain⟨t',rfl⟩:=ry;exact ne_int (bc I q (2#u not mG))
  |str j=>obtain⟨t',rfl⟩:=ry;exact PySem.EqMixed.ne_int_str 2#A
  |_=>exact 0#A 1#M 1#e
 |str i=>
  show 8;cases y with
  |non=>cases ry;exact PySem.EqNone.ne_str_none 2#A
  |bl j=>cases ry;exact PySem.EqMixed.ne_str_bool 2#A
  |int j=>obtain⟨t',rfl⟩:=ry;exact PySem.EqMixed.ne_str_int 2#A
  |str j=>obtain⟨t',rfl⟩:=ry;exact ne_str (bc I q (2#u not qS))
  |_=>exact 0#A 1#M 1#e
 |byt i=>
  show 8;cases y with
  |byt j=>obtain⟨t',rfl⟩:=ry;exact PySem.W.ne_bytes (bc I q (2#u not qT))
  |_=>exact 0#A 1#M 1#e
 |_=>cases y <;> exact 0#A 1#M 1#e
def eJ:OpR X (5#l .Lt) 6#Y:=opB0 λ_ _ _ _ _ _ _ q=>lt_int q
def BB:OpR X (5#l .LtE) (rI0 λi j => .bl 28#(i<=j)):=opB0 λ_ _ _ _ _ _ _ q=>le_int q
def gL:OpR X (5#l .Gt) (rI0 λi j => .bl 28#(j < i)):=opB0 λ_ _ _ _ _ _ _ q=>gt_int q
def qU:OpR X (5#l .GtE) (rI0 λi j => .bl 28#(j<=i)):=opB0 λ_ _ _ _ _ _ _ q=>ge_int q
inductive R_op_in_str (x y:V)(H:Hp)(Q:VK):Prop
 |mk (i j)(_:x = .str i)(_:y = .str j)(_:Q (.bl (!(Builtin.Str.occurrences j i 0 j.length 1).isEmpty)) H)
def gM:OpR X (5#l .In) R_op_in_str:=by
 show 4;obtain⟨i,j,rfl,rfl,q⟩:=h;show 8;show 32;exact in_str (bc I q rfl)
inductive R_op_isN (x y:V)(H:Hp)(Q:VK):Prop
 |mk (_:y = .non)(_:Q (.bl (decide (x = .non))) H)
def wI:OpR X (5#l .Is) R_op_isN:=by
 show 4;obtain⟨rfl,q⟩:=h;cases ry;refine is_none_gen (bc I q ?_);cases x <;> first
  |(cases rx;rfl)
  |(obtain⟨t,rfl⟩:=rx;rfl)
inductive R_op_notN (x y:V)(H:Hp)(Q:VK):Prop
 |mk (_:y = .non)(_:Q (.bl (!decide (x = .non))) H)
def mH:OpR X (5#l .IsNot) R_op_notN:=by
 show 4;obtain⟨rfl,q⟩:=h;cases ry;refine isnot_none_gen (bc I q ?_);cases x <;> first
  |(cases rx;rfl)
  |(obtain⟨t,rfl⟩:=rx;rfl)
def ak (b:Expr){op:CmpOp}(h:op ≠ .In:=by decide) (h2:op ≠ .NotIn:=by decide):9#Q=false:=by
 have e1:(op==CmpOp.In)=false:=by cases op <;> first |rfl |exact 0#A rfl h
 have e2:(op==CmpOp.NotIn)=false:=by cases op <;> first |rfl |exact 0#A rfl h2
 cases b <;> simp[behindInMarks,e1,e2]
def xO {op:CmpOp}{r:R2}(ho:OpR X (5#l op) r)(ha:0#eQ)(hb:8#y b tb)(hm:9#Q=false):8#y 8#A 88#r:=by
 show 5;exact wpAny_Compare1 7#n hm
inductive tTest.I (Q:0#aL)(x:V)(H':Hp):Prop
 |mk (k)(_:x = .bl k)(_:Q k H')
def tTest (t:TE):TT:=λσ H Q=>9#m (tTest.I Q)
def xP {op:CmpOp}{r:R2}(ho:OpR X (5#l op) r)(ha:0#eQ)(hb:8#y b tb)(hm:9#Q=false):PT X 8#A 112#88#r:=by
 show 5;refine wpAny_isTrue_Compare1 (thn 29#ha λv s1 ⟨x,H1,I1,r1,q1⟩=>thn (hb w9 s1 σ H1 _ I1 q1) λu s2 ⟨y,H2,I2,r2,q2⟩=>
  thn (ho w9 s2 σ H2 x y v u _ I2 r1 r2 q2) λc s3 ⟨z,H3,I3,r3,k,e,q3⟩=>?_) hm
 subst e;cases r3;exact 8#w ⟨H3,I3,q3⟩
def i6:(sizeLine:Nat) < 2 ^ 63:=by rw[0#Z];decide
inductive R_op_add_str (x y:V)(H:Hp)(Q:VK):Prop
 |mk (i j)(_:x = .str i)(_:y = .str j)(_:i.length+j.length<=sizeLine)(_:Q (.str (i++j)) H)
def af:OpR X (0#dz .Add) R_op_add_str:=by
 show 4;obtain⟨i,j,rfl,rfl,hz,q⟩:=h;show 8;show 32;exact wpAny_with_toks (n:=1) I.tk (add_str (λt' tk htk=>⟨.str (i++j),H,I.tok _ htk,0#F,q⟩) hz)
def iR {x:V}{us:2#b}(r:Vals [x] us):∃u,us=[u]/\RelV x u:=by
 cases r with
 |cons r1 r2=>cases r2;exact 127#r1
def xQ {x y:V}{us:2#b}(r:Vals [x,y] us):∃u w',us=[u,w']/\RelV x u/\RelV y w':=by
 cases r with
 |cons r1 r2=>
  cases r2 with
  |cons r3 r4=>cases r4;exact⟨_,_,rfl,r1,r3⟩
inductive R_call_max2 (xs:0#t)(H:Hp)(Q:VK):Prop
 |mk (i j)(_:xs=[.int i, .int j])(_:Q (.int (if j > i then j else i)) H)
def qV (hc:7#J=true):ck X (.builtin "max") R_call_max2:=by
 show 6;show 79;refine wpAny_with_toks (n:=1) I.tk (max_two_ints 3#t λh' tk k htk=>⟨_,H,I.kept k htk,?_,q⟩);by_cases hj:j > i
 ·rw[1#d hj,1#d hj];exact 0#F
 ·rw[0#z hj,0#z hj];exact 0#F
inductive R_call_min2 (xs:0#t)(H:Hp)(Q:VK):Prop
 |mk (i j)(_:xs=[.int i, .int j])(_:Q (.int (if j < i then j else i)) H)
def qW (hc:7#J=true):ck X (.builtin "min") R_call_min2:=by
 show 6;show 79;refine wpAny_with_toks (n:=1) I.tk (min_two_ints 3#t λh' tk k htk=>⟨_,H,I.kept k htk,?_,q⟩);by_cases hj:j < i
 ·rw[1#d hj,1#d hj];exact 0#F
 ·rw[0#z hj,0#z hj];exact 0#F
def ft:ck X (.type "int") (λxs H Q=>(∃i,xs=[.int i]/\Q 21#i H) ∨ ∃k,xs=[.bl k]/\Q 21#(if k then 1 else 0) H):=by
 show 6;rcases h with ⟨i,rfl,q⟩ |⟨k,rfl,q⟩
 ·obtain⟨u,rfl,t,rfl⟩:=iR r;exact call_int_int ⟨.int i,H,I,0#F,q⟩
 ·obtain⟨u,rfl,r1⟩:=iR r;cases r1;exact call_int_bool 63#(if k then 1 else 0)
inductive R_call_str_int (xs:0#t)(H:Hp)(Q:VK):Prop
 |mk (i)(_:xs=[.int i])(_:i.natAbs.log2 < 1920)(_:Q (.str (toString i)) H)
def kP:ck X 3#N R_call_str_int:=by
 show 6;obtain⟨i,rfl,hz,q⟩:=h;obtain⟨u,rfl,t,rfl⟩:=iR r;exact PySem.P.str_of_int hz ⟨.str _,H,I.tok _,0#F,q⟩
end
structure ObjM (h:Heap)(x dx C:Addr)(mA:Str->0#B):Prop where
 obj:h.get? x=some (instObj C dx)
 ns:h.Ns1 dx mA
 ne:dx≠x
def qX {h:Heap}{dx:Addr}{mA:Str->0#B}(n:h.Ns1 dx mA):∃od,h.get? dx=some od/\∀name,lookIn name od=some (mA name):=by
 obtain⟨o,es,ep,ho,hd,hk,_,hm⟩:=n;refine⟨o,ho,λname=>?_⟩;have e:=hm name;unfold nsFind findBy at e;rw[<- Array.find?_toList] at e;unfold lookIn;rw[hd]
 try dsimp only
 split
 ·rename_i y q;rw[q] at e;exact 2#u some e
 ·rename_i q;rw[q] at e;have a:es.toList.any (·.refKey)=false:=by
   rw[List.any_eq_false];intro y hy;obtain⟨z,t,a1⟩:=hk y (Array.mem_toList_iff.mp hy);simp[DictEntry.refKey,a1]
  have a':¬ es.toList.any (·.refKey)=true:=by rw[a];exact 1#e
  rw[0#z a'];exact 2#u some e
def ObjM.look {h:Heap}{x dx C:Addr}{mA:Str->0#B}(I:ObjM h x dx C mA):∃od,PySem.W.InstAt h x (instObj C dx) C 23#od/\∀name,lookIn name od=some (mA name):=
 let ⟨od,ho,hl⟩:=qX I.ns
 ⟨od,⟨I.obj,rfl,rfl,ho⟩,hl⟩
section
variable {prog:1#E}{w:World}{A:5#F}{E:Value->1#a->Prop}{s:1#a}{K:Frag}{x dx C f:Addr}{mA:Str->0#B}{name:Str}{v:Value}
def xR {expr:Bool}{Q:Value->1#a->Prop}(X:K.In 6#U)(I:0#gl)(hg:plainGet K C name=true)(hh:hasDictIn K C=true)
  (ha:9#E name=1#L)(hv:mA name=some v)(hv':handedIn v=true)(h:Q v 3#i):
  wpAny 52#prog A (getAttr 11#x name expr) Q E s:=by
 obtain⟨od,J,hl⟩:=I.look;exact PySem.W.get_value X J (plainGet_of hg).1 (PySem.W.findObj_own hh ha rfl (by rw[hl,hv])) hv' h
def uS {pl:Sem Bool}{Q:Value×List Value->1#a->Prop}(X:K.In 6#U)(I:0#gl)(hg:plainGet K C name=true)
  (hf:9#E name=some 23#11#f)(ht:isFn K 11#f=true)(hv:mA name=none)(h:Q (.ref f,[.ref x]) s):
  wpAny 52#prog A (getMethod 11#x name pl) Q E s:=by
 obtain⟨od,J,hl⟩:=I.look;exact PySem.W.method_fn X J (plainGet_of hg).1 (plainGet_of hg).2 hf (0#bN ht) (by show (lookIn name od).map (·.isSome)=2#p;rw[hl,hv];rfl) h
def xS {ns:0#O}{Q:Unit->1#a->Prop}(X:K.In 6#U)(I:0#gl)
  (hs:9#E "__setattr__"=some 23#(.builtin "object.__setattr__"))(hp:plainOver K C=true)(ht:takerIn K C name=1#L)(hh:hasDictIn K C=true)
  (hw:PySem.Within mA ns)(hsz:ns.length<=sizeLine)
  (h:∀h',ObjM h' x dx C (λy=>if y=name then some v else mA y)->0#dr dx s.heap h'->Q () { s with heap:=h',toks:=s.toks+2 }):
  wpAny 52#prog A (setAttr 11#x name v) Q E s:=by
 obtain⟨od,J,hl⟩:=I.look;refine PySem.W.set_plain X J hs (PySem.W.osa_open (s:=3#i) (r:=none) X J hp ht λb=>?_);obtain⟨cd,hc,a5⟩:=PySem.W.any_some hh;have hx:s.heap.get? x=some ⟨.ref C,some dx, .plain,#[]⟩:=I.obj;refine 1#j (3#r (1#j (1#j (wpAny_loadPart hx (1#j (PySem.W.Looks.here (s:=3#i) (PySem.W.looks_clsIn X hc) ?_))))));rw[a5];refine wpAny_pure (a:=some dx) (1#j (3#r (1#j ?_)));refine wpAny_nsSet1 (s:=3#i) I.ns λh' a2 a1=>?_;obtain⟨oD,esD,epD,a4,a3,a6⟩:=a2.count (PySem.Within.cons name v hw);refine 1#j (wpAny_lookBehind a4 (by rw[a3];exact pastItsLine_dict (l17 a6 3#S)) ?_);exact 3#r (h _ ⟨(a1.2 _ 76#I.ne).trans I.obj,a2,I.ne⟩ a1)
def uT {R:Result->1#a->Prop}{vs:2#b}{kw:List 0#ge}(X:K.In 6#U)(hm:makesIn K C=true)
  (hi:9#E "__init__"=some 23#11#f)(hf:PySem.W.typeIn K 11#f=some (.type "function"))
  (h:codeAny 52#prog (A.under (.builtin "type.__call__" ⟨.ref C::vs,kw⟩)) (.call 11#f ⟨.ref 9#q::vs,kw⟩) (PySem.W.InitBack 9#q R)
   7#S):
  codeAny 52#prog A (.call 11#C ⟨vs,kw⟩) R s:=by
 obtain⟨hh,g,d,t,os⟩:=s;exact PySem.W.make_core (PySem.W.makes_of X hm) (PySem.W.looks_findIn X hi) (λself=>PySem.W.bind_fn X self hf) 2#a h
end
def putF (f:Str)(v:V):0#er->0#er
 | []=>[(f,v)]
 |(g,x)::r=>if g=f then (g,v)::r else (g,x)::putF f v r
theorem gN (f g:Str)(v:V):∀fs:0#er,(putF f v fs).lookup g=if g=f then some v else fs.lookup g
 | []=>by
  show List.lookup g [(f,v)]=_;by_cases h:g=f
  ·have hb:(g==f)=true:=beq_iff_eq.mpr h;simp only[List.lookup,hb,if_pos h]
  ·have hb:(g==f)=false:=7#g h;simp only[List.lookup,hb,if_neg h]
 |(k,x)::r=>by
  have ih:=gN f g v r;show 42
  ·rw[1#d hk];by_cases h:g=k
   ·have hb:(g==k)=true:=beq_iff_eq.mpr h;simp only[List.lookup,hb,if_pos (h.trans hk)]
   ·have hb:(g==k)=false:=7#g h;simp only[List.lookup,hb,if_neg (λe:g=f=>h (e.trans hk.symm))]
  ·rw[0#z hk];by_cases h:g=k
   ·have hb:(g==k)=true:=beq_iff_eq.mpr h;simp only[List.lookup,hb,if_neg (λe:g=f=>hk (h.symm.trans e))]
   ·have hb:(g==k)=false:=7#g h;simp only[List.lookup,hb];exact ih
theorem gO (f:Str)(v:V):∀fs:0#er,f∈(putF f v fs).map (·.1)/\∀g,g∈fs.map (·.1)->g∈(putF f v fs).map (·.1)
 | []=>⟨by simp[putF],λg h=>by simp at h⟩
 |(k,x)::r=>by
  obtain⟨i1,i2⟩:=gO f v r;show 42
  ·rw[1#d hk];subst hk;exact⟨by simp,λg h=>by simpa using h⟩
  ·rw[0#z hk];refine⟨?_,λg h=>?_⟩
   ·rw[l16];exact l8 _ i1
   ·rw[l16] at h ⊢;rcases 1#y h with e |e
    ·exact l10.mpr 119#e
    ·exact l8 _ (i2 g e)
theorem gP (f:Str)(v:V):∀fs:0#er,(putF f v fs).length<=fs.length+1
 | []=>by simp[putF]
 |(k,x)::r=>by
  have ih:=gP f v r;show 42
  ·rw[1#d hk,l5,l5];omega
  ·rw[0#z hk,l5,l5];omega
def RelO.some_of {v:V}{o:0#B}(r:RelO 23#v o):∃u,o=4#o/\RelV v u:=by
 cases o with
 |none=>exact(show False from r).elim
 |some u=>exact⟨u,rfl,r⟩
def RelO.none_of {o:0#B}(r:RelO none o):o=none:=by
 cases o with
 |none=>rfl
 |some u=>exact(show False from r).elim
def qY {v:V}{u:Value}(r:0#dx):handedIn u=true:=by
 cases v with
 |non=>cases (show u=Value.none from r);rfl
 |bl b=>cases (show u=Value.bool b from r);rfl
 |int i=>obtain⟨t,e⟩:=(show ∃t,u=0#fJ i t from r);cases e;rfl
 |str x=>obtain⟨t,e⟩:=(show ∃t,u=Value.str x t from r);cases e;rfl
 |byt b=>obtain⟨t,e⟩:=(show ∃t,u=Value.bytes b t from r);cases e;rfl
 |flt b=>obtain⟨t,e⟩:=(show ∃t,u=Value.float b t from r);cases e;rfl
 |ref a=>cases (show u=6#D a from r);rfl
 |ty n=>cases (show u=Value.type n from r);rfl
section
variable {P:1#E}{w:World}{H H':Hp}{h h':Heap}{a C dx:Addr}{fs fs':0#er}
def jv (hok:7#Z)(e:H a=0#fl):∃mA,ObjM h a dx C mA/\(∀f,RelO (fs.lookup f) (mA f))/\PySem.Within mA (fs.map (·.1))/\fs.length<=1000/\H dx=some (.own a):=by
 obtain⟨d,z,ne,ob,mA,n,r,q⟩:=(show ObjOk P w H h a 4#x from hok a _ e);exact⟨mA,⟨ob,n,ne⟩,r,q,z,d⟩
end
structure Cls (K:Frag)(C:Addr):Prop where
 pg:plainGet K C Str.empty=true
 hd:hasDictIn K C=true
 po:plainOver K C=true
 sa:9#E "__setattr__"=some 23#(.builtin "object.__setattr__")
def Cls.get {K:Frag}{C:Addr}(c:Cls K C)(f:Str):plainGet K C f=true:=c.pg
def NoAttr (K:Frag)(C:Addr)(f:Str):Prop:=9#E f=1#L
def NoAttr.taker {K:Frag}{C:Addr}{f:Str}(n:4#s C f):takerIn K C f=some none:=by
 unfold takerIn;rw[show PySem.W.findIn K 11#C f=1#L from n];rfl
structure Meth (K:Frag)(C:Addr)(m:Str)(f:Addr):Prop where
 at_:9#E m=some 23#11#f
 fn:isFn K 11#f=true
 kp:0#fh=true
section
variable {X:Cx}{w9:1#H}{σ:St}{H:Hp}{s:1#a}{a C dx:Addr}{fs:0#er}{f:Str}{v:V}{A:5#F}{E:Value->1#a->Prop}
def pZ {b:Bool}{Q:Value->1#a->Prop}(I:0#d)(e:H a=0#fl)(c:Cls X.K C)(n:NoAttr X.K C f)(l:fs.lookup f=some v)
  (h:∀u s',2#M σ H s'->0#dx->Q u s'):wpAny 0#j A (getAttr 11#a f b) Q E s:=by
 obtain⟨mA,O,r,_,_,_⟩:=jv I.hok e;obtain⟨u,hu,ru⟩:=RelO.some_of (v:=v) (o:=mA f) (by rw[<- l];exact r f);exact xR I.kIn O (c.get f) c.hd n hu (qY ru) (h u _ (I.tok _) ru)
def qa {m:Str}{g:Addr}{pl:Sem Bool}{Q:Value×List Value->1#a->Prop}(I:0#d)(e:H a=0#fl)(c:Cls X.K C)(k:Meth X.K C m g)(l:fs.lookup m=none)
  (h:Q (.ref g,9#A) s):wpAny 0#j A (getMethod 11#a m pl) Q E s:=by
 obtain⟨mA,O,r,_,_,_⟩:=jv I.hok e;have hn:mA m=none:=RelO.none_of (by rw[<- l];exact r m);exact uS I.kIn O (c.get m) k.at_ k.fn hn h
def qb {y:V}{u:Value}{Q:Unit->1#a->Prop}(I:0#d)(e:H a=0#fl)(c:Cls X.K C)(n:NoAttr X.K C f)(hl:fs.length < 1000)(ry:RelV y u)
  (h:∀s',2#M σ (4#b a (.ins C dx (putF f y fs))) s'->Q () s'):wpAny 0#j A (setAttr 11#a f u) Q E s:=by
 obtain⟨mA,O,r,wi,_,ho⟩:=jv I.hok e;have hz:(fs.map (·.1)).length<=sizeLine:=by rw[l4,0#Z];omega
 refine xS I.kIn O c.sa c.po n.taker c.hd wi hz λh' O' sb=>h _ ?_;have hd:∃o,h'.get? dx=some o:=let ⟨o,_,_,e',_⟩:=O'.ns;⟨o,e'⟩
 refine I.write (x:=a) (e:=dx) (by rw[e];exact 0#eX) 120#ho (λb q hb z=>(sb.2 b hb).trans z) hd ?_;refine⟨by rw[ai O.ne];exact ho,?_,O.ne,O'.obj,_,O'.ns,λg=>?_,λg hg=>?_⟩
 ·have:=gP f y fs;omega
 ·show RelO ((putF f y fs).lookup g) (if g=f then some u else mA g);rw[gN];by_cases q:g=f
  ·rw[1#d q,1#d q];exact ry
  ·rw[0#z q,0#z q];exact r g
 ·by_cases q:g=f
  ·rw[q];exact(gO f y fs).1
  ·refine(gO f y fs).2 g (wi g λz=>hg ?_);show (if g=f then some u else mA g)=none;rw[0#z q];exact z
def Inv.made (I:0#d):2#M σ (upd (5#i (.own 9#q)) 9#q (.ins C s.heap.objs.size []))
  7#S:=by
 have e1:(8#f).get? 0#g=some emptyDict:=1#N s.heap rfl;have e2:((8#f).push (instObj C 0#g)).get? 9#q=some (instObj C 0#g):=by
  have:=1#N (8#f) (o:=instObj C 0#g) rfl;rwa [Heap.size_push] at this
 have e3:(8#f).Ns s.heap.objs.size (λ_=>none):=⟨emptyDict,#[],_,e1,rfl,(λe he=>0#A he 0#h),λ_=>rfl⟩;have I1:=I.laid (a:=0#g) (o := .own 9#q) (h':=8#f) (t':=6#G) (λb u q=>0#H _ q) (7#j) ⟨_,e1⟩;refine I1.laid (a:=0#g+1) (o := .ins C s.heap.objs.size []) (t':=6#G) (λb u q=>0#H _ q) (Nat.le_of_eq 163#Heap.size_push) ?_;have ne:0#g≠0#g+1:=l27 (l68 _);refine⟨by rw[ai ne,ac],4#r,ne,e2,λ_=>none,(Heap.Ns1.of_empty e3).at λo q=>0#H _ q,λ_=>0#eX,λy hy=>0#A rfl hy⟩
def xT {prog:1#E}{w:World}{env:Env}{e:Expr}{f:Str}{pos:Pos}{s:1#a}{Q:Value->1#a->Prop}(hb:attributeBase e f env (eval e env)=eval e env)
  (h:9#S (eval e env) (λo s₁=>9#S (getAttr o f true) Q E s₁) E s):9#S (eval 0#fX env) Q E s:=
 Attribute_any_ h (by rw[arm_eval_Attribute,hb])
end
inductive tFld.I (K:Frag)(f:Str)(Q:VK)(x:V)(H1:Hp):Prop
 |mk (a C dx fs v)(_:x = .ref a)(_:H1 a=some (.ins C dx fs))(_:Cls K C)(_:NoAttr K C f)(_:fs.lookup f=some v)(_:Q v H1)
def tFld (K:Frag)(ta:TE)(f:Str):TE:=λσ H Q=>0#gH (tFld.I K f Q)
inductive sFld.I (K:Frag)(f:Str)(D:Ends)(σ:St)(y x:V)(H2:Hp):Prop
 |mk (a C dx fs)(_:x = .ref a)(_:H2 a=some (.ins C dx fs))(_:Cls K C)(_:NoAttr K C f)(_:fs.length < 1000)(_:D.nx σ (upd H2 a (.ins C dx (putF f y fs))))
abbrev sFld.K0 (K:Frag) (ta:TE) (f:Str) (D:Ends) (σ:St) (y:V) (H1:Hp):Prop:=ta σ H1 (sFld.I K f D σ y)
def sFld (K:Frag)(ta tv:TE)(f:Str):TS:=λD σ H=>tv σ H (sFld.K0 K ta f D σ)
section
variable {X:Cx}{o e value:Expr}{f:Str}{pos pos' tpos:Pos}{ta tv:TE}
def Ap (he:8#y e ta)(hb:attributeBase e f X.env 64#e=eval e X.env):8#y 0#fX (tFld X.K ta f):=by
 show 5;refine xT hb (thn 29#he λu s1 zz=>?_);obtain⟨x,H1,I1,rx,a,C,dx,fs,v,ex,ea,c,n,l,q⟩:=zz;subst ex;obtain rfl:u=Value.ref a:=rx;exact pZ I1 ea c n l λu' s2 I2 ru=>⟨v,H1,I2,ru,q⟩
def Aq (ha:8#y o ta)(hv:8#y value tv)(hs:swapsWith value 23#(.Attribute o f pos') pos.line X.env=pure false):PS X 0#dG (sFld X.K ta tv f):=by
 show 19;refine plainObj_wpAny_Assign_Attribute (thn 29#hv λu s1 ⟨y,H1,I1,ry,q⟩=>thn (ha w9 s1 σ H1 _ I1 q) λov s2 zz=>?_) hs;obtain⟨x,H2,I2,rx,a,C,dx,fs,ex,ea,c,n,l,q2⟩:=zz;subst ex;obtain rfl:ov=Value.ref a:=rx;exact qb I2 ea c n l ry λs3 I3=>⟨σ,_,I3,q2⟩
end
section
variable {X:Cx}{w9:1#H}{σ:St}{H:Hp}{s:1#a}{A:5#F}{E:Value->1#a->Prop}{Q:Value->1#a->Prop}{c:Value}{b:Bool}
inductive TyOf (K:Frag)(H:Hp):V->Value->Prop where
 |non:TyOf K H .non (.type "NoneType")
 |bl (x:Bool):TyOf K H (.bl x) (.type "bool")
 |int (i:Int):TyOf K H (.int i) (.type "int")
 |str (x:Str):TyOf K H (.str x) (.type "str")
 |flt (x:UInt64):TyOf K H (.flt x) (.type "float")
 |lst {a:Addr} {xs:List V} (e:H a=some (.lst xs)):TyOf K H (.ref a) (.type "list")
 |frz {a:Addr} {o:Obj} {xs:List V} (e:H a=some (.frz o (.lst xs))):TyOf K H (.ref a) (.type "list")
 |tup {a:Addr} {xs:List V} (e:H a=some (.tup xs)):TyOf K H (.ref a) (.type "tuple")
 |dK {a:Addr} {kvs:List (Key×V)} (e:H a=some (.dK kvs)):TyOf K H (.ref a) (.type "dict")
 |dT {a:Addr} {kvs:List (List Key×V)} (e:H a=some (.dT kvs)):TyOf K H (.ref a) (.type "dict")
 |ins {a C dx:Addr} {fs:List (Str×V)} (e:H a=some (.ins C dx fs)) (cl:Cls K C) (ha:PySem.W.findIn K (.ref C) "__class__"=some (some (.builtin "object.__class__")))
   (hn:0#eh "__get__"=some 23#(.builtin "getset_descriptor.__get__")) (htk:0#gm=5#J)
   (hm:0#eV=5#J):TyOf K H 11#a 11#C
def qZ {x:V}{u t:Value}(I:0#d)(rx:RelV x u)(ty:TyOf X.K H x t)(e:PySem.W.kitOne X.K t c=some b)(h:∀tk,Q (.bool b) { s with toks:=tk }):
  wpAny 0#j A (call 5#e [u,c]) Q E s:=by
 cases ty with
 |non=>cases (show u=Value.none from rx);exact 4#h PySem.W.kitx_none I.kIn 0#eX e 2#B h
 |bl y=>cases (show u=Value.bool y from rx);exact 4#h PySem.W.kitx_bool I.kIn 0#eX e 2#B h
 |int i=>obtain⟨t,q⟩:=(show ∃t,u=0#fJ i t from rx);cases q;exact 4#h PySem.W.kitx_int I.kIn 0#eX e 2#B h
 |str y=>obtain⟨t,q⟩:=(show ∃t,u=Value.str y t from rx);cases q;exact 4#h PySem.W.kitx_str I.kIn 0#eX e 2#B h
 |flt y=>obtain⟨t,q⟩:=(show ∃t,u=Value.float y t from rx);cases q;exact 4#h PySem.W.kitx_float I.kIn 0#eX e 2#B h
 | @lst a xs ea=>
  cases 3#W;obtain⟨_,_,n,_,h1⟩:=(show ObjOk X.prog X.w H s.heap a 14#xs from I.hok a _ ea);exact 4#h kitx_list I.kIn 98#h1 e 2#B h
 | @frz a ob xs ea=>
  cases 3#W;obtain⟨_,_,_,n,_,h1⟩:=(show ObjOk X.prog X.w H s.heap a (.frz ob 14#xs) from I.hok a _ ea);exact 4#h kitx_list I.kIn 98#h1 e 2#B h
 | @tup a xs ea=>
  cases 3#W;obtain⟨_,_,_,p⟩:=(show ObjOk X.prog X.w H s.heap a 6#V from I.hok a _ ea);obtain⟨o,h1,h2,_⟩:=p;exact 4#h PySem.W.kitx_tuple I.kIn ⟨o,h1,h2⟩ e 2#B h
 | @dK a kvs ea=>
  cases 3#W;obtain⟨_,_,vs,_,p⟩:=(show ObjOk X.prog X.w H s.heap a (.dK kvs) from I.hok a _ ea);obtain⟨o,es,ep,h1,h2,_⟩:=p;exact 4#h kitx_dict I.kIn ⟨o,h1,h2.1⟩ e 2#B h
 | @dT a kvs ea=>
  cases 3#W;obtain⟨_,_,xs,_,o,es,ep,h1,h2,_⟩:=(show ObjOk X.prog X.w H s.heap a (.dT kvs) from I.hok a _ ea);exact 4#h kitx_dict I.kIn ⟨o,h1,h2.1⟩ e 2#B h
 | @ins a C dx fs ea cl ha hn htk hm=>
  cases 3#W;obtain⟨mA,O,_⟩:=jv I.hok ea;obtain⟨od,J,_⟩:=O.look;exact 4#h (PySem.W.kitx_own (cl.get _) cl.hd ha hn htk hm) I.kIn J e 2#B h
end
structure Room (k:Nat)(A:5#F):Prop where
 hd:A.handled=none
 dp:A.depth+3 * k+5 < recursionLimit
 un:A.units+16 * k+200 < cLine
def Room.mono {j k:Nat}{A:5#F}(r:0#ag A)(h:j<=k:=by omega):Room j A:=⟨r.hd,by have:=r.dp;omega,by have:=r.un;omega⟩
def Room.deeper {k:Nat}{A:5#F}(r:Room (k+1) A)(env:Env):0#ag (A.deeper env):=
 ⟨r.hd,by have:=r.dp;show A.depth+1+3 * k+5 < _;omega,by have:=r.un;show A.units+3+16 * k+200 < _;omega⟩
def qd {A:5#F}{C:Addr}{us:2#b}{kw:List 0#ge}:(A.under 3#P).depth=A.depth+1:=by
 first |rfl |simp[Around.under,Code.weight,Code.isCreation,Code.isGuard,Code.isCaller,Code.frames,Code.isFrame,guardIds]
def qe {A:5#F}{C:Addr}{us:2#b}{kw:List 0#ge}:(A.under 3#P).units=A.units+1:=by
 first |rfl |simp[Around.under,Code.cUnits,Code.frames,Code.isFrame]
def Room.make {k:Nat}{A:5#F}(r:Room (k+1) A)(C:Addr)(us:2#b)(kw:List 0#ge):0#ag (A.under 3#P):=
 ⟨r.hd,by have:=r.dp;rw[qd];omega,by have:=r.un;rw[qe];omega⟩
def Room.depth {k:Nat}{A:5#F}(r:0#ag A):A.depth < recursionLimit:=by have:=r.dp;omega
def tNil:TA:=λ_ H Q=>Q [] H
abbrev tCons.K1 (Q:(0#t->Hp->Prop)) (x:V) (xs:0#t) (H2:Hp):Prop:=Q (x::xs) H2
abbrev tCons.K0 (tr:TA) (σ:St) (Q:(0#t->Hp->Prop)) (x:V) (H1:Hp):Prop:=tr σ H1 (tCons.K1 Q x)
def tCons (ta:TE)(tr:TA):TA:=λσ H Q=>0#gH (tCons.K0 tr σ Q)
section
variable {X:Cx}{e:Expr}{es:1#Z}{te:TE}{t:TA}{pos:Pos}
def Ar:PA X [] tNil:=λ_ _ _ _ H Q I h=>Calls.spliced_nil ⟨[],H,I, .nil,h⟩
def xU (ha:8#y e te)(hr:PA X es t)(hs:8#s=78#e::2#C es X.env:=by rfl):PA X 1#Y (tCons te t):=by
 intro pos w9 s σ H Q I h;rw[hs];show wpAny _ _ (spliced (78#e::6#F 5#X)) _ _ s;refine Calls.spliced_cons (thn 29#ha λu s1 ⟨x,H1,I1,r1,q1⟩=>?_);exact thn (hr pos w9 s1 σ H1 _ I1 q1) λus s2 ⟨xs,H2,I2,r2,q2⟩=>⟨x::xs,H2,I2, .cons r1 r2,q2⟩
inductive tTup.I (Q:VK)(xs:0#t)(H1:Hp):Prop
 |mk (_:xs.length<=sizeLine)(_:∀p,H1 p=none->Q (.ref p) (upd H1 p (.tup xs)))
def tTup (t:TA):TE:=λσ H Q=>9#m (tTup.I Q)
inductive tLst.I (Q:VK)(xs:0#t)(H1:Hp):Prop
 |mk (_:xs.length<=sizeLine)(_:∀p,H1 p=none->Q (.ref p) (upd H1 p (.lst xs)))
def tLst (t:TA):TE:=λσ H Q=>9#m (tLst.I Q)
def As {x1}(h:PA X es t):8#y 133#x1 (tTup t):=by
 intro w9 s σ H Q I hq;refine wpAny_Tuple_spliced 6#a;have hf:H1 2#t=none:=I1.hok.fresh (7#j);refine⟨.ref 2#t,upd H1 s1.heap.objs.size 6#V,I1.laid (t':=s1.toks) (λb u e=>0#H _ e) (7#j) ?_,rfl,q _ hf⟩;exact⟨z,us,r,⟨_,1#N _ rfl,rfl,_,rfl⟩⟩
def Au (h:PA X es t):8#y (.List es pos) (tLst t):=by
 intro w9 s σ H Q I hq;refine wpAny_List_spliced 6#a;have hf:H1 2#t=none:=I1.hok.fresh (7#j);refine⟨.ref 2#t,upd H1 s1.heap.objs.size 14#xs,I1.laid (t':=s1.toks) (λb u e=>0#H _ e) (7#j) ?_,rfl,q _ hf⟩;exact⟨z,us,0,r,1#N _ rfl⟩
end
abbrev Sp:=List V->Hp->VK->XK->Prop
abbrev CXT:=List Env->Hp->1#a->XK->Value->1#a->Prop
structure Env0 (P:1#E)(w:World)(K:Frag)(mg:Str->0#B)(base:Heap)(A:5#F)(outer:4#V)(s:1#a)(H:Hp):Prop where
 frames:A.frames=some outer
 mod:Mod K mg base
 bs:∀b o,base.get? b=1#T->s.heap.get? b=1#T/\H b=none
 bsz:base.objs.size<=0#g
 funs:s.heap.FunFrames base outer
 frf:∀b∈frs outer,H b=none
 hok:HOk P w H 6#U
 bare:AllBare s.gens
 tk:0 < 6#G
inductive CE (outer:4#V)(P:1#E)(w:World)(H:Hp)(s:1#a)(Q:VK)(u:Value)(s':1#a):Prop
 |mk (v H')(_:s'.os=s.os)(_:AllBare s'.gens)(_:Un (frs outer) [] H H' s.heap s'.heap)(_:HOk P w H' s'.heap)(_:0 < s'.toks)(_:RelV v u)(_:Q v H')
def CR (CX:CXT)(outer:4#V)(P:1#E)(w:World)(H:Hp)(s:1#a)(Q:VK)(E:XK)(r:Result)(s':1#a):Prop:=
 match r with
 | .ok (.ret u)=>CE outer P w H s Q u s'
 | .ok _=>False
 | .error e=>CX outer H s E e s'
structure FnOk (P:1#E)(w:World)(K:Frag)(mg:Str->0#B)(base:Heap)(CX:CXT)(k:Nat)(f:Addr)(fd:9#I)(ps:0#O)(sp:Sp):Prop where
 len:∀vs H Q E,8#h->6#h=2#x
 run:∀(A:Around) (outer:List Env) (s:Shared) (H:Hp) (args:Args) (us:List Value) (vs:List V) (Q:VK) (E:XK),0#ag A->0#aC->BindsTo s fd args 6#N->Vals vs us->8#h →
  codeAny 52#P A (.call 11#f args) (CR CX outer P w H s Q E) s
def FnOk.mono {P:1#E}{w:World}{K:Frag}{mg:Str->0#B}{base:Heap}{CX:CXT}{j k:Nat}{f:Addr}{fd:9#I}{ps:0#O}{sp:Sp}(F:4#U CX j f fd ps sp)(h:j<=k):
  FnOk P w K mg base CX k f fd ps sp:=⟨F.len,λA outer s H a1 us vs Q E hr=>F.run A outer s H a1 us vs Q E (hr.mono h)⟩
def Env0.make {P:1#E}{w:World}{K:Frag}{mg:Str->0#B}{base:Heap}{A:5#F}{outer:4#V}{s:1#a}{H:Hp}(e:0#aC)(C:Addr)(us:2#b)(kw:List 0#ge):
  Env0 P w K mg base (A.under 3#P) outer s H:=⟨by first |exact e.frames |(simpa[Around.under,Code.envs,Code.isFrame,pushEnvs] using e.frames),e.mod,e.bs,e.bsz,e.funs,e.frf,e.hok,e.bare,e.tk⟩
section
variable {X:Cx}{w9:1#H}{σ:St}{H:Hp}{s s':1#a}
def Inv.env0 (I:0#d):Env0 X.prog X.w X.K X.mg X.base X.A X.stack s H:=
 ⟨I.ok.frames,I.ok.mod,I.bs,l17 I.ok.bsz I.sz,I.stack,I.stkFree,I.hok,I.bare,I.tk⟩
def Inv.after {Q:VK}{u:Value}(I:0#d)(h:CE X.stack X.prog X.w H s Q u s'):EP X w9 σ Q u s':=by
 obtain⟨v,H',os,bare,un,hok,a2,r,q⟩:=h;obtain⟨hh,g,d,t,a1⟩:=s';obtain rfl:a1=s.os:=os;exact⟨v,H',I.call (h':=hh) (g':=g) (d':=d) (t':=t) (ch:=[]) un hok bare (λb z=>0#A z 0#h) a2,r,q⟩
end
abbrev tCall.K0 (sp:Sp) (dvs:0#t) (E:XK) (Q:VK) (vs:0#t) (H1:Hp):Prop:=sp (vs++dvs) H1 Q E
def tCall (sp:Sp)(dvs:0#t)(E:XK)(t:TA):TE:=λσ H Q=>9#m (tCall.K0 sp dvs E Q)
abbrev tMake.K0 (C:Addr) (sp:Sp) (dvs:0#t) (E:XK) (Q:VK) (vs:0#t) (H1:Hp):Prop:=∀x dx,H1 x=none->H1 dx=none->dx≠x->sp (.ref x::(vs++dvs)) 65#H1 (λv H2=>v = .non/\Q 11#x H2) E
def tMake (C:Addr)(sp:Sp)(dvs:0#t)(E:XK)(t:TA):TE:=λσ H Q=>9#m (tMake.K0 C sp dvs E Q)
def Binds (K:Frag)(fd:9#I)(ps:0#O)(ds:2#b):Prop:=
 ∀(s:Shared) (us:List Value),K.In 6#U->(us++ds).length=2#x->BindsTo s fd 6#P (ps.zip (us++ds))
def Binds.all {K:Frag}{fd:9#I}{ps:0#O}(h:∀us:2#b,5#n=2#x->bindArgs fd 6#P=pure 6#N):Binds K fd ps []:=λs us _ hl=>by
 rw[l12] at hl ⊢;exact .of_eq (h us hl)
def gQ (CX:CXT)(X:Cx)(E:XK):Prop:=∀(w9:List (Addr×Obj)) (σ:St) (H:Hp) (s:Shared) (e:Value) (s':Shared),0#d->CX X.stack H s E e s'->X.xe e s'
section
variable {X:Cx}{CX:CXT}{k:Nat}{f C:Addr}{fd:9#I}{ps:0#O}{sp:Sp}{dvs:0#t}{ds:2#b}{E:XK}{x m:Str}{p pos w4:Pos}{e o:Expr}{es:1#Z}{ta:TE}{t:TA}
def wJ {w9:1#H}{σ:St}{H:Hp}{s:1#a}{Q:VK}{us:2#b}{vs:0#t}(F:3#O)(hr:0#ag X.A)(hb:0#cE)(hd:Vals dvs ds)(hx:gQ CX X E)
  (I:0#d)(r:Vals vs us)(h:sp (vs++dvs) H Q E):1#I (call 11#f us) 2#D X.xe s:=by
 have r2:Vals (vs++dvs) (us++ds):=r.append hd;have hl:(us++ds).length=ps.length:=by rw[<- r2.length];exact F.len _ _ _ _ h
 refine wpAny_call (codeAny_mono (F.run X.A X.stack s H 6#P (us++ds) (vs++dvs) Q E hr I.env0 (hb s us I.kIn hl) r2 h) λr s' hq=>?_);cases r with
 |error e=>exact hx w9 σ H s e s' I hq
 |ok fl=>
  cases fl with
  |ret u=>exact I.after hq
  |next=>exact 4#z hq
  |brk=>exact 4#z hq
  |cont=>exact 4#z hq
def mI (F:3#O)(hr:0#ag X.A)(hg:Gl X x)(hm:9#O=some 11#f)(hk:keepIn X.K 11#f=true)(hb:0#cE)(hd:Vals dvs ds)(hx:gQ CX X E)
  (ha:0#bk)(hdb:0#v=false:=by decide) (he:8#s=78#e::2#C es X.env:=by rfl) (hpl:(6#F 5#X).any (·.1)=false:=by rfl):
  PE X 0#P (tCall sp dvs E t):=by
 show 5;show 132;refine callWith_K (h₀:=X.base) I.ok.mod.kin hk 0#aH he hpl;exact wJ F hr hb hd hx I1 r q
structure Mk (K:Frag)(C f:Addr):Prop where
 makes:makesIn K C=true
 init:9#E "__init__"=some 23#11#f
 fn:isFn K 11#f=true
 kp:keepIn K 11#C=true
def uU {w9:1#H}{σ:St}{H:Hp}{s:1#a}{Q:VK}{us:2#b}{vs:0#t}(M:Mk X.K C f)(F:3#O)(hr:Room (k+1) X.A)(hb:0#cE)(hd:Vals dvs ds)
  (hx:gQ CX X E)(I:0#d)(r:Vals vs us)
  (h:∀x dx,H x=none->H dx=none->dx≠x->sp (.ref x::(vs++dvs)) 65#H (λv H2=>v = .non/\Q 11#x H2) E):
  wpAny 0#j X.A (call 11#C us) 2#D X.xe s:=by
 have hq:=h 9#q s.heap.objs.size (I.hok.fresh (Nat.le_succ _)) 0#bs (l27 (l68 _));have I2:=Inv.made (C:=C) I;have r2:Vals (V.ref 9#q::(vs++dvs)) (6#D 9#q::(us++ds)) := .cons rfl (r.append hd);have hl:(6#D 9#q::us++ds).length=ps.length:=by
  have e:=r2.length;rw[F.len _ _ _ _ hq] at e;exact e.symm
 refine wpAny_call (uT (f := f) I.kIn M.makes M.init (0#bN M.fn) (codeAny_mono (F.run _ X.stack _ _ ⟨6#D 9#q::us,[]⟩ (6#D 9#q::(us++ds)) _ _ E (hr.make C us [])
  (I2.env0.make C us []) (hb _ (6#D 9#q::us) I2.kIn hl) r2 hq) λr s' a1=>?_))
 cases r with
 |error e=>exact hx w9 σ _ _ e s' I2 a1
 |ok fl=>
  cases fl with
  |ret u=>
   obtain⟨v,H',I3,rv,ev,q3⟩:=I2.after a1;subst ev;exact⟨rv,⟨V.ref 9#q,H',I3,rfl,q3⟩⟩
  |next=>exact 4#z a1
  |brk=>exact 4#z a1
  |cont=>exact 4#z a1
def xV (M:Mk X.K C f)(F:3#O)(hr:Room (k+1) X.A)(hg:Gl X x)(hm:9#O=0#fS)(hb:0#cE)(hd:Vals dvs ds)(hx:gQ CX X E)
  (ha:0#bk)(hdb:0#v=false:=by decide) (he:8#s=78#e::2#C es X.env:=by rfl) (hpl:(6#F 5#X).any (·.1)=false:=by rfl):
  PE X 0#P (tMake C sp dvs E t):=by
 show 5;show 132;refine callWith_K (h₀:=X.base) I.ok.mod.kin M.kp 0#aH he hpl;exact uU M F hr hb hd hx I1 r q
end
structure FnScope (N P:0#O)(sc:Scope):Prop where
 kind:sc.kind = .function
 co:sc.isCoroutine=false
 gen:sc.isGenerator=false
 nd:N.Nodup
 pre:N.take P.length=P
 par:∀x∈P,0#aE=some .local ∨ sc.names.lookup x=some .cell
 nofree:∀y∈sc.names,y.2 ≠ .free
def mkS {N P:0#O}{sc:Scope}(a:sc.kind = .function:=by rfl) (b:sc.isCoroutine=false:=by rfl) (c:sc.isGenerator=false:=by rfl) (d:N.Nodup:=by decide) (e:N.take P.length=P:=by rfl) (f:∀x∈P,0#aE=some .local ∨ sc.names.lookup x=some .cell:=by decide) (g:∀y∈sc.names,y.2 ≠ .free:=by decide):1#b N P sc:=⟨a,b,c,d,e,f,g⟩
theorem kR {kindOf:Str->0#gC}{x:Str}:∀{binds:List (Str×Value)} {m:Str->Option Value},(∀v,(x,v)∉binds)->bindL kindOf binds m x=m x
 | [],_,_=>rfl
 |(n,v)::r,m,h=>by
  unfold bindL;rw[kR λw hw=>h w 38#hw];split
  ·have:x≠n:=by rintro rfl;exact h v l7
   simp[this]
  ·rfl
theorem kS {kindOf:Str->0#gC}{x:Str}:∀{binds:List (Str×Value)} {m:Str->Option Value},(∀v,(x,v)∉binds)->bindC kindOf binds m x=m x
 | [],_,_=>rfl
 |(n,v)::r,m,h=>by
  unfold bindC;rw[kS λw hw=>h w 38#hw];split
  ·rfl
  ·have:x≠n:=by rintro rfl;exact h v l7
   simp[this]
theorem kT {kindOf:Str->0#gC}{x:Str}{v:Value}:∀{P:List Str} {vs:List Value} {i:Nat} {m:Str->Option Value},P.Nodup->P[i]? = some x->vs[i]? = some v->kindOf x=some .local →
  bindL kindOf (P.zip vs) m x=some v
 | [],_,_,_,_,h,_,_=>by simp at h
 |_::_,[],_,_,_,_,h,_=>by simp at h
 |p::P,w::vs,0,m,nd,h1,h2,hk=>by
  simp at h1 h2;subst h1;subst h2;show bindL kindOf 0#cV m p=_;unfold bindL;rw[kR λv hv=>(l87.mp nd).1 (List.of_mem_zip hv).1,1#d hk];simp
 |p::P,w::vs,i+1,m,nd,h1,h2,hk=>by
  show bindL kindOf 0#cV m x=_;unfold bindL;exact kT (i:=i) (l87.mp nd).2 (by simpa using h1) (by simpa using h2) hk
theorem kU {kindOf:Str->0#gC}{x:Str}{v:Value}:∀{P:List Str} {vs:List Value} {i:Nat} {m:Str->Option Value},P.Nodup->P[i]? = some x->vs[i]? = some v->kindOf x≠some .local →
  bindC kindOf (P.zip vs) m x=some v
 | [],_,_,_,_,h,_,_=>by simp at h
 |_::_,[],_,_,_,_,h,_=>by simp at h
 |p::P,w::vs,0,m,nd,h1,h2,hk=>by
  simp at h1 h2;subst h1;subst h2;show bindC kindOf 0#cV m p=_;unfold bindC;rw[kS λv hv=>(l87.mp nd).1 (List.of_mem_zip hv).1,0#z hk];simp
 |p::P,w::vs,i+1,m,nd,h1,h2,hk=>by
  show bindC kindOf 0#cV m x=_;unfold bindC;exact kU (i:=i) (l87.mp nd).2 (by simpa using h1) (by simpa using h2) hk
def start (N:0#O)(vs:0#t):St:=vs.map some++0#f (N.length - 6#h) none
def xW {a0 a1:Str}{v0:V}:start [a0,a1] [v0]=[0#fm,none]:=rfl
def BC {a0 a1:Str}{v0 v1:V}:start [a0,a1] [v0,v1]=[0#fm,some v1]:=rfl
def uV {a0 a1 a2:Str}{v0:V}:start [a0,a1,a2] [v0]=[0#fm,none,none]:=rfl
def BD {a0 a1 a2:Str}{v0 v1:V}:start [a0,a1,a2] [v0,v1]=[0#fm,some v1,none]:=rfl
def BE {a0 a1 a2 a3:Str}{v0:V}:start [a0,a1,a2,a3] [v0]=[0#fm,none,none,none]:=rfl
def BF {a0 a1 a2 a3:Str}{v0 v1:V}:start [a0,a1,a2,a3] [v0,v1]=[0#fm,some v1,none,none]:=rfl
def Av {a0 a1 a2 a3:Str}{v0 v1 v2:V}:start [a0,a1,a2,a3] [v0,v1,v2]=[0#fm,some v1,some v2,none]:=rfl
def Aw {a0 a1 a2 a3 a4:Str}{v0:V}:start [a0,a1,a2,a3,a4] [v0]=[0#fm,none,none,none,none]:=rfl
def Ax {a0 a1 a2 a3 a4:Str}{v0 v1:V}:start [a0,a1,a2,a3,a4] [v0,v1]=[0#fm,some v1,none,none,none]:=rfl
def xX {a0 a1 a2 a3 a4:Str}{v0 v1 v2:V}:start [a0,a1,a2,a3,a4] [v0,v1,v2]=[0#fm,some v1,some v2,none,none]:=rfl
def Ay {a0 a1 a2 a3 a4 a5:Str}{v0 v1 v2:V}:start [a0,a1,a2,a3,a4,a5] [v0,v1,v2]=[0#fm,some v1,some v2,none,none,none]:=rfl
def BG {a0 a1 a2 a3 a4 a5 a6:Str}{v0:V}:start [a0,a1,a2,a3,a4,a5,a6] [v0]=[0#fm,none,none,none,none,none,none]:=rfl
def BH {a0 a1 a2 a3 a4 a5 a6 a7 a8:Str}{v0:V}:start [a0,a1,a2,a3,a4,a5,a6,a7,a8] [v0]=[0#fm,none,none,none,none,none,none,none,none]:=rfl
def cxOf (CX:CXT)(P:1#E)(w:World)(K:Frag)(mg:Str->0#B)(base:Heap)(N:0#O)(qual:Str)(scope:Scope)(f:Addr)(cd:Value)(A:5#F)(outer:4#V)(s:1#a)(H:Hp)(E:XK):Cx where
 prog:=P
 w:=w
 K:=K
 mg:=mg
 base:=base
 A:=A.deeper (1#X cd)
 N:=N
 s₀:=s
 H₀:=H
 env:=1#X cd
 outer:=outer
 stack:=1#X cd::outer
 ex:=[]
 calm:=true
 fn:=λ_=>true
 pn:=[]
 xe:=λe s'=>wpAny 52#P (A.deeper (1#X cd)) (leaving (1#X cd) e) (λ_ a1=>CX outer H s E e a1) (λe' a1=>CX outer H s E e' a1) s'
def oj {sc:Scope}{n:Nat}{x:Str}(h:0#aE=some .cell):∃c,(cellsFrom n sc.names []).lookup x=some c:=by
 have q:=PySem.W.cellsFrom_some sc.names n [] 119#h;exact l88.mp q
def q8 {CX:CXT}{P:1#E}{w:World}{K:Frag}{mg:Str->0#B}{base:Heap}{N ps:0#O}{qual:Str}{scope:Scope}{f:Addr}{cd:Value}{A:5#F}{outer:4#V}{s s1:1#a}{H:Hp}{E:XK}{us:2#b}{vs:0#t}
  (S:1#b N ps scope)(hd:A.handled=none)(e0:0#aC)(hl:6#h=2#x)(r:Vals vs us)(htk:0 < s1.toks)
  (x:InCallC s s.heap.objs.size (bindL (1#X cd).kindOf 6#N λ_=>none) (cellsFrom 9#q scope.names []) (bindC (1#X cd).kindOf 6#N λ_=>none) s1):
  Inv (2#Y cd A outer s H E) [] 0#aR H s1:=by
 have hpl:2#x<=N.length:=by have:=0#V S.pre;rw[l29] at this;omega
 obtain⟨h1,tk,rfl,hk⟩:=x.done;have a1:∀b:Addr,b∉(2#Y cd A outer s H E).ex:=λb z=>0#A (show b∈([]:1#B) from z) 0#h;refine ⟨⟨e0.mod,S.kind,rfl,rfl,7#j,λy z c h1 h2=>?_,λy hy=>?_,λy c _ h=>?_,λ_=>hd,Around.frames_deeper e0.frames, .inr 6#O,λb z=>0#A z (a1 b),e0.bs,e0.bsz,λb _ _=>a1 b,λb z=>0#A z (a1 b),e0.funs,e0.frf⟩,
  rfl,e0.bare,Un.kept hk,⟨_,x.toInCall.ns,λi y v h1 h2 h3=>?_⟩,λy c h=>⟨_,x.cell y c h⟩,e0.hok.fresh (7#j),λy c h=>?_,λp hp=>0#A 0#bd 0#h,e0.hok.kept hk,?_,htk⟩
 ·exact name_of_addr x.apart (7#c h1) (7#c h2)
 ·have hy:scope.names.lookup y=some .cell ∨ scope.names.lookup y=some .free:=hy;rcases hy with hy |hy
  ·exact oj hy
  ·exact 0#A rfl (S.nofree _ (7#c hy))
 ·exact Nat.le_of_lt (x.above y c (7#c h))
 ·have hi:i < vs.length:=by
   unfold start at h2;by_cases hi:i < 6#h
   ·exact hi
   ·rw[2#l 8#R] at h2;rw[List.getElem?_replicate] at h2;split at h2 <;> cases h2
  have ha:vs[i]? = some v:=by
   unfold start at h2;rw[3#l 8#R,0#x] at h2;cases e:vs[i]? with
   |none=>rw[e] at h2;cases h2
   |some a=>rw[e] at h2;cases h2;rfl
  obtain⟨u,hu,rv⟩:=r.get ha;have hp:ps[i]? = some y:=by
   rw[<- S.pre,List.getElem?_take_of_lt nofun];exact h1
  have a2:ps.Nodup:=by rw[<- S.pre];exact S.nd.sublist 163#List.take_sublist
  refine⟨u,rv,?_⟩;rcases S.par y 125#hp with k |k
  ·exact .inl ⟨k,kT a2 hp hu k⟩
  ·obtain⟨c,e⟩:=oj (n:=0#g+1) k;refine .inr ⟨.inl k,c,e,?_⟩;have q:=x.cell y c e;rw[kU a2 hp hu (by show scope.names.lookup y≠_;rw[k];decide)] at q;exact q
 ·exact e0.hok.fresh (Nat.le_of_lt (x.above y c (7#c h)))
 ·unfold start;show _=N.length;rw[l6,l4,l23];omega
def Az {CX:CXT}{P:1#E}{w:World}{K:Frag}{mg:Str->0#B}{base:Heap}{k:Nat}{f:Addr}{name qual:Str}{params:Arguments}{body:5#G}{scope:Scope}{dV kV doc pm cdv ct oc:Value}{an od:0#cK}
  {osl:Array (0#B)}{N ps:0#O}{sp:Sp}(lk:K.lookup f=some 170#(0#an,osl))(hcd:codeIn K cdv qual=true)(S:1#b N ps scope)
  (len:∀vs H Q E,8#h->6#h=2#x)
  (v4:∀(A:Around)(outer:List Env)(s:Shared)(H:Hp)(vs:List V)(Q:VK)(E:XK),0#ag (A.deeper (1#X cdv))->8#h →
   ∃t,PSs 0#di body t/\t { nx:=λ_ H'=>Q .non H',rt:=Q } 0#aR H):
  FnOk P w K mg base CX (k+1) f 0#an ps sp:=by
 refine⟨len,λA outer s H args us vs Q E hr e0 hb r a2=>?_⟩;have hl:=len _ _ _ _ a2;have KX:K.In s.heap:=e0.mod.kin.keeps λb o e=>(e0.bs b o e).1;have a3:s.heap.NoLimit:=e0.mod.nolimit.keeps λb o e=>(e0.bs b o e).1;have a1:∀y∈ps.zip us,scope.names.lookup y.1=some .local ∨ (scope.names.lookup y.1=some .cell/\((cellsFrom 9#q scope.names []).lookup y.1).isSome=true):=λ⟨n,v⟩ hy=>by
  rcases S.par n (List.of_mem_zip hy).1 with q |q
  ·exact .inl q
  ·exact .inr ⟨q,PySem.W.cellsFrom_some _ _ _ 119#q⟩
 refine codeAny_call_function hr.depth (KX _ _ lk) rfl S.co S.gen rfl (PySem.W.codeRec_of KX hcd) (hb _ _ _ _ ?_);refine wpAny_with_toks (n:=1) e0.tk (wpAny_newFunctionEnv_cells S.kind a1 λenv he s1 x htk=>?_);subst he;refine⟨a3.keeps x.toInCall.keep,codeAny_func ?_⟩;obtain⟨t,ht,hq⟩:=v4 A outer s H vs Q E (hr.deeper _) a2;have I:Inv 0#di [] 0#aR H s1:=q8 S hr.hd e0 hl r htk x;refine 4#Y (ht [] s1 0#aR H _ I hq) (λfl s' hs=>?_) λe s' hs=>hs;have fin:∀{σ':St} {H':Hp} {v:V} {u:Value},Inv 0#di [] σ' H' s'->0#dx->Q v H'->CE outer P w H s Q u s':=
  λ{σ' H' v u} J rv q=>⟨v,H',J.os,J.bare,J.base,J.hok,J.tk,rv,q⟩
 cases fl with
 |ret u=>
  obtain⟨v,σ',H',J,rv,q⟩:=hs;exact fin J rv q
 |next=>
  obtain⟨σ',H',J,q⟩:=hs;exact fin (v:=V.non) (u:=Value.none) J rfl q
 |brk=>
  obtain⟨_,_,_,q⟩:=hs;exact 4#z q
 |cont=>
  obtain⟨_,_,_,q⟩:=hs;exact 4#z q
section
variable {X:Cx}{x:Str}{p pos:Pos}{e:Expr}{es:1#Z}{t:TA}{id T:9#L}{r:0#t->Hp->VK->Prop}
abbrev tCB.K0 (r:0#t->Hp->VK->Prop)(Q:VK)(vs:0#t)(H1:Hp):Prop:=r vs H1 Q
def tCB (r:0#t->Hp->VK->Prop)(t:TA):TE:=λσ H Q=>9#m (tCB.K0 r Q)
def uW (hc:ck X 3#M r)(hg:Gl X x)(hm:9#O=none)(hv:5#w=some 3#M)(ha:0#bk)(hn:x≠"__name__":=by decide) (hdb:0#v=false:=by decide)
  (he:8#s=78#e::2#C es X.env:=by rfl) (hpl:(6#F 5#X).any (·.1)=false:=by rfl):8#y 0#P (tCB r t):=by
 show 5;refine 9#T (kO I hg hm hv ?_ hn hdb);exact PyProof.Rows.callWith_builtin1 8#p he hpl
def rc (hc:ck X (.type T) r)(hg:Gl X x)(hm:9#O=none)(hv:5#w=some (.type T))(ha:0#bk)(hn:x≠"__name__":=by decide) (hdb:0#v=false:=by decide)
  (he:8#s=78#e::2#C es X.env:=by rfl) (hpl:(6#F 5#X).any (·.1)=false:=by rfl):8#y 0#P (tCB r t):=by
 show 5;refine 9#T (kO I hg hm hv ?_ hn hdb);exact callWith_type1 8#p he hpl
end
end L2
local macro_rules
 |`(tactic|symm)=>`(tactic|try dsimp only[L2.tAsg.K0,L2.tDrop.K0,L2.Ends.to_nx,L2.Ends.to_rt,L2.am,sA,sB])
namespace HT
open PySem PyProof.Rows
section
open PySem.SeqAt
open PySem.AutoSeq1 (wpAny_loadPart')
open PySem.MeetsSeq PySem.MeetsSeq2 PySem.MeetsSeq3
end
section
variable {prog:1#E}{w:World}{A:5#F}{E:Value->1#a->Prop}{s:1#a}
def sIx (n d:Nat):1#W->Nat
 |none=>d
 |some v=>if v < 0 then (v+(n:Int)).toNat else min v.toNat n
end
end HT
namespace L2
open PySem PySem.Spec PyProof.Rows
abbrev TO:=St->Hp->(Option Int->Hp->Prop)->Prop
def PO (X:Cx)(e:Option Expr)(t:TO):Prop:=
 ∀(w9:List (Addr×Obj)) (s:Shared) (σ:St) (H:Hp) (Q:Option Int->Hp->Prop),0#d->9#m Q →
  wpAny 0#j X.A (evalPart e X.env) (λu s'=>∃o H',2#M σ H' s'/\IsPart u o/\Q o H') X.xe s
def mJ:TO:=λ_ H Q=>Q none H
inductive tPart.I (Q:(1#W->Hp->Prop))(x:V)(H1:Hp):Prop
 |mk (i)(_:x = .int i)(_:Q (some i) H1)
def tPart (t:TE):TO:=λσ H Q=>9#m (tPart.I Q)
section
variable {X:Cx}{e:Expr}{te:TE}{lo hi:Option Expr}{tl th:TO}{pos p2:Pos}
def xY:PO X none mJ:=by
 show 5;rw[evalPart_none];exact 3#r ⟨none,H,I, .none,h⟩
def xZ (h:8#y e te):PO X 23#e (tPart te):=by
 intro w9 s σ H Q I hw;rw[evalPart_some];refine thn (h w9 s σ H _ I hw) λu s1 ⟨x,H1,I1,r1,q1⟩=>?_;obtain⟨i,rfl,q⟩:=q1;obtain⟨t,rfl⟩:=r1;exact⟨some i,H1,I1, .int i t,q⟩
def SlR (X:Cx)(r:V->1#W->1#W->Hp->VK->Prop):Prop:=
 ∀(w9:List (Addr×Obj)) (s:Shared) (σ:St) (H:Hp) (x:V) (v vl vu:Value) (lo hi:Option Int) (sl:Addr) (Q:VK),0#d->0#dy->s.heap.IsSliceOf sl vl vu .none->IsPart vl lo->IsPart vu hi->r x lo hi H Q →
  ∃T id,typeLookup (.type T) "__getitem__"=pure 23#(.builtin id)/\s.TypeIs v T/\wpAny 0#j X.A (getItem v 11#sl) 2#D X.xe s
abbrev tSl.K2 (r:V->1#W->1#W->Hp->VK->Prop) (Q:VK) (x:V) (l:1#W) (u:1#W) (H3:Hp):Prop:=r x l u H3 Q
abbrev tSl.K1 (r:V->1#W->1#W->Hp->VK->Prop) (th:TO) (σ:St) (Q:VK) (x:V) (l:1#W) (H2:Hp):Prop:=th σ H2 (tSl.K2 r Q x l)
abbrev tSl.K0 (r:V->1#W->1#W->Hp->VK->Prop) (tl:TO) (th:TO) (σ:St) (Q:VK) (x:V) (H1:Hp):Prop:=tl σ H1 (tSl.K1 r th σ Q x)
def tSl (r:V->1#W->1#W->Hp->VK->Prop)(te:TE)(tl th:TO):TE:=λσ H Q=>te σ H (tSl.K0 r tl th σ Q)
def uX {r:V->1#W->1#W->Hp->VK->Prop}(hr:SlR X r)(he:8#y e te)(hl:PO X lo tl)(hu:PO X hi th):8#y 0#dH (tSl r te tl th):=by
 show 5;refine Subscript_ 0#dk;refine wpAny_Slice (thn (hl w9 s1 σ H1 _ I1 q1) λvl s2 ⟨l,H2,I2,pl,q2⟩=>thn (hu w9 s2 σ H2 _ I2 q2) λvu s3 ⟨u,H3,I3,pu,q3⟩=>?_);rw[evalPart_none];refine 3#r ?_;have I4:2#M σ H3 2#S:=I3.kept (t':=s3.toks) λb ob q=>0#H _ q;obtain⟨T,id,hT,ht,hg⟩:=hr w9 2#S σ H3 x v vl vu l u s3.heap.objs.size Q I4 r1 (Heap.IsSliceOf.new ..) pl pu q3;show wpAny 0#j X.A (subscriptTail e (.Slice lo hi none p2) v 11#s3.heap.objs.size) 2#D X.xe 2#S;exact tail_any (ops:=[.ref s3.heap.objs.size,v]) ht hT hg 1#q
def cutV (xs:0#t)(lo hi:1#W):List V:=(xs.drop (HT.sIx xs.length 0 lo)).take 0#ay
def mK (xs:0#t)(lo hi:1#W):(cutV xs lo hi).length<=xs.length:=by
 unfold cutV;rw[l29,l15];omega
end
def ixN (n:Nat)(i:Int):Option Nat:=if 0<=i then (if i < n then some i.toNat else none) else if -(n:Int)<=i then some (i+n).toNat else none
def atI {α:Type}(xs:List α)(i:Int):Option α:=(ixN xs.length i).bind λj=>xs[j]?
def re {n:Nat}{i:Int}{j:Nat}(h:ixN n i=some j):seqIndex? i n=some j/\j < n /\ -(n:Int)<=i/\i < n:=by
 unfold ixN at h;by_cases h0:0<=i
 ·rw[1#d h0] at h;by_cases h1:i < n
  ·rw[1#d h1] at h;have e:i.toNat=j:=1#w h;exact⟨by rw[seqIndex_of h0 h1,e],by omega,by omega,h1⟩
  ·rw[0#z h1] at h;cases h
 ·rw[0#z h0] at h;by_cases h1 : -(n:Int)<=i
  ·rw[1#d h1] at h;have e:(i+n).toNat=j:=1#w h;exact⟨by rw[seqIndex_neg nofun h1,e],by omega,h1,by omega⟩
  ·rw[0#z h1] at h;cases h
def mL {α:Type}{xs:List α}{i:Int}{v:α}(h:atI xs i=some v):∃j,seqIndex? i 0#E=some j/\xs[j]? = some v/\j < 0#E /\ -(xs.length:Int)<=i/\i < xs.length:=by
 unfold atI at h;cases e:ixN xs.length i with
 |none=>rw[e] at h;cases h
 |some j=>
  rw[e] at h;obtain⟨h1,h2,h3,h4⟩:=re e;exact⟨j,h1,h,h2,h3,h4⟩
def ag {α:Type}{xs:List α}{j:Nat}{v:α}(h:xs[j]? = some v):atI xs (j:Int)=some v:=by
 have hj:j < xs.length:=(0#C h).1;have e:ixN xs.length (j:Int)=some j:=by
  unfold ixN;rw[1#d nofun,1#d nofun];simp
 unfold atI;rw[e];exact h
def ol {α:Type}(xs:List α)(v:α):atI (xs++[v]) (-1)=some v:=by
 have hl:(xs++[v]).length=0#E+1:=by simp
 have e:ixN (xs++[v]).length (-1)=some xs.length:=by
  unfold ixN;rw[hl,0#z ∅,1#d nofun];congr 1;omega
 unfold atI;rw[e];show (xs++[v])[0#E]? = some v;simp
def rf (b:Expr):Prop:=∀o i,subscripted b false o i=operate [o,i] (getItem o i)
def IxR (X:Cx)(r:R2):Prop:=
 ∀(value slice:Expr) (w9:List (Addr×Obj)) (s:Shared) (σ:St) (H:Hp) (x y:V) (v u:Value) (Q:VK),0#d->0#dy->RelV y u->r x y H Q →
  subscripted slice false v u=operate [v,u] (getItem v u)->1#I (subscriptTail value slice v u) 2#D X.xe s
def MtR (X:Cx)(id:9#L)(r:V->0#t->Hp->VK->Prop):Prop:=
 ∀(w9:List (Addr×Obj)) (s:Shared) (σ:St) (H:Hp) (x:V) (xs:List V) (v:Value) (us:List Value) (Q:VK),0#d->0#dy->5#U->r x xs H Q →
  wpAny 0#j X.A (call 3#M (v::us)) 2#D X.xe s
section
variable {X:Cx}{a b:Expr}{ta tb:TE}{pos:Pos}
def BI {r:R2}(hr:IxR X r)(ha:0#eQ)(hb:8#y b tb)(hs:rf b):8#y (.Subscript a b pos) 88#r:=by
 show 5;exact Subscript_ (binT ha hb I h λv u s2 x y H2 I2 rx ry q=>hr a b w9 s2 σ H2 x y v u Q I2 rx ry q 163#hs)
inductive rIxL (K:Frag)(x y:V)(H:Hp)(Q:VK):Prop
 |mk (p xs i v)(_:x = .ref p)(_:y = .int i)(_:SqL K H p xs)(_:atI xs i=some v)(_:Q v H)
inductive rIxT (K:Frag)(x y:V)(H:Hp)(Q:VK):Prop
 |mk (p xs i v)(_:x = .ref p)(_:y = .int i)(_:SqT K H p xs)(_:atI xs i=some v)(_:Q v H)
inductive rIxS (x y:V)(H:Hp)(Q:VK):Prop
 |mk (z i c)(_:x = .str z)(_:y = .int i)(_:z.length<=sizeLine)(_:atI z.cps.toList i=some c)(_:Q (.str ⟨#[c]⟩) H)
def aH:IxR X (rIxL X.K):=by
 show 56;obtain⟨p,xs,i,z,rfl,rfl,hq,he,q⟩:=h;cases rx;obtain⟨t,rfl⟩:=ry;obtain⟨a1,r,pl,hz⟩:=5#j;show 107;obtain⟨w,ew,a2⟩:=r.get h2;have hl:=1#m;have hn:=i6;have fin:EP X w9 σ Q w s:=⟨z,H,I,a2,q⟩;by_cases h0:0<=i
 ·have hj:i.toNat=j:=by
   rw[seqIndex_of h0 h5] at h1;exact 1#w h1
  exact item_listR pl.isList h0 nofun (by rw[hj];simpa using ew) fin hs
 ·have hj:(i+(a1.toArray.size:Int)).toNat=j:=by
   rw[seqIndex_neg nofun h4] at h1;rw[l30,<- hl];exact 1#w h1
  exact subscriptTail_builtinR (x:=w) pl.isList.typeIs slot_list_getitem.lookup
   (wpAny_getItem_list_neg (Q:=λr s'=>r=w/\EP X w9 σ Q r s') pl.isList nofun (by rw[l30] <;> omega) nofun (by rw[hj];simpa using ew) 89#fin) hs
def ay:IxR X (rIxT X.K):=by
 show 56;obtain⟨p,xs,i,z,rfl,rfl,hq,he,q⟩:=h;cases rx;obtain⟨t,rfl⟩:=ry;obtain⟨its,r,pl,hz⟩:=0#bi;show 107;obtain⟨w,ew,a1⟩:=r.get h2;have hl:=1#m;have hn:=i6;have fin:EP X w9 σ Q w s:=⟨z,H,I,a1,q⟩;exact subscriptTail_builtinR (x:=w) pl.typeIs slot_tuple_getitem.lookup
  (getItem_tuple (j:=j) (Q:=λr s'=>r=w/\EP X w9 σ Q r s') pl nofun nofun (by rw[l30,<- hl];exact h1) (by simpa using ew) 89#fin) hs
def dg:IxR X rIxS:=by
 show 56;obtain⟨z,i,c,rfl,rfl,hz,he,q⟩:=h;show 8;show 32;show 107;have hl:z.cps.toList.length=z.length:=by simp[Str.length]
 rw[hl] at h1 h4 h5;have hn:=i6;exact tail_any (typeIs_str s z t) slot_str_getitem.lookup (getItem_str (c := c) (by
  have e1:decide (i < -(2 ^ 63:Int))=false:=0#D nofun;have e2:decide (i ≥ 2 ^ 63)=false:=0#D nofun;rw[e1,e2,Bool.or_false]) (by rw[h1];simpa using h2) ⟨.str ⟨#[c]⟩,H,I.tok _,0#F,q⟩) hs
def qf (its:2#b)(n j:Nat)(u:Value):Obj.mapSeq (·.setIfInBounds j u) { cls := .type "list",data := .seq its.toArray n }={ cls := .type "list",data := .seq (its.set j u).toArray n }:=by
 simp[Obj.mapSeq]
def Inv.lst {w9:1#H}{σ:St}{H:Hp}{s:1#a}{p:Addr}{xs:0#t}(I:0#d)(h:H p=9#l):
  ∃(its:List Value) (n:Nat),0#fI/\s.heap.get? p=some { cls := .type "list",data := .seq its.toArray n }/\0#E<=sizeLine:=by
 obtain⟨z,its,n,r,e⟩:=I.hok p _ h;exact⟨its,n,r,e,z⟩
def Inv.lstUpd {w9:1#H}{σ:St}{H:Hp}{s:1#a}{p:Addr}{xs ys:0#t}{its its':2#b}{n n':Nat}{f:Obj->Obj}(I:0#d)(h:H p=9#l)
  (ho:s.heap.get? p=some { cls := .type "list",data := .seq its.toArray n }) (hf:f { cls := .type "list",data := .seq its.toArray n }={ cls := .type "list",data := .seq its'.toArray n' }) (r:Vals ys its') (hz:3#o<=sizeLine) (t:Nat) (ht:0 < t:=by first |assumption |exact l37 _ |(apply Inv.tk;assumption)):
  Inv X w9 σ (4#b p 14#ys) { s with heap:=s.heap.update p f,toks:=t }:=by
 have e:(s.heap.update p f).get? p=some { cls := .type "list",data := .seq its'.toArray n' }:=by
  rw[Heap.get?_update_self f ho (by rw[hf] <;> rfl),hf]
 refine I.write (x:=p) (e:=p) (by rw[h];trivial) 2#a (λb u hb q=>(7#D _ _ 76#hb).trans q) ⟨_,e⟩ ?_;exact⟨hz,its',n',r,e⟩
inductive rSetL (o i v:V)(H:Hp)(Q:(Hp->Prop)):Prop
 |mk (p xs k j)(_:o = .ref p)(_:i = .int k)(_:H p=some (.lst xs))(_:ixN xs.length k=some j)(_:Q (upd H p (.lst (xs.set j v))))
def gC:PSet X rSetL:=by
 intro w9 s σ H o i v ov iv u Q I ro ri rv h;obtain⟨p,xs,k,j,rfl,rfl,hp,hj,q⟩:=h;cases ro;obtain⟨t,rfl⟩:=ri;obtain⟨a1,n,r,ho,hz⟩:=I.lst hp;obtain⟨h1,h2,h3,h4⟩:=re hj;have hl:=1#m;have hn:=i6;have I':2#M σ (4#b p 14#(xs.set j v)) { s with heap:=s.heap.update p (Obj.mapSeq (·.setIfInBounds j u)) }:=
  I.lstUpd hp ho (qf a1 n j u) (r.set rv j) (by rw[List.length_set];exact hz) 6#G
 by_cases h0:0<=k
 ·have hk:k.toNat=j:=by
   rw[seqIndex_of h0 h4] at h1;exact 1#w h1
  exact PySem.W.ki_setAt ho h0 nofun (by rw[l30,<- hl];exact h4) (by rw[hk];exact⟨_,I',q⟩)
 ·have hk:(k+(a1.toArray.size:Int)).toNat=j:=by
   rw[seqIndex_neg nofun h3] at h1;rw[l30,<- hl];exact 1#w h1
  exact PySem.W.ki_setBack ho nofun (by rw[l30,<- hl];exact h3) nofun (by rw[hk];exact⟨_,I',q⟩)
def kW (lo hi:1#W)(n:Nat):(0#dD).1=((HT.sIx n 0 lo:Nat):Int)/\(0#dD).2.1=((HT.sIx n n hi:Nat):Int)/\(0#dD).2.2=1:=by
 refine⟨?_,?_,rfl⟩
 ·cases lo with
  |none=>simp[sliceBounds,HT.sIx]
  |some i=>
   show 49
   ·simp only[h,if_true] <;> omega
   ·simp only[h,if_false] <;> omega
 ·cases hi with
  |none=>simp[sliceBounds,HT.sIx]
  |some i=>
   show 49
   ·simp only[h,if_true] <;> omega
   ·simp only[h,if_false] <;> omega
def jw (its:2#b)(lo hi:1#W):slicePick its.toArray lo hi none=((its.drop (HT.sIx its.length 0 lo)).take (HT.sIx its.length its.length hi - HT.sIx its.length 0 lo)).toArray:=by
 obtain⟨h1,h2,h3⟩:=kW lo hi its.toArray.size;unfold slicePick;rw[h1,h2,h3];simp only[sliceRange_one,pick_run,l30] <;> rfl
inductive rSlL (K:Frag)(x:V)(lo hi:1#W)(H:Hp)(Q:VK):Prop
 |mk (a xs)(_:x = .ref a)(_:SqL K H a xs)(_:∀p,H p=none->Q (.ref p) (upd H p (.lst (cutV xs lo hi))))
def dm:SlR X (rSlL X.K):=by
 show 135;obtain⟨a,xs,rfl,hx,q⟩:=h;cases rx;obtain⟨its,r,ht,hz⟩:=I.list hx;have w6:=1#m;refine⟨"list",_,slot_list_getitem.lookup,ht.isList.typeIs,?_⟩;refine wpAny_getItem_list_slice ht.isList hs pl pu .none 0#h ?_ (by rw[l30] <;> omega)
 rw[jw,<- w6];refine⟨.ref 0#g,_,I.laid (t':=6#G) (o := .lst (cutV xs lo hi)) (λb ob q=>0#H _ q) (7#j) ?_,rfl,q _ 0#bs⟩;exact⟨l17 (mK xs lo hi) hz,_,0,(r.drop (HT.sIx xs.length 0 lo)).take 0#ay,1#N _ rfl⟩
def kX:V->Bool
 | .non=>true
 | .bl _=>true
 | .int _=>true
 | .str _=>true
 |_=>false
def eqV:V->V->Bool
 | .non, .non=>true
 | .bl a, .bl b=>a==b
 | .bl a, .int b=>(if a then 1 else 0)==b
 | .int a, .bl b=>a==(if b then 1 else 0)
 | .int a, .int b=>a==b
 | .str a, .str b=>a==b
 |_,_=>false
def AA {A:5#F}{s:1#a}{y x:V}{u v:Value}(ry:RelV y u)(rx:0#dy)(fy:kX y=true)(fx:kX x=true):SeqAt.EqAt A s u v (eqV y x):=by
 cases y with
 |non=>
  cases ry;cases x with
  |non=>cases rx;exact SeqAt.EqAt.same _
  |bl b=>cases rx;exact SeqAt.EqAt.none_bool b
  |int b=>obtain⟨t,rfl⟩:=rx;exact SeqAt.EqAt.none_int b t
  |str b=>obtain⟨t,rfl⟩:=rx;exact SeqAt.EqAt.none_str b t
  |_=>exact 0#A 8#G 1#e
 |bl a=>
  cases ry;cases x with
  |non=>cases rx;exact SeqAt.EqAt.bool_none a
  |bl b=>cases rx;exact SeqAt.EqAt.bool_bool a b
  |int b=>obtain⟨t,rfl⟩:=rx;exact SeqAt.EqAt.bool_int a b t
  |str b=>obtain⟨t,rfl⟩:=rx;exact SeqAt.EqAt.bool_str a b t
  |_=>exact 0#A 8#G 1#e
 |int a=>
  show 32;cases x with
  |non=>cases rx;exact SeqAt.EqAt.int_none a t'
  |bl b=>cases rx;exact SeqAt.EqAt.int_bool a t' b
  |int b=>obtain⟨t,rfl⟩:=rx;exact SeqAt.EqAt.int_int a t' b t
  |str b=>obtain⟨t,rfl⟩:=rx;exact SeqAt.EqAt.int_str a t' b t
  |_=>exact 0#A 8#G 1#e
 |str a=>
  show 32;cases x with
  |non=>cases rx;exact SeqAt.EqAt.str_none a t'
  |bl b=>cases rx;exact SeqAt.EqAt.str_bool a t' b
  |int b=>obtain⟨t,rfl⟩:=rx;exact SeqAt.EqAt.str_int a t' b t
  |str b=>obtain⟨t,rfl⟩:=rx;exact SeqAt.EqAt.str_str a t' b t
  |_=>exact 0#A 8#G 1#e
 |_=>exact 0#A (show false=true from fy) 1#e
def eqU (x:V)(u:Value):Bool:=match u with
 | .none=>eqV .non x
 | .bool b=>eqV (.bl b) x
 | .int i _=>eqV 21#i x
 | .str z _=>eqV 82#z x
 |_=>false
def wK {x y:V}{u:Value}(r:RelV y u)(f:kX y=true):eqU x u=eqV y x:=by
 cases y with
 |non=>cases r;rfl
 |bl b=>cases r;rfl
 |int i=>obtain⟨t,rfl⟩:=r;rfl
 |str z=>obtain⟨t,rfl⟩:=r;rfl
 |_=>exact 0#A (show false=true from f) 1#e
theorem gR {x:V}:∀{xs:List V} {us:List Value},5#U->xs.all kX=true->us.any 0#dY=xs.any λy=>eqV y x
 |_,_, .nil,_=>rfl
 |y::xs,u::us, .cons r t,f=>by
  rw[List.all_cons,0#r] at f;rw[List.any_cons,List.any_cons,wK r f.1,gR t f.2]
theorem fu {A:5#F}{s:1#a}{x:V}{v:Value}(rx:0#dy)(fx:kX x=true):∀{xs:List V} {us:List Value},5#U->xs.all kX=true->∀u∈us,SeqAt.EqAt A s u v (eqU x u)
 |_,_, .nil,_=>λu hu=>by cases hu
 |y::xs,u::us, .cons r t,f=>λu' hu=>by
  rw[List.all_cons,0#r] at f;rcases 1#y hu with rfl |hu
  ·rw[wK r f.1];exact AA r rx f.1 fx
  ·exact fu rx fx t f.2 u' hu
def inV (x:V)(xs:0#t):Bool:=xs.any λy=>eqV y x
inductive rIn (K:Frag)(neg:Bool)(x y:V)(H:Hp)(Q:VK):Prop
 |mk (p xs)(_:y = .ref p)(_:SqL K H p xs ∨ SqT K H p xs)(_:kX x=true)(_:xs.all kX=true)(_:Q (.bl (if neg then !inV x xs else inV x xs)) H)
def rg:OpR X (5#l .In) (rIn X.K false):=by
 show 4;obtain⟨p,xs,rfl,hq,fx,fs,q⟩:=h;cases ry;rcases hq with hq |hq
 ·obtain⟨a1,r,pl,hz⟩:=5#j;refine SeqAt.in_listAt 0#dY pl.isList 3#T 9#Z;show 22
 ·obtain⟨a1,r,pl,hz⟩:=0#bi;refine SeqAt.in_tupleAt 0#dY pl 3#T 9#Z;show 22
def kY:OpR X (5#l .NotIn) (rIn X.K true):=by
 show 4;obtain⟨p,xs,rfl,hq,fx,fs,q⟩:=h;cases ry;rcases hq with hq |hq
 ·obtain⟨a1,r,pl,hz⟩:=5#j;refine SeqAt.notIn_listAt 0#dY pl.isList 3#T 9#Z;show 22
 ·obtain⟨a1,r,pl,hz⟩:=0#bi;refine SeqAt.notIn_tupleAt 0#dY pl 3#T 9#Z;show 22
inductive R_call_len_seq (K:Frag)(xs:0#t)(H:Hp)(Q:VK):Prop
 |mk (p ys)(_:xs=[.ref p])(_:SqL K H p ys ∨ SqT K H p ys)(_:Q (.int ys.length) H)
def ar:ck X (.builtin "len") 149#X.K:=by
 show 6;obtain⟨p,ys,rfl,hq,q⟩:=h;show 67;cases rx;have hn:=i6;rcases hq with hq |hq
 ·show 60;have w6:=0#dC;exact Calls.call_len_list pl.isList 6#X 0#aV
 ·obtain⟨a1,r',pl,hz⟩:=0#bi;have w6:=0#dC;exact len_tuple pl 6#X 0#aV
inductive R_call_len_str (xs:0#t)(H:Hp)(Q:VK):Prop
 |mk (z)(_:xs=[.str z])(_:z.length<=sizeLine)(_:Q (.int z.length) H)
def aI:ck X (.builtin "len") R_call_len_str:=by
 show 6;obtain⟨z,rfl,hz,q⟩:=h;obtain⟨u,rfl,t,rfl⟩:=iR r;have hn:=i6;exact len_str nofun 63#z.length
inductive R_call_list_of (K:Frag)(xs:0#t)(H:Hp)(Q:VK):Prop
 |mk (p ys)(_:xs=[.ref p])(_:SqL K H p ys ∨ SqT K H p ys)(_:∀l,H l=none->Q (.ref l) (upd H l (.lst ys)))
def aP:ck X (.type "list") (R_call_list_of X.K):=by
 show 6;obtain⟨p,ys,rfl,hq,q⟩:=h;show 67;cases rx;have fin:∀(a1:List Value),Vals ys a1->3#o<=sizeLine->∀(h':Heap) (c':Nat),(∀b o',s.heap.get? b=some o'->h'.get? b=some o') →
   h'.get? 0#g=some { cls := .type "list",dict:=none,data := .seq a1.toArray c',slots := #[] }->EP X w9 σ Q 11#s.heap.objs.size 0#W:=λa1 r' hz h' c' kp e=>
  ⟨.ref 0#g,_,I.laid (t':=6#G) kp (7#j) (show ObjOk X.prog X.w _ h' _ 14#ys from ⟨hz,a1,c',r',e⟩),rfl,q _ 0#bs⟩
 rcases hq with hq |hq
 ·show 60;have w6:=0#dC;obtain⟨o,ho,hc,n,hd⟩:=pl.isList;exact call_list_seq p 2#a ho hc hd 0#ey 6#X
 ·obtain⟨a1,r',pl,hz⟩:=0#bi;have w6:=0#dC;obtain⟨o,ho,hc,n,hd⟩:=pl;exact call_list_seq p 0#dT ho hc hd 0#ey 6#X
def tyV (K:Frag)(T:9#L)(x:V)(H:Hp):Prop:=match x with
 | .str _=>T="str"
 | .int _=>T="int"
 | .ref p=>(T="list"/\∃xs,SqL K H p xs) ∨ (T="tuple"/\∃o,K.lookup p=1#T/\o.cls = .type "tuple"/\o.dict=none) ∨
   (T="dict"/\((∃kvs,H p=some (.dK kvs)) ∨ ∃kvs,H p=some (.dT kvs))) ∨ (T="set"/\∃S n,H p=some (.set S n))
 |_=>False
def wL {w9:1#H}{σ:St}{H:Hp}{s:1#a}{T:9#L}{x:V}{v:Value}(I:0#d)(r:0#dy)(ty:tyV X.K T x H):
  s.TypeIs v T/\∀a,v = .ref a->∃ob,s.heap.get? a=some ob/\ob.dict=none:=by
 cases x with
 |str z=>
  obtain⟨t,rfl⟩:=r;cases (show T="str" from ty);exact⟨typeIs_str s z t,λ_ e=>7#t⟩
 |int i=>
  obtain⟨t,rfl⟩:=r;cases (show T="int" from ty);exact⟨typeIs_int s i t,λ_ e=>7#t⟩
 |ref p=>
  cases r;rcases ty with ⟨rfl,xs,hq⟩ |⟨rfl,o,hk,hc,hd⟩ |⟨rfl,hk⟩ |⟨rfl,S,n,hk⟩
  ·obtain⟨its,_,pl,_⟩:=5#j;refine⟨pl.isList.typeIs,λa e=>?_⟩;cases e;obtain⟨o,n,e,c,hd,_⟩:=pl;exact⟨o,e,hd⟩
  ·refine⟨⟨o,I.kIn p o hk,hc⟩,λa e=>?_⟩;cases e;exact⟨o,I.kIn _ o hk,hd⟩
  ·have z:∃o,s.heap.get? p=1#T/\o.ExactDict:=by
    rcases hk with ⟨a1,hk⟩ |⟨a1,hk⟩
    ·show 102
    ·show 102
   obtain⟨o,e,ex⟩:=z;refine⟨⟨o,e,ex.1⟩,λa e2=>?_⟩;cases e2;exact⟨o,e,ex.2.1⟩
  ·obtain⟨o,_,_,_,e,ex,_⟩:=I.hok p _ hk;refine⟨⟨o,e,ex.1⟩,λa e2=>?_⟩;cases e2;exact⟨o,e,ex.2.1⟩
 |_=>exact 4#z ty
inductive tBM0.I (K:Frag)(T:9#L)(r:V->0#t->Hp->VK->Prop)(Q:VK)(x:V)(H1:Hp):Prop
 |mk (_:tyV K T x H1)(_:r x [] H1 Q)
def tBM0 (K:Frag)(T:9#L)(r:V->0#t->Hp->VK->Prop)(to:TE):TE:=λσ H Q=>to σ H (tBM0.I K T r Q)
inductive tBM.I (K:Frag)(T:9#L)(r:V->0#t->Hp->VK->Prop)(t:TA)(σ:St)(Q:VK)(x:V)(H1:Hp):Prop
 |mk (_:tyV K T x H1)(_:t σ H1 λxs H2=>r x xs H2 Q)
def tBM (K:Frag)(T:9#L)(r:V->0#t->Hp->VK->Prop)(to:TE)(t:TA):TE:=λσ H Q=>to σ H (tBM.I K T r t σ Q)
variable {o e:Expr}{es:1#Z}{to:TE}{t:TA}{name:Str}{w4 y9:Pos}{T id:9#L}{r:V->0#t->Hp->VK->Prop}
def AB (pa:0#dv)(slot:0#aT)(hty:typeOf 3#M=pure 4#c)(hm:MtR X id r)(ho:8#y o to)
  (j4:0#av=eval o X.env:=by rfl) (v5:3#v=true:=by rfl):8#y (.Call 87#name [] [] y9) (tBM0 X.K T r to):=by
 show 5;refine wpAny_Call_method0_late j4 v5 0#ch;obtain⟨h1,h2⟩:=wL I1 r1 ty;exact⟨T,id,pa,slot,hty,h1,h2,Calls.callWith_builtin rfl (PySem.evalArgs_none (hm w9 s1 σ H1 x [] v [] Q I1 r1 .nil q1))⟩
def BJ (pa:0#dv)(slot:0#aT)(hty:typeOf 3#M=pure 4#c)(hm:MtR X id r)(ho:8#y o to)(ha:0#bk)
  (j4:0#av=eval o X.env:=by rfl)
  (hfew : ((backTo y9 (8#s)).all (λx => !x.1)&&(backToKw y9 (keywordEach [] X.env)).all (λx=>x.1.isSome)
   && decide 1#g)=true:=by rfl)
  (v5:3#v=true:=by rfl) (hs:8#s=78#e::2#C es X.env:=by rfl) (hplain:(backTo y9 5#X).any (·.1)=false:=by rfl):
  PE X 8#z 0#bX:=by
 show 5;refine wpAny_Call_method_late j4 hfew v5 rfl 0#ch;obtain⟨h1,h2⟩:=wL I1 r1 ty;refine⟨T,id,pa,slot,hty,h1,h2,?_⟩;have hA:=ha y9 w9 s1 σ H1 _ I1 q1;rw[hs] at hA ⊢;refine Calls.callWith_builtin (by show (false||(backTo y9 5#X).any (·.1))=false;rw[hplain] <;> rfl) (Calls.evalArgs_plain ?_)
 exact thn hA λus s2 ⟨vs,H2,I2,r2,q2⟩=>hm w9 s2 σ H2 x vs v us Q I2 r1 r2 q2
end
def MtM (X:Cx)(id:9#L)(r:V->0#t->Hp->VK->Prop):Prop:=
 ∀(w9:List (Addr×Obj)) (s:Shared) (σ:St) (H:Hp) (x:V) (xs:List V) (v:Value) (us:List Value) (Q:VK),0#d->0#dy->5#U->r x xs H Q →
  wpAny 0#j X.A (call 3#M (v::us)) 2#D X.xe s
def Vals.one {x:V}{us:2#b}:Vals [x] us->∃u,us=[u]/\RelV x u:=iR
def Vals.two {x y:V}{us:2#b}(h:Vals [x,y] us):∃u v,us=[u,v]/\RelV x u/\RelV y v:=by
 cases h with
 |cons r t=>
  cases t with
  |cons q z=>
   cases z;exact⟨_,_,rfl,r,q⟩
theorem Vals.zero:∀{us:List Value},Vals [] us->us=[]
 |_, .nil=>rfl
theorem Vals.rep {xs:0#t}{us:2#b}(h:5#U):∀k:Nat,Vals (0#f k xs).flatten (0#f k us).flatten
 |0 => .nil
 |k+1=>by
  rw[l33,l33,l36,l36];exact Vals.append h (Vals.rep h k)
def kZ (its:2#b):∀(k:Nat) (acc:List Value),
  List.foldl 0#de acc.toArray (0#f k 0#fO)=(acc++(0#f k its).flatten).toArray
 |0,acc=>by simp
 |k+1,acc=>by
  have e:acc.toArray++0#fO=(acc++its).toArray:=by simp
  have e2:(acc++its)++(0#f k its).flatten=acc++(0#f (k+1) its).flatten:=by
   rw[l33,l36,l19]
  rw[<- e2,<- kZ its k (acc++its),<- e,l33,l89]
section
variable {X:Cx}{w9:1#H}{σ:St}{H:Hp}{s:1#a}{l b:Addr}{xs ys zs:0#t}
def Inv.lset {its its':2#b}{n:Nat}{f:7#X->7#X}{t':Nat}(I:0#d)(hH:H l=9#l)
  (e:s.heap.get? l=some { cls := .type "list",data := .seq its.toArray n }) (hf:f 0#fO=its'.toArray) (hv:Vals ys its') (hz:3#o<=sizeLine) (ht:0 < t':=by first |assumption |exact l37 _ |(apply Inv.tk;assumption)):
  Inv X w9 σ (4#b l 14#ys) { s with heap:=s.heap.update l (Obj.mapSeq f),toks:=t' }:=by
 have q:=PySem.IsL.update e f;rw[hf] at q;refine I.write (x:=l) (e:=l) (by rw[hH];exact trivial) 2#a (λb' u hb hu=>(7#D s.heap (Obj.mapSeq f) 76#hb).trans hu) ⟨_,q⟩ ?_;exact⟨hz,its',_,hv,q⟩
def Inv.lnew {its:2#b}{t':Nat}(I:0#d)(hv:Vals ys its)(hz:3#o<=sizeLine)(ht:0 < t':=by first |assumption |exact l37 _ |(apply Inv.tk;assumption)):
  Inv X w9 σ (5#i 14#ys) { s with heap:=s.heap.push { cls := .type "list",data := .seq its.toArray },toks:=t' }:=
 I.laid (λ_ _ q=>0#H _ q) (7#j) ⟨hz,its,0,hv,1#N _ rfl⟩
def Inv.fresh (I:0#d):H 0#g=none:=I.hok.fresh (7#j)
def Inv.lstM (I:0#d)(hH:H l=9#l):0#E<=sizeLine/\∃(its:List Value) (n:Nat),0#fI/\0#E=0#fg/\s.heap.get? l=some { cls := .type "list",data := .seq its.toArray n }:=by
 obtain⟨z,its,n,r,e⟩:=I.hok l _ hH;exact⟨z,its,n,r,1#m,e⟩
def om {n:Nat}(h:n<=sizeLine):Builtin.List.listTooLong n=false:=by
 unfold Builtin.List.listTooLong;exact 0#D nofun
end
section
variable {X:Cx}
inductive rAppend (x:V)(vs:0#t)(H:Hp)(Q:VK):Prop
 |mk (l xs y)(_:x = .ref l)(_:vs=[y])(_:H l=some (.lst xs))(_:xs.length < sizeLine)(_:Q .non (upd H l (.lst (xs++[y]))))
def k8:MtM X "list.append" rAppend:=by
 show 10;obtain⟨l,xs,y,rfl,rfl,hH,hz,q⟩:=h;cases rx;obtain⟨u,rfl,ru⟩:=rv.one;show 100;refine 0#fa F.slot_list_append 98#e F.entry_list_append 163#F.args_list_append_2 (PySem.list_append l a1.toArray n u (by rw[l30];omega)) ⟨e,?_⟩;refine⟨.non,_,I.lset (its':=a1++[u]) hH e 0#h (r.append 34#ru) ?_,rfl,q⟩;rw[l6,l97];omega
inductive rExtend (x:V)(vs:0#t)(H:Hp)(Q:VK):Prop
 |mk (l b xs zs)(_:x = .ref l)(_:vs=[.ref b])(_:H l=some (.lst xs))(_:H b=some (.lst zs))(_:xs.length+zs.length<=sizeLine)(_:Q .non (upd H l (.lst (xs++zs))))
def rh:MtM X "list.extend" rExtend:=by
 show 10;obtain⟨l,b,xs,zs,rfl,rfl,hH,hB,hz,q⟩:=h;cases rx;obtain⟨u,rfl,ru⟩:=rv.one;cases ru;obtain⟨z,a2,n,r,hl,e⟩:=I.lstM hH;obtain⟨z2,j9,n2,r2,hl2,e2⟩:=I.lstM hB;have a3:a2.toArray.size+j9.toArray.size<=sizeLine:=by rw[l30,l30];omega
 have a1:¬ (!a2.toArray.isEmpty&&Builtin.List.listTooLong (a2.toArray.size+j9.toArray.size))=true:=by
  rw[om a3,0#dp];exact 1#e
 refine 0#fa F.slot_list_extend 98#e F.entry_list_extend 163#F.args_list_extend_2
  (AutoSeq1.list_extend_list_list_0 l a2.toArray n b j9.toArray n2 a1 (by rw[l30];omega) nofun) ⟨e,e2,?_⟩
 refine⟨.non,_,I.lset (its':=a2++j9) hH e 0#h (r.append r2) ?_,rfl,q⟩;rw[l6];omega
inductive rCat (x y:V)(H:Hp)(Q:VK):Prop
 |mk (l b xs zs)(_:x = .ref l)(_:y = .ref b)(_:H l=some (.lst xs))(_:H b=some (.lst zs))(_:xs.length+zs.length<=sizeLine)(_:∀p,H p=none->Q (.ref p) (upd H p (.lst (xs++zs))))
def cb:OpR X (0#dz .Add) rCat:=by
 show 4;obtain⟨l,b,xs,zs,rfl,rfl,hH,hB,hz,q⟩:=h;cases rx;cases ry;show 100;obtain⟨z2,j9,n2,r2,hl2,e2⟩:=I.lstM hB;refine PySem.P.add_list e e2 ?_ (by rw[l30,l30];omega);have ea:7#z++j9.toArray=(a1++j9).toArray:=by simp
 rw[ea];exact⟨.ref _,_,I.lnew (t':=6#G) (r.append r2) 7#V,rfl,q _ I.fresh⟩
inductive rRep (x y:V)(H:Hp)(Q:VK):Prop
 |mk (l k xs)(_:x = .ref l)(_:y = .int k)(_:H l=some (.lst xs))(_:-(2 ^ 63)<=k)(_:k < 2 ^ 63)(_:xs.length * k.toNat<=sizeLine)(_:∀p,H p=none->Q (.ref p) (upd H p (.lst (List.replicate k.toNat xs).flatten)))
def ya {α:Type}(xs:List α)(k:Nat):(0#f k xs).flatten.length=k * xs.length:=by
 induction k with
 |zero=>simp
 |succ k ih=>rw[l33,l36,l6,ih,Nat.succ_mul,l76]
def la:OpR X (0#dz .Mult) rRep:=by
 show 4;obtain⟨l,k,xs,rfl,rfl,hH,h1,h2,hz,q⟩:=h;cases rx;obtain⟨t,rfl⟩:=ry;show 100;have w6:8#c * k.toNat<=sizeLine:=by rw[l30,<- hl];exact hz
 have a4:¬ 8#c * k.toNat > (2 ^ 63 - 1) / 8:=by
  have:(sizeLine:Nat)<=(2 ^ 63 - 1) / 8:=by decide
  omega
 have a3:¬ (!Builtin.List.listFitsIndex k)=true:=by
  rw[fitsIndex_both h1 h2];exact 1#e
 have a2:¬ Builtin.List.listTooLong (8#c * k.toNat)=true:=by
  rw[om w6];exact 1#e
 have v3:List.foldl 0#de #[] (0#f (if a1.toArray.isEmpty=true then 0 else k.toNat) 7#z)=(0#f k.toNat a1).flatten.toArray:=by
  have f0:∀m:Nat,List.foldl 0#de #[] (0#f m 7#z)=(0#f m a1).flatten.toArray:=λm=>by
   have:=kZ a1 m [];rw[l38] at this;show 54
  rw[f0];cases a1 with
  |nil=>simp
  |cons a r'=>rw[0#z 0#h]
 refine wpAny_binaryOp_repeat_ref (T:="list") (U:="int") ∅ 98#e (λs'=>typeIs_int s' k t) noFill_list_mul F.fills_int_mul F.slot_int_rmul repeat_list F.slot_int_index.lookup
  (0#fa F.slot_int_rmul (typeIs_int s k t) F.entry_int_rmul 163#F.args_int_rmul_2 (int___rmul___int_list k t l a1.toArray n)
   ⟨e,rfl,98#e,0#fa F.slot_list_mul 98#e F.entry_list_mul 163#F.args_list_mul_2 (AutoListH.list___mul___list_int_3 l a1.toArray n k t a3 a4 a2) ⟨e,?_⟩⟩)
 rw[v3];exact⟨.ref _,_,I.lnew (t':=6#G) (r.rep k.toNat) (by rw[ya,Nat.mul_comm];exact hz),rfl,q _ I.fresh⟩
end
section
variable {prog:1#E}{w:World}{A:5#F}{E:Value->1#a->Prop}{s:1#a}
set_option maxRecDepth 100000 in
end
end L2
namespace Att
open PySem PySem.W PySem.Calls PyProof.Rows
end Att
namespace L2
open PySem PySem.Spec PyProof.Rows
theorem lc:∀{vs:List Value} {ns:List Int},IntsAre vs ns->Vals (ns.map V.int) vs
 |_,_, .nil => .nil
 |_,_, .cons n t h => .cons 24#t (lc h)
def Only (H:Hp):Prop:=∀b,H b=none ∨ ∃o xs,H b=some (.frz o 14#xs)
def law_call {P:1#E}{w:World}{K:Frag}{mg mb:Str->0#B}{CX:CXT}{k:Nat}{fa a:Addr}{fd:9#I}{x:Str}{sp:Sp}{s₁:1#a}{vs:2#b}{ns:List Int}
  (KX:K.In s₁.heap)(hns:s₁.heap.Ns 8#e mg)(hb:s₁.heap.Ns builtinsNs mb)(hbb:∀x:Str,x≠"__name__"->mb x=5#w)(hlim:s₁.heap.NoLimit)(hg:s₁.gens = #[])(htk:0 < s₁.toks)
  (ha:s₁.heap.get? a=some { cls := .type "list",data := .seq vs.toArray }) (hi:IntsAre vs ns) (hl:ns.length<=sizeLine) (hr:0#ag callerA)
  (F:∀base:Heap,K.In base->base.Ns 8#e mg->4#U CX k fa fd [x] sp) (hbind:∀(s:Shared) (u:Value),BindsTo s fd ⟨[u],[]⟩ [(x,u)])
  (hsp:∀H:Hp,Only H->SqL K H a (ns.map V.int)->sp 9#A H (λv _=>v = .bl true) λ_ _ _=>False)
  (hCX:∀H e s',CX [] H s₁ (λ_ _ _=>False) e s'->False):
  codeAny 52#P callerA (.call 11#fa ⟨9#A,[]⟩) 5#Q s₁:=by
 have rv:=lc hi;have a3:=hi.length;have a1:∀H:Hp,Only H->SqL K H a (ns.map V.int)->HOk P w H s₁.heap->(∀b,H b≠none->b=a)->(H a≠none->K.lookup a=none) →
   codeAny 52#P callerA (.call 11#fa ⟨9#A,[]⟩) 5#Q s₁:=by
  intro H hO hS hok hA hK;have base_of:∀{b:Addr} {o:Obj},s₁.heap.get? b=1#T->H b=none->(0#bm).get? b=some o:=λe n=>uK e n;have a6:∀{b:Addr} {o:Obj} {es:Array DictEntry} {ep:Nat},s₁.heap.get? b=1#T->o.data = .dict es ep->H b=none:=λ{b o es ep} e d=>by
   cases q:H b with
   |none=>rfl
   |some u=>
    have e':b=a:=hA b 0#bB;subst e';rw[ha] at e;cases e;have d':Data.seq vs.toArray _=Data.dict es ep:=d;cases d'
  have a2:∀{b:Addr} {m:Str->Option Value},s₁.heap.Ns b m->(0#bm).Ns b m:=λ{b m} ⟨o,es,ep,e,d,r⟩=>⟨o,es,ep,base_of e (a6 e d),d,r⟩;have a5 : K.In (0#bm) := fun b o e => base_of (KX b o e) (by
   cases q:H b with
   |none=>rfl
   |some u=>
    have e':b=a:=hA b 0#bB;subst e';rw[hK 0#bB] at e;cases e)
  have hM:Mod K mg (0#bm):=⟨a5,a2 hns,⟨mb,a2 hb,hbb⟩,let ⟨mc,h1,h2⟩:=hlim;⟨mc,a2 h1,h2⟩⟩;have e0:Env0 P w K mg (0#bm) callerA [] s₁ H:=⟨rfl,hM,λb o e=>xD e,Nat.le_of_eq 163#qO,trivial,λb hb=>0#A (show b∈([]:1#B) from hb) 0#h,hok, .of_eq hg,htk⟩;refine codeAny_mono ((F _ a5 (a2 hns)).run callerA [] s₁ H ⟨9#A,[]⟩ 9#A 9#A _ _ hr e0 (hbind s₁ 11#a) (.cons rfl .nil) (hsp H hO hS)) λr s' h=>?_;cases r with
  |error e=>exact(hCX H e s' h).elim
  |ok fl=>
   cases fl with
   |next=>exact 4#z h
   |brk=>exact 4#z h
   |cont=>exact 4#z h
   |ret u=>
    obtain⟨v,H',os,bare,un,a4,_,r',q⟩:=h;have q':v = .bl true:=q;subst q';obtain rfl:u=Value.bool true:=r';refine⟨rfl,OldK.of_keep λb o e=>?_,os,bare⟩;cases q:H b with
    |none=>exact un.keep b o e q (by intro z;exact 0#A (show b∈([]:1#B) from z) 0#h) 0#h
    |some u=>
     rcases hO b with z |⟨ob,xs,z⟩
     ·rw[q] at z;cases z
     ·have z2:=un.frzs b ob _ z;obtain⟨e1,_⟩:=hok b _ z;obtain⟨e2,_⟩:=a4 b _ z2;rw[e] at e1;cases e1;exact e2
 cases hk:K.lookup a with
 |some o=>
  have e:=KX a o hk;rw[ha] at e;cases e;refine a1 (λ_=>none) (λ_ => .inl rfl) 120#⟨_,vs.toArray,_,hk,rfl,rfl,rfl,by rw[l30,a3];exact hl,by simpa using rv⟩ (λb u z=>by have z':(none:Option HO)=some u:=z;cases z') (λb z=>0#A rfl z) λz=>0#A rfl z
 |none=>
  refine a1 (λb=>if b=a then some (.frz { cls := .type "list",data := .seq vs.toArray } 14#(ns.map V.int)) else none) (λb=>?_) 119#(.inr ⟨{ cls := .type "list",data := .seq vs.toArray },1#d rfl⟩) (λb u z=>?_) (λb z=>?_) λ_=>hk
  ·by_cases hb:b=a
   ·exact .inr ⟨_,_,1#d hb⟩
   ·exact .inl (0#z hb)
  ·by_cases hb:b=a
   ·have z':=(1#d hb).symm.trans z;cases z';subst hb;exact⟨ha,by rw[l4];exact hl,vs,_,rv,ha⟩
   ·have z':=(0#z hb).symm.trans z;cases z'
  ·by_cases hb:b=a
   ·exact hb
   ·exact 0#A (0#z hb) z
abbrev KOf {K:Frag}{h:Heap}(_:K.In h):Frag:=K
def bM (s:Stmt):Arguments:=match s with
 | .FunctionDef _ a _ _ _ _ _ _ _ _=>a
 |_=>{ posonlyargs:=[],args:=[],vararg:=none,kwonlyargs:=[],kw_defaults:=[],kwarg:=none,defaults:=[] }
def bD (s:Stmt):List Stmt:=match s with
 | .FunctionDef _ _ b _ _ _ _ _ _ _=>b
 |_=>[]
def ae (s:Stmt):Scope:=match s with
 | .FunctionDef _ _ _ _ _ _ sc _ _ _=>sc
 |_=>{ kind := .function,names:=[],isGenerator:=false,isCoroutine:=false }
abbrev CX0:CXT:=λ_ _ _ _ _ _=>False
abbrev E0:XK:=λ_ _ _=>False
def yb {X:Cx}:gQ CX0 X E0:=λ_ _ _ _ _ _ _ h=>6#T
structure Fun (K:Frag)(x qual:Str)(st:Stmt)(f:Addr)(fd:9#I):Prop where
 ex:∃(oc:Value) (od:Option Addr) (kV doc pm:Value) (an:Option Addr) (cdv ct:Value) (osl:Array (Option Value)),
  fd=fnOf x qual (bM st) (bD st) 55#st .none kV doc pm an cdv ct/\K.lookup f=some 170#(fd,osl)/\codeIn K cdv qual=true
 kp:0#fh=true
section
variable {P:1#E}{w:World}{K:Frag}{mg:Str->0#B}{base:Heap}
def Fun.ok {x qual:Str}{st:Stmt}{f:Addr}{fd:9#I}{N ps:0#O}{k:Nat}{sp:Sp}(F:9#H)(S:1#b N ps 55#st)(len:∀vs H Q E,8#h->6#h=2#x)
  (v4:∀(cdv:Value)(A:Around)(outer:List Env)(s:Shared)(H:Hp)(vs:List V)(Q:VK)(E:XK),0#ag 5#f->8#h →
   ∃t,PSs (cxOf CX0 P w K mg base N qual 55#st f cdv A outer s H E).nox (bD st) t/\t { nx:=λ_ H'=>Q .non H',rt:=Q } 0#aR H):0#b (k+1) f fd ps sp:=by
 show 117;refine Az lk a1 S len λA outer s H vs Q E hr a2=>?_;obtain⟨t,h,q⟩:=v4 cdv A outer s H vs Q E hr a2;exact⟨t,h.nox,q⟩
def Fun.oks {x qual:Str}{st:Stmt}{f:Addr}{fd:9#I}{N ps:0#O}{k:Nat}{sp:Sp}(F:9#H)(S:1#b N ps 55#st)
  (v4:∀{cdv:Value}{A:Around}{outer:List Env}{s:Shared}{vs:List V}{E:XK}(H:Hp)(Q:VK),0#ag 5#f->8#h →
   ∃t,PSs (cxOf CX0 P w K mg base N qual 55#st f cdv A outer s H E).nox (bD st) t/\t { nx:=λ_ H'=>Q .non H',rt:=Q } 0#aR H) (len:∀vs H Q E,8#h->6#h=ps.length:=by intro vs H Q E h;first |(cases h;subst_vars;rfl) |(rcases h with ⟨_,⟨_,rfl,_⟩,_⟩;rfl) |(rcases h with ⟨_,_,⟨_,rfl,_⟩,_⟩;rfl) |(rcases h with ⟨_,_,_,⟨_,rfl,_⟩,_⟩;rfl) |(rcases h with ⟨_,_,_,_,⟨_,rfl,_⟩,_⟩;rfl) |(rcases h with ⟨_,_,_,_,_,⟨_,rfl,_⟩,_⟩;rfl) |(rcases h with ⟨_,_,_,_,_,_,⟨_,rfl,_⟩,_⟩;rfl) |(rcases h with ⟨_,_,_,_,_,_,_,⟨_,rfl,_⟩,_⟩;rfl)):0#b (k+1) f fd ps sp:=F.ok S len λ_ _ _ _ H _ Q _=>v4 H Q
def Fun.binds {x qual:Str}{st:Stmt}{f:Addr}{fd:9#I}{ps:0#O}(F:9#H)
  (h:∀(kV doc pm:Value)(an:Option Addr)(cdv ct:Value)(us:List Value),5#n=2#x->bindArgs 32#qual 6#P=pure 6#N):Binds K fd ps []:=by
 obtain⟨oc,od,kV,doc,pm,an,cdv,ct,osl,rfl,lk,hcd⟩:=F.ex;exact .all (h kV doc pm an cdv ct)
def lf {x qual:Str}{st:Stmt}{f:Addr}{oc:Value}{od an:0#cK}{osl:Array (0#B)}{kV doc pm cdv ct:Value}(l:K.lookup f=some 170#(32#qual,osl))
  (c:codeIn K cdv qual=true)(k:0#fh=true):Fun K x qual st f 32#qual:=⟨⟨oc,od,kV,doc,pm,an,cdv,ct,osl,rfl,l,c⟩,k⟩
end
section
variable {X:Cx}
def pv (i:Nat){x:Str}{pos:Pos}(hN:X.N[i]? = some x:=by rfl) (hv:Vis X.env.scope x:=by first |exact Or.inl rfl |exact Or.inr (Or.inl rfl) |exact Or.inr 0#gd) (hd:0#v=false:=by decide)
  (hcd:0#bE=false:=by decide):PE X 61#pos 44#i:=zU hN hv hd hcd
end
def iteF {A B:Prop}(h:B):if false=true then A else B:=by
 rw[0#z 1#e];exact h
def iteT {A B:Prop}(h:A):if true=true then A else B:=by
 rw[1#d rfl];exact h
def ite2 {c A B:Prop} [Decidable c](h1:c->A)(h2:¬ c->B):if c then A else B:=by
 by_cases h:c
 ·rw[1#d h];exact h1 h
 ·rw[0#z h];exact h2 h
def Same (H H':Hp):Prop:=∀b o,H b=1#T->H' b=1#T
def Same.refl (H:Hp):Same H H:=λ_ _ h=>h
def Same.trans {H H1 H2:Hp}(a:4#L H1)(b:Same H1 H2):Same H H2:=λc o h=>b c o (a c o h)
def Same.free {H H':Hp}(e:0#T){l:Addr}(h:H' l=Option.none):H l=Option.none:=by
 cases q:H l with
 |none=>rfl
 |some o=>
  rw[e l o q] at h;cases h
def Same.seq {K:Frag}{H H':Hp}{a:Addr}{xs:0#t}(e:0#T)(h:6#S):SqL K H' a xs:=by
 rcases h with (h |⟨o,h⟩) |h
 ·exact .inl 119#(e _ _ h)
 ·exact .inl 120#⟨o,e _ _ h⟩
 ·exact .inr h
def cxK {CX:CXT}{P:1#E}{w:World}{K:Frag}{mg:Str->0#B}{base:Heap}{N:0#O}{qual:Str}{scope:Scope}{f:Addr}{cd:Value}{A:5#F}{outer:4#V}{s:1#a}{H:Hp}{E:XK}:(2#Y cd A outer s H E).K=K:=rfl
def cut1 {a1:TS}{D:Ends}{σ:St}{H:Hp}(h:let D2:=D;a1 D2 σ H):a1 D σ H:=h
def cut2 {a1 a2:TS}{D:Ends}{σ:St}{H:Hp}(h:let D2:=D;let T2:=a2;tSeq a1 T2 D2 σ H):(tSeq a1 a2) D σ H:=h
def cut3 {a1 a2 a3:TS}{D:Ends}{σ:St}{H:Hp}(h:let D2:=D;let T3:=a3;let T2:=0#fn;tSeq a1 T2 D2 σ H):(tSeq a1 (tSeq a2 a3)) D σ H:=h
def cut4 {a1 a2 a3 a4:TS}{D:Ends}{σ:St}{H:Hp}(h:let D2:=D;let T4:=a4;let T3:=tSeq a3 T4;let T2:=0#fn;tSeq a1 T2 D2 σ H):(tSeq a1 (tSeq a2 (tSeq a3 a4))) D σ H:=h
def cut5 {a1 a2 a3 a4 a5:TS}{D:Ends}{σ:St}{H:Hp}(h:let D2:=D;let T5:=a5;let T4:=tSeq a4 T5;let T3:=tSeq a3 T4;let T2:=0#fn;tSeq a1 T2 D2 σ H):83#a5 D σ H:=h
def cut6 {a1 a2 a3 a4 a5 a6:TS}{D:Ends}{σ:St}{H:Hp}(h:let D2:=D;let T6:=a6;let T5:=tSeq a5 T6;let T4:=tSeq a4 T5;let T3:=tSeq a3 T4;let T2:=0#fn;tSeq a1 T2 D2 σ H):83#(tSeq a5 a6) D σ H:=h
def cut7 {a1 a2 a3 a4 a5 a6 a7:TS}{D:Ends}{σ:St}{H:Hp}(h:let D2:=D;let T7:=a7;let T6:=tSeq a6 T7;let T5:=tSeq a5 T6;let T4:=tSeq a4 T5;let T3:=tSeq a3 T4;let T2:=0#fn;tSeq a1 T2 D2 σ H):83#(tSeq a5 (tSeq a6 a7)) D σ H:=h
def cut8 {a1 a2 a3 a4 a5 a6 a7 a8:TS}{D:Ends}{σ:St}{H:Hp}(h:let D2:=D;let T8:=a8;let T7:=tSeq a7 T8;let T6:=tSeq a6 T7;let T5:=tSeq a5 T6;let T4:=tSeq a4 T5;let T3:=tSeq a3 T4;let T2:=0#fn;tSeq a1 T2 D2 σ H):83#(tSeq a5 (tSeq a6 (tSeq a7 a8))) D σ H:=h
def cut9 {a1 a2 a3 a4 a5 a6 a7 a8 a9:TS}{D:Ends}{σ:St}{H:Hp}(h:let D2:=D;let T9:=a9;let T8:=tSeq a8 T9;let T7:=tSeq a7 T8;let T6:=tSeq a6 T7;let T5:=tSeq a5 T6;let T4:=tSeq a4 T5;let T3:=tSeq a3 T4;let T2:=0#fn;tSeq a1 T2 D2 σ H):83#(tSeq a5 (tSeq a6 (tSeq a7 (tSeq a8 a9)))) D σ H:=h
def cutG {g:TG}{v:V}{t:TS}{D:Ends}{σ:St}{H:Hp}(h:let D2:=D;g v σ H λσ2 H2=>t D2 σ2 H2):g v σ H λσ2 H2=>t D σ2 H2:=h
inductive Ex1 {α0:Type} (p:α0->Prop):Prop |mk:∀x0,p x0->Ex1 p
inductive Ex2 {α0 α1:Type} (p:α0->α1->Prop):Prop |mk:∀x0 x1,p x0 x1->Ex2 p
inductive Ex3 {α0 α1 α2:Type} (p:α0->α1->α2->Prop):Prop |mk:∀x0 x1 x2,p x0 x1 x2->Ex3 p
inductive Ex4 {α0 α1 α2 α3:Type} (p:α0->α1->α2->α3->Prop):Prop |mk:∀x0 x1 x2 x3,p x0 x1 x2 x3->Ex4 p
inductive Ex5 {α0 α1 α2 α3 α4:Type} (p:α0->α1->α2->α3->α4->Prop):Prop |mk:∀x0 x1 x2 x3 x4,9#b->Ex5 p
inductive Ex6 {α0 α1 α2 α3 α4 α5:Type} (p:α0->α1->α2->α3->α4->α5->Prop):Prop |mk:∀x0 x1 x2 x3 x4 x5,9#b x5->Ex6 p
inductive Ex7 {α0 α1 α2 α3 α4 α5 α6:Type} (p:α0->α1->α2->α3->α4->α5->α6->Prop):Prop |mk:∀x0 x1 x2 x3 x4 x5 x6,9#b x5 x6->Ex7 p
inductive Ex9 {α0 α1 α2 α3 α4 α5 α6 α7 α8:Type} (p:α0->α1->α2->α3->α4->α5->α6->α7->α8->Prop):Prop |mk:∀x0 x1 x2 x3 x4 x5 x6 x7 x8,9#b x5 x6 x7 x8->Ex9 p
inductive Ex10 {α0 α1 α2 α3 α4 α5 α6 α7 α8 α9:Type} (p:α0->α1->α2->α3->α4->α5->α6->α7->α8->α9->Prop):Prop |mk:∀x0 x1 x2 x3 x4 x5 x6 x7 x8 x9,9#b x5 x6 x7 x8 x9->Ex10 p
inductive Ex11 {α0 α1 α2 α3 α4 α5 α6 α7 α8 α9 α10:Type} (p:α0->α1->α2->α3->α4->α5->α6->α7->α8->α9->α10->Prop):Prop |mk:∀x0 x1 x2 x3 x4 x5 x6 x7 x8 x9 x10,9#b x5 x6 x7 x8 x9 x10->Ex11 p
inductive Al2 (p0 p1:Prop):Prop |mk:p0->p1->Al2 p0 p1
inductive Al3 (p0 p1 p2:Prop):Prop |mk:p0->p1->p2->Al3 p0 p1 p2
inductive Al4 (p0 p1 p2 p3:Prop):Prop |mk:p0->p1->p2->p3->Al4 p0 p1 p2 p3
inductive Al5 (p0 p1 p2 p3 p4:Prop):Prop |mk:p0->p1->p2->p3->p4->Al5 p0 p1 p2 p3 p4
inductive Al6 (p0 p1 p2 p3 p4 p5:Prop):Prop |mk:p0->p1->p2->p3->p4->p5->Al6 p0 p1 p2 p3 p4 p5
inductive Al7 (p0 p1 p2 p3 p4 p5 p6:Prop):Prop |mk:p0->p1->p2->p3->p4->p5->p6->Al7 p0 p1 p2 p3 p4 p5 p6
inductive Al8 (p0 p1 p2 p3 p4 p5 p6 p7:Prop):Prop |mk:p0->p1->p2->p3->p4->p5->p6->p7->Al8 p0 p1 p2 p3 p4 p5 p6 p7
inductive Al9 (p0 p1 p2 p3 p4 p5 p6 p7 p8:Prop):Prop |mk:p0->p1->p2->p3->p4->p5->p6->p7->p8->Al9 p0 p1 p2 p3 p4 p5 p6 p7 p8
inductive Al10 (p0 p1 p2 p3 p4 p5 p6 p7 p8 p9:Prop):Prop |mk:p0->p1->p2->p3->p4->p5->p6->p7->p8->p9->Al10 p0 p1 p2 p3 p4 p5 p6 p7 p8 p9
inductive Al12 (p0 p1 p2 p3 p4 p5 p6 p7 p8 p9 p10 p11:Prop):Prop |mk:p0->p1->p2->p3->p4->p5->p6->p7->p8->p9->p10->p11->Al12 p0 p1 p2 p3 p4 p5 p6 p7 p8 p9 p10 p11
inductive Al13 (p0 p1 p2 p3 p4 p5 p6 p7 p8 p9 p10 p11 p12:Prop):Prop |mk:p0->p1->p2->p3->p4->p5->p6->p7->p8->p9->p10->p11->p12->Al13 p0 p1 p2 p3 p4 p5 p6 p7 p8 p9 p10 p11 p12
inductive Al14 (p0 p1 p2 p3 p4 p5 p6 p7 p8 p9 p10 p11 p12 p13:Prop):Prop |mk:p0->p1->p2->p3->p4->p5->p6->p7->p8->p9->p10->p11->p12->p13->Al14 p0 p1 p2 p3 p4 p5 p6 p7 p8 p9 p10 p11 p12 p13
inductive Al15 (p0 p1 p2 p3 p4 p5 p6 p7 p8 p9 p10 p11 p12 p13 p14:Prop):Prop |mk:p0->p1->p2->p3->p4->p5->p6->p7->p8->p9->p10->p11->p12->p13->p14->Al15 p0 p1 p2 p3 p4 p5 p6 p7 p8 p9 p10 p11 p12 p13 p14
def CellsIn (env:Env):0#dt->Prop
 | []=>True
 |p::r=>env.cells.lookup p.1=some p.2/\CellsIn env r
theorem CellsIn.look {env:Env}:∀{cl:List (Str×Addr)},CellsIn env cl->∀x c,cl.lookup x=some c->env.cells.lookup x=some c
 | [],_,x,c,e=>by simp at e
 |p::r,h,x,c,e=>by
  obtain⟨n,a⟩:=p;rw[List.lookup_cons] at e;cases q:x==n with
  |true=>
   rw[q] at e;have q':x=n:=eq_of_beq q;subst q';cases e;exact h.1
  |false=>
   rw[q] at e;exact h.2.look x c e
abbrev bd (X:Cx)(scope:Scope)(cl:0#dt)(C:Addr)(N':0#O)(fp:1#B)(s:1#a)(H:Hp):Cx:=
 { X with N:=N',s₀:=s,H₀:=H,env:=compEnvC scope cl C X.env,outer:=X.stack,ex:=fp,fn:=λ_=>false,pn:=[],xe:=λ_ _=>False }
def nfS (k:Nat)(fr:0#a)(σ:St):St:=0#f k none++fr.map λj=>(σ[j]?).join
structure CompN (X:Cx)(scope:Scope)(cl:0#dt)(own:0#O)(fr:0#a)(N':0#O):Prop where
 kind:scope.kind = .function
 cells:CellsIn X.env cl
 has:∀x,1#v->∃c,cl.lookup x=some c
 nd:N'.Nodup
 len:N'.length=8#u+fr.length
 free:∀(i:Nat) (j:Nat),fr[i]? = some j->∃x,X.N[j]? = some x/\N'[8#u+i]? = some x/\3#a ∧
  1#v
section
variable {X:Cx}{w9:1#H}{σ:St}{H:Hp}{s s4:1#a}{scope:Scope}{cl:0#dt}{own:0#O}{fr:0#a}{N':0#O}{fp:1#B}{C:Addr}{H4:Hp}
def rj (I:0#d)(Z:3#F)(hC:0#g<=C)(hf:∀b∈fp,7#a b)(ho:∀b∈fp,∃o,s.heap.get? b=1#T/\∀v,o.data ≠ .cell v):(0#i).Ok where
 mod:=I.ok.mod
 kind:=Z.kind
 glob:=I.ok.glob
 blt:=I.ok.blt
 above:=hC
 inj:=λx y c h1 h2=>I.ok.inj x y c (Z.cells.look x c h1) (Z.cells.look y c h2)
 has:=λx h=>Z.has x h
 cab:=λx c h _=>1#o h
 hd:=I.ok.hd
 frames:=I.ok.frames
 stk := .inl rfl
 exf:=λb hb=>by
  obtain⟨o,e,_⟩:=ho b hb;refine⟨l27 90#hC,λx c h=>?_⟩;exact(0#ff).2.2.2.2.1 x c (Z.cells.look x c h)
 bs:=I.bs
 bsz:=l17 I.ok.bsz I.sz
 noex:=λb o e hb=>by
  rcases (0#ff).2.2.2.1 with z |z
  ·exact I.ok.noex b o e z
  ·exact 0#A 90#(l17 I.ok.bsz z) (l50 _)
 exfs:=λb hb z=>by
  rcases 1#y (I.stkSub b z) with e |e
  ·exact(0#ff).2.1 e
  ·exact(0#ff).2.2.1 e
 funs:=I.stack
 frf:=I.stkFree
def uY (I:0#d)(Z:3#F)(hC:0#g<=C)(hf:∀b∈fp,7#a b)(ho:∀b∈fp,∃o,s.heap.get? b=1#T/\∀v,o.data ≠ .cell v)
  (os:s4.os=s.os)(bare:AllBare s4.gens)(un:Un (frs 7#d) fp H H4 s.heap s4.heap)(ns:∃m,s4.heap.Ns C m)(kc:∀x c v,1#R=some c->0#dN->s4.heap.IsCell c v)
  (fr4:H4 C=none)(hok:8#V H4 s4.heap)(tk:0 < s4.toks):Inv (0#i) [] 81#own.length H4 s4 where
 ok:=rj I Z hC hf ho
 os:=os
 bare:=bare
 base:=un
 loc:=by
  obtain⟨m,hm⟩:=ns;refine⟨m,hm,λi x v h1 h2 h3=>?_⟩;unfold nfS at h2;by_cases hi:i < 8#u
  ·rw[3#l 8#R,List.getElem?_replicate,1#d hi] at h2;cases h2
  ·rw[2#l 8#R,l23,0#x] at h2;cases q:fr[i - 8#u]? with
   |none=>rw[q] at h2;cases h2
   |some j=>
    rw[q] at h2;have a1:(σ[j]?).join=some v:=1#w h2;obtain⟨y,e1,e2,e3,e4⟩:=Z.free _ j q;have ei:8#u+(i - 8#u)=i:=by omega
    rw[ei] at e2;have a3:N'[i]? = some x:=h1;rw[e2] at a3;cases a3;have hs:σ[j]? = some 23#v:=by
     cases r:σ[j]? with
     |none=>rw[r] at a1;cases a1
     |some w=>rw[r] at a1;cases w with
      |none=>cases a1
      |some w=>cases a1;rfl
    obtain⟨m0,_,hl⟩:=I.loc;have a4:Vis X.env.scope x:=e3.elim (λz => .inr 119#z) λz => .inr 120#z;obtain⟨u,ru,lk⟩:=hl j x v e1 hs a4;refine⟨u,ru,?_⟩;rcases lk with ⟨k,_⟩ |⟨_,c,ec,hc⟩
    ·rcases e3 with z |z <;> (rw[k] at z;cases z)
    ·obtain⟨c',a2⟩:=Z.has x e4;have:=Z.cells.look x c' a2;rw[ec] at this;cases this;exact .inr ⟨e4,c,a2,kc x c _ ec hc⟩
 cell:=λx c e=>by
  have e':=Z.cells.look x c e;obtain⟨v,hv⟩:=I.cell x c e';exact⟨v,kc x c v e' hv⟩
 free:=fr4
 freeC:=λx c e=>by
  have e':=Z.cells.look x c e;obtain⟨v,o,hv,_⟩:=I.cell x c e';refine un.free c o hv (I.freeC x c e') λhb=>?_;exact(hf c hb).2.2.2.2.1 x c e' rfl
 pin:=λp hp=>0#A 0#bd 0#h
 hok:=hok
 len:=by
  show (nfS own.length fr σ).length=N'.length;unfold nfS;rw[l6,l23,l4,Z.len]
 tk:=tk
def uZ {σ':St}(I:0#d)(hf:∀b∈fp,7#a b){pins':1#H}(J:Inv (0#i) pins' σ' H4 s4):Inv X w9 σ H4 s4:=
 I.call' J.os J.base J.hok J.bare (λb hb=>⟨(0#ff).2.2.2.1,(0#ff).2.1,(0#ff).2.2.2.2.1,(0#ff).2.2.2.2.2⟩) J.tk
def lg {C:Addr}{h':Heap}(I0:0#d)(hC:0#g<=C){σ':St}(I:2#M σ' H4 s4)(fr4:H4 C=none)(hs:0#dr C s4.heap h'):2#M σ' H4 { s4 with heap:=h' }:=by
 refine I.turned (t':=s4.toks) (it:=C) 136#hs.2 fr4 ?_ 120#(l17 I0.sz hC) ?_ ?_
 ·exact l67 (l32 I0.lt hC)
 ·intro x c e z;obtain⟨v,q⟩:=I0.cell x c e;exact 0#A (l32 q.lt (by rw[z];exact hC)) (l50 _)
 ·intro p hp z;exact 0#A (l32 (0#S (I0.pin p hp).1) (by rw[z];exact hC)) (l50 _)
end
def PTs (X:Cx)(ifs:1#Z)(t:TT):Prop:=
 ∀(w9:List (Addr×Obj)) (s:Shared) (σ:St) (H:Hp) (Q:Bool->Hp->Prop),0#d->9#m Q →
  wpAny 0#j X.A (forIn ifs true λc r=>if r=true then do let ok ← isTrue c X.env 64#c;pure (0#gA ok) else pure (0#gA r)) (TP X w9 σ Q) X.xe s
def tYes:TT:=λ_ H Q=>Q true H
def yc {X:Cx}:PTs X [] tYes:=λ_ _ _ H _ I h=>wpAny_tests_nil ⟨H,I,h⟩
def yd {X:Cx}{c:Expr}{t:TT}(h:PT X c t):PTs X [c] t:=λw9 s σ H Q I q=>wpAny_tests_one (h w9 s σ H Q I q)
section
variable {prog:1#E}{w:World}{A:5#F}{R:Result->1#a->Prop}{s:1#a}
theorem li {elt target iter:Expr}{ifs:1#Z}{scope:Scope}{pos:Pos}{it acc:Value}{env:Env}(I:Nat->1#a->Prop)
  (turn : ∀ n s, I n s -> wpAny 52#prog A (pyNext it) (λr s₁=>match r with
   |none=>R (.ok .next) s₁
   | some v => wpAny 52#prog A (letOwnedTupleGo target it v) (fun _ s₂ => wpAny 52#prog A (assign target env v) (λ_ s₂=>
     wpAny 52#prog A (forIn ifs true fun c r => if r = true then do let ok ← isTrue c env (eval c env); pure (0#gA ok) else pure (0#gA r)) (λok s₃=>
      if ok = true then wpAny 52#prog A (eval elt env) (λx s₄=>
       wpAny 52#prog A (call (.builtin "list.append") [acc,x]) (λ_ s₅=>∃m,m < n/\I m s₅) 7#o s₄) 7#o s₃
      else ∃m,m < n/\I m s₃) 7#o s₂) 7#o s₂) 7#o s₁) 7#o s)
  (n:Nat)(h:I n s):
  codeAny 52#prog A (.compLoop 25#target 0 it acc env) R s:=by
 have no:∀{E:Value->Shared->Prop} (e:Value) (s':Shared),(λ_ _=>False:Value->1#a->Prop) e s'->E e s':=λ_ _ z=>4#z z;refine codeAny_loop rfl I (λn s hI=>?_) n h;show wpAny _ A ((compTurn 25#target 0 it acc env).onRaise (λx=>do noteFrame x env;theTreesLotGoes x)) _ _ s;refine wpAny_noted ?_;rw[compTurn_list];refine 1#j (wpAny_standAt (1#j (4#Y (turn n s hI) (λr s₁ h₁=>?_) no)));cases r with
 |none=>exact 3#r h₁
 |some v=>
  refine 1#j (4#Y h₁ (λ_ s₂ h₂=>?_) no);refine 1#j (4#Y h₂ (λ_ s₂ h₂=>1#j (4#Y h₂ (λok s₃ h₃=>?_) no)) no);cases ok with
  |false=>exact 3#r 89#h₃
  |true=>
   exact 1#j (1#j (4#Y h₃ (λx s₄ h₄=>1#j (4#Y h₄ (λ_ s₅ h₅=>3#r (3#r 89#h₅)) no)) no))
end
def nfLe (k:Nat)(fr:0#a)(σ σ2:St):Prop:=σ2.length=(nfS k fr σ).length/\∀(i:Nat) (v:V),(nfS k fr σ)[i]? = some 23#v->σ2[i]? = some 23#v
def nfLe.refl (k:Nat)(fr:0#a)(σ:St):nfLe k fr σ 81#k:=⟨rfl,λ_ _ h=>h⟩
def nfLe.set {k:Nat}{fr:0#a}{σ σ2:St}{i:Nat}(h:3#h)(hi:i < k)(x:Option V):nfLe k fr σ (σ2.set i x):=by
 refine⟨by rw[List.length_set];exact h.1,λj v e=>?_⟩;by_cases hj:i=j
 ·subst hj;unfold nfS at e;rw[3#l 8#R,List.getElem?_replicate,1#d hi] at e;cases e
 ·rw[0#bj hj];exact h.2 j v e
def rLC (k:Nat)(fr:0#a)(g:TG)(tt:TT)(te:TE)(σ:St)(J:It)(H1:Hp)(Q:Addr->Hp->Prop):Prop:=
 ∀D,H1 D=none->∃W:Nat->Nat->0#t->Hp->Prop,(∃m,W 0 m [] (upd H1 D 0#y))/\∀i m acc H,W i m acc H->H D=some 14#acc ∧
  ((J.stop i H /\ Q D H) ∨ (J.go i H/\∀x H',J.yld i H x H'->g x 81#k H' λσ2 H2=>3#h/\tt σ2 H2 λb H3=>
   if b=true then te σ2 H3 λy H4=>H4 D=some 14#acc/\acc.length < sizeLine/\∃m',m' < m/\W (i+1) m' (acc++[y]) (upd H4 D 14#(acc++[y]))
   else ∃m',m' < m/\W (i+1) m' acc H3))
def tLC (wi:TI)(k:Nat)(fr:0#a)(g:TG)(tt:TT)(te:TE):TE:=λσ H Q=>wi σ H λJ H1=>3#e J H1 λD H'=>Q 11#D H'
section
variable {X:Cx}{scope:Scope}{cl:0#dt}{own:0#O}{fr:0#a}{N':0#O}{tg iter elt:Expr}{ifs:1#Z}{wi:TI}{g:TG}{tt:TT}{te:TE}{pos:Pos}
structure TurnP (Cm:Cx->Prop)(P:1#E)(w:World)(K:Frag)(tg:Expr)(J:It)(fp:1#B)(it:Addr)(tn:Nat->Heap->Prop):Prop where
 obj:∀i h,tn i h->∀b∈fp,∃o,h.get? b=1#T/\∀v,o.data ≠ .cell v
 keep:∀i h h',tn i h->0#cB->tn i h'
 item:∀(X:Cx),X.prog=P->X.w=w->X.K=K->Cm X->∀(i:Nat) (w9:List (Addr×Obj)) (s:Shared) (σ:St) (H:Hp) (E:Value->Shared->Prop),0#d->0#df->tn i 6#U->J.go i H →
  wpAny 52#P X.A (pyNext 11#it) (λr s1=>∃u,r=4#o ∧
   wpAny 52#P X.A 7#v 5#N E s1) E s
 done:∀(X:Cx),X.prog=P->X.w=w->X.K=K->Cm X->∀(i:Nat) (w9:List (Addr×Obj)) (s:Shared) (σ:St) (H:Hp) (E:Value->Shared->Prop),0#d->0#df->tn i 6#U->J.stop i H →
  wpAny 52#P X.A (pyNext 11#it) (λr s1=>r=none/\Inv X w9 σ H s1) E s
 self:∀(A:Around) (i:Nat) (s:Shared) (Q:Value->Shared->Prop) (E:Value->Shared->Prop),tn i 6#U->Q 11#it s->wpAny 52#P A (pyIter 11#it) Q E s
def Turn.toP {P:1#E}{w:World}{K:Frag}{tg:Expr}{J:It}{fp:1#B}{it:Addr}{tn:Nat->Heap->Prop}(T:Turn P w K tg J fp it tn):TurnP (λX=>7#J=true) P w K tg J fp it tn:=⟨T.obj,T.keep,T.item,T.done,T.self⟩
def i7 {w9:1#H}{σ:St}{H:Hp}{s:1#a}{it:Addr}{fp:1#B}{tn:Nat->Heap->Prop}{J:It}{Q:Addr->Hp->Prop}{RR:Value->Addr->Result->1#a->Prop}{E:Value->1#a->Prop}
  {Cm:Cx->Prop}(hc:∀C,Cm (0#i))(Z:3#F)(w5:∀y∈5#I,y.2 ≠ .cell)
  (hg:∀C,PG (0#i) tg g)(ht:∀C,PTs (0#i) ifs tt)(he:∀C,PE (0#i) elt te)
  (I:0#d)(T:TurnP Cm X.prog X.w X.K tg J fp it tn)(st:tn 0 6#U)(hf:∀b∈fp,7#a b)(q:rLC own.length fr g tt te σ J H Q)
  (hRR:∀D C s' H' ,0#g<=C->(∃m,s'.heap.Ns C m)->H' C=none->2#M σ H' s'->Q D H'->RR 11#D C (.ok .next) s'):
  wpAny 0#j X.A (newList []) (fun acc s₃ => wpAny 0#j X.A (newFunctionEnv scope X.env.globals cl [] X.env.qual none .none 23#X.env) (λcenv s₄=>
   codeAny 0#j X.A (.compStart 25#tg 0 11#it acc { cenv with scope:=relabel scope X.env }) (RR acc cenv.locals) s₄) E s₃) E s:=by
 refine wpAny_newObj_type (wpAny_newFunctionEnv w5 (by intro y hy;simp at hy) (λh₁ c2₁ a6₁=>?_) Z.kind);dsimp only at c2₁ a6₁ ⊢;generalize hH2:s.heap.push { cls := .type "list",dict:=none,data := .seq ([]:List Value).toArray }=H2 at c2₁ a6₁ ⊢;have hC:H2.objs.size=0#g+1:=by rw[<- hH2,Heap.size_push]
 have a1:0#g<=H2.objs.size:=by rw[hC];exact Nat.le_succ _
 have d2:0#g≠H2.objs.size:=by rw[hC];exact l27 (l68 _)
 have old:∀b o,s.heap.get? b=1#T->h₁.get? b=some o:=λb o e=>
  a6₁.extBut b o (l27 90#a1) (0#H _ (hH2▸0#H _ e))
 have hD:h₁.get? 0#g=some { cls := .type "list",dict:=none,data := .seq ([]:2#b).toArray }:=
  a6₁.extBut _ _ d2 (0#H _ (hH2▸1#N _ rfl))
 have ho:=T.obj _ _ st;have c4:H 0#g=none:=I.hok.fresh (7#j);have e5:H H2.objs.size=none:=I.hok.fresh a1;obtain⟨W,⟨m0,w0⟩,a7⟩:=q s.heap.objs.size c4;have a9:8#V (5#i 0#y) h₁:=I.hok.laid old (7#j) ⟨4#r,[],0, .nil,hD⟩;have e6:Un (frs 7#d) fp H (5#i 0#y) s.heap h₁:=Un.laid old (7#j) c4;have C1:5#i 0#y H2.objs.size=none:=by rw[ai 76#d2];exact e5
 have d7:∀b∈fp,b≠s.heap.objs.size:=λb hb z=>by
  obtain⟨o,e,_⟩:=ho b hb;exact 0#A (0#S e) (by rw[z];exact l50 _)
 have J0:∀t,0 < t->Inv 0#eK [] 81#own.length (5#i 0#y) { s with heap:=h₁,toks:=t }:=λt ht=>
  uY I Z a1 hf ho rfl I.bare e6 ⟨_,c2₁⟩ (λx c v e ⟨o,e1,e2⟩=>⟨o,old c o e1,e2⟩) C1 a9 ht
 have d3:tn 0 h₁:=T.keep _ _ _ st λb _ o e=>old b o e;have a3:∀s₃:1#a,s₃={ s with heap:=h₁,toks:=s.toks+([]:List (Str×Value)).length } →
   codeAny 0#j X.A (.compLoop 25#tg 0 11#it 11#s.heap.objs.size (compEnvC scope cl H2.objs.size X.env)) (RR 11#s.heap.objs.size H2.objs.size) s₃:=by
  rintro s₃ rfl;generalize hX:bd X scope cl H2.objs.size N' fp s H=X' at J0;have e3:PG X' tg g:=by rw[<- hX];exact hg _
  have e8:PTs X' ifs tt:=by rw[<- hX];exact ht _
  have d6:PE X' elt te:=by rw[<- hX];exact he _
  have eP:X'.prog=X.prog:=by rw[<- hX]
  have eW:X'.w=X.w:=by rw[<- hX]
  have eK:X'.K=X.K:=by rw[<- hX]
  have eA:X'.A=X.A:=by rw[<- hX]
  have eE:X'.env=compEnvC scope cl H2.objs.size X.env:=by rw[<- hX]
  have eX:X'.xe=λ_ _=>False:=by rw[<- hX]
  have eC:Cm X':=by rw[<- hX];exact hc _
  have c0:∀{H':Hp},5#R->∀b∈fp,FpOk X' [] H' b:=λhn b hb=>by
   rw[<- hX];have ok:=rj I Z a1 hf ho;refine⟨hn b hb,(ok.exf b hb).1,ok.exfs b hb, .inl hb,(ok.exf b hb).2,λp hp=>0#A 0#bd 0#h⟩
  refine li (λn s'=>∃i acc H',Inv X' [] 81#own.length H' s'/\tn i s'.heap/\5#R/\W i n acc H') ?_ m0 ⟨0,[],_,J0 _ (by have:=I.tk;omega),d3,λb hb=>by rw[ai (d7 b hb)];exact(0#ff).1,w0⟩;rintro n s3 ⟨i,acc,H3,I3,d0,c5,w3⟩;obtain⟨hDa,a5⟩:=a7 i n acc H3 w3;rcases a5 with ⟨stop,qn⟩ |⟨go,step⟩
  ·have:=T.done X' eP eW eK eC i [] s3 _ H3 7#o I3 (c0 c5) d0 stop;rw[eA] at this;refine thn this λr s4 ⟨hr,I4⟩=>?_;subst hr;show RR _ _ _ _;have I4':Inv 0#eK [] 81#own.length H3 s4:=by rw[hX];exact I4
   obtain⟨m,hm,_⟩:=I4'.loc;exact hRR _ _ s4 H3 a1 ⟨m,hm⟩ I4'.free (uZ I hf I4') qn
  ·have:=T.item X' eP eW eK eC i [] s3 _ H3 7#o I3 (c0 c5) d0 go;rw[eA] at this;refine thn this λr s4 ⟨u,hr,h4⟩=>?_;subst hr;show wpAny _ _ 7#v _ _ s4;refine thn h4 λ_ s5 ⟨x,H5,I5,r5,y5,c1,d4⟩=>?_;have I5':=I5.pinned (c0 d4) (T.obj _ _ c1);have a4:∀{σ7:St} {H7:Hp} {s7:Shared},Inv X' ([]++i5 fp s5.heap) σ7 H7 s7->tn (i+1) s7.heap/\∀b∈fp,H7 b=none:=λ{σ7 H7 s7} I7=>by
    refine⟨T.keep _ _ _ c1 λb hb o e=>(I7.pin (b,o) 8#D).1,λb hb=>?_⟩;obtain⟨o,e,d⟩:=T.obj _ _ c1 b hb;exact(I7.pin (b,o) 8#D).2.1
   have g5:=e3 _ s5 _ H5 x u _ I5' r5 (step x H5 y5);rw[eP,eW,eA,eE,eX] at g5;refine thn g5 λ_ s6 ⟨σ6,H6,I6,c3,q6⟩=>?_;have t6:=e8 _ s6 σ6 H6 _ I6 q6;rw[eP,eW,eA,eE,eX] at t6;refine thn t6 λok s7 ⟨H7,I7,q7⟩=>?_;have again:∀{H8:Hp} {s8:Shared} {a2:List V},Inv X' ([]++i5 fp s5.heap) σ6 H8 s8->(∃m',m' < n/\W (i+1) m' a2 H8) →
     ∃m,m < n/\∃i acc H',Inv X' [] 81#own.length H' s8/\tn i s8.heap/\5#R/\W i m acc H':=λ{H8 s8 a2} I8 ⟨m',hm,w8⟩=>
    ⟨m',hm,i+1,a2,H8,I8.unpinned.weak c3.1.symm c3.2,(a4 I8).1,(a4 I8).2,w8⟩
   cases ok with
   |false=>
    have d8:∃m',m' < n/\W (i+1) m' acc H7:=by rw[0#z 1#e] at q7;exact q7
    show if false=true then _ else _
    rw[0#z 1#e];exact again I7 d8
   |true=>
    rw[1#d rfl] at q7;show if true=true then _ else _
    rw[1#d rfl];have e7:=d6 _ s7 σ6 H7 _ I7 q7;rw[eP,eW,eA,eE,eX] at e7;refine thn e7 λyv s8 ⟨y,H8,I8,r8,e4,d5,m',hm,w8⟩=>?_;have a8:=k8 _ s8 σ6 H8 11#s.heap.objs.size [y] 11#s.heap.objs.size [yv] (λ_ H9=>H9=upd H8 s.heap.objs.size 14#(acc++[y])) I8 rfl 34#r8 ⟨_,acc,y,rfl,rfl,e4,d5,rfl⟩;rw[eP,eW,eA,eX] at a8;refine thn a8 λ_ s9 ⟨_,H9,I9,_,e9⟩=>?_;subst e9;exact again I9 ⟨m',hm,w8⟩
 exact codeAny_compStart_list (a3 _ rfl) (T.self _ 0 _ _ _ d3 (a3 _ rfl))
def BK (hc:7#J=true)(Z:3#F)(w5:∀y∈5#I,y.2 ≠ .cell)(v6:∀x∈5#I,x.2 = .local->5#V=some .local)(j8:5#L=pure cl)
  (hi:PI X tg iter wi)(hg:∀C fp s H,PG (0#i) tg g)(ht:∀C fp s H,PTs (0#i) ifs tt)(he:∀C fp s H,PE (0#i) elt te)
  (hs:∀x,3#c=pure x:=by intro _;rfl):8#y 25#tg (tLC wi own.length fr g tt te):=by
 show 5;rw[eval_ListComp];refine wpAny_comprehension_free (use:=none) rfl hs j8 Z.kind v6 6#v;show 129;refine i7 (Cm:=λX=>7#J=true) (λ_=>hc) Z w5 (λC=>hg C _ _ _) (λC=>ht C _ _ _) (λC=>he C _ _ _) I2 T.toP a2 f2 q2 (RR:=λa1 C=>compPost 0#j X.A X.xe none 2#D a1 C) λD C s' H' hC ⟨m,hm⟩ fC I' q'=>?_;exact⟨m,hm,λh' a3=>⟨.ref D,H',lg I2 hC I' fC a3,rfl,q'⟩⟩
def rk (i:Nat)(wi:TI)(k:Nat)(fr:0#a)(g:TG)(tt:TT)(te:TE):TS:=λD σ H=>wi σ H λJ H1=>3#e J H1 λa H'=>D.nx (σ.set i 23#11#a) H'
def u5 {i:Nat}{x:Str}{pos' spos:Pos}(hN:6#g)(hix:X.N[i]? = some x)(hx:5#W=some .local)(hc:7#J=true)(Z:3#F)(w5:∀y∈5#I,y.2 ≠ .cell)
  (v6:∀x∈5#I,x.2 = .local->5#V=some .local)(j8:5#L=pure cl)
  (hi:PI X tg iter wi)(hg:∀C fp s H,PG (0#i) tg g)(ht:∀C fp s H,PTs (0#i) ifs tt)(he:∀C fp s H,PE (0#i) elt te)
  (hs:∀x,3#c=pure x:=by intro _;rfl) (hsw:swapsWith 25#tg 23#(.Name x pos') spos.line X.env=pure true:=by rfl):
  PS X 8#P (rk i wi own.length fr g tt te):=by
 show 19;rw[exec_Assign_Name_used _ _ _ _ hsw];refine 1#j (wpAny_standAt (1#j ?_));show wpAny _ X.A (do let _ ← comprehension 25#tg scope X.env _ (newList []) false 64#iter 23#(assign 61#pos' X.env)) _ _ s;refine 1#j (4#Y (wpAny_comprehension_free (use:=some (assign 61#pos' X.env)) (Q:=λ_ s'=>SP X w9 D .next s') rfl hs j8 Z.kind v6
  6#v) (λ_ s' hq=>3#r (3#r hq)) λ_ _ e=>e)
 show 129;refine i7 (Cm:=λX=>7#J=true) (λ_=>hc) Z w5 (λC=>hg C _ _ _) (λC=>ht C _ _ _) (λC=>he C _ _ _) I2 T.toP a2 f2 q2 (RR:=λa1 C=>compPost 0#j X.A X.xe 23#(assign 61#pos' X.env) (λ_ s'=>SP X w9 D .next s') a1 C) λa C s' H' hC ⟨m,hm⟩ fC I' q'=>?_;show wpAny _ _ (assign 61#pos' X.env 11#a) _ _ s';have a4:∀b,b=2#e ∨ X.env.cells.lookup x=some b->C≠b:=λb hb z=>by
  subst z;rcases hb with e |e
  ·exact l67 (l32 I2.lt hC) e
  ·obtain⟨v,q⟩:=I2.cell x C e;exact 0#A (l32 q.lt hC) (l50 _)
 refine wpAny_assign_Name (kN I' hN hix 119#hx (v := .ref a) rfl (λs'' I'' ⟨b,sb,eb⟩=>?_) 120#hx);refine⟨m,hm.sameBut sb (a4 b eb),λh' a3=>⟨_,H',lg I2 hC I'' fC a3,q'⟩⟩
end
open PySem PySem.Spec PyProof.Rows
open Builtin Builtin.Str
section
variable {X:Cx}
theorem oo:∀{ys:List Str} {us:List Value},Vals (ys.map V.str) us->∃l:List (Str×Tok),us=strValues l/\l.map (·.1)=ys
 | [],us,r=>by
  rw[l47] at r;cases r;exact⟨[],rfl,rfl⟩
 |y::ys,us,r=>by
  rw[l16] at r;cases r with
  |cons r1 r2=>
   obtain⟨t,e⟩:=r1;obtain⟨l,e1,e2⟩:=oo r2;subst e;subst e1;exact⟨(y,t)::l,rfl,by rw[l16,e2]⟩
theorem oq:∀(l:List (Str×Tok)),Vals ((l.map (·.1)).map V.str) (strValues l)
 | [] => .nil
 |(y,t)::l => .cons 24#t (oq l)
inductive rSplit (x:V)(vs:0#t)(H:Hp)(Q:VK):Prop
 |mk (z y)(_:x = .str z)(_:vs=[.str y])(_:(y.length==0)=false)(_:z.length<=1000000)(_:∀p,H p=none->Q (.ref p) (upd H p (.lst ((Txt.split z y).map V.str))))
def rl (z y:Str)(hz:6#i<=1000000):(partsBetween z (0#cb (6#i+1)) 5#u).length<=sizeLine:=by
 have h1:=StrLaws.occ_length_le z y 0 z.length (6#i+1);have h2:sizeLine=16777216:=0#Z;unfold partsBetween;simp only[l4,List.length_zip,l5,l6,l34];omega
def jx:MtR X "str.split" rSplit:=by
 show 10;obtain⟨z,y,rfl,rfl,hy,hz,q⟩:=h;show 8;obtain⟨u,rfl,t2,rfl⟩:=rv.one;have hl:=rl z y hz;have hs:=0#Z;have fin:∀(l:List (Str×Tok)) (k:Nat),0 < k->l.map (·.1)=Txt.split z y->0#L<=sizeLine->EP X w9 σ Q 11#s.heap.objs.size { s with heap:=s.heap.push { cls := .type "list",data := .seq (strValues l).toArray },toks:=k }:=λl k hk e hn=>by
  have r:=oq l;rw[e] at r;have w6:((Txt.split z y).map V.str).length<=sizeLine:=by rw[l4,<- e,l4];exact hn
  exact⟨.ref _,_,I.lnew (t':=k) r w6 hk,rfl,q _ I.fresh⟩
 cases h1:(decide (6#i < 5#u)||decide (strKind z < strKind y))
 ·cases hf:(0#cb (6#i+1)).isEmpty
  ·refine 0#fa F.slot_str_split (9#c) F.entry_str_split 163#F.args_str_split_2 (meets_str_split_sep z y t t2 h1 hy hf nofun hl) ?_;show wants 2#D X.xe _ { s with toks:=_,heap:=s.heap.push { cls := .type "list",data := .seq (strsFrom s.toks (partsBetween z (occurrences z y 0 z.length (z.length+1)) y.length)).toArray } };rw[strsFrom_eq];refine fin (numbered s.toks _) _ (by have:=I.tk;omega) ((numbered_texts _ _).trans ((0#z (ne_true_of_eq_false h1)).trans (0#z (ne_true_of_eq_false hf))).symm) ?_;have e:=0#V (numbered_texts s.toks (partsBetween z (0#cb (6#i+1)) 5#u));rw[l4] at e;rw[e];exact hl
  ·exact 0#fa F.slot_str_split (9#c) F.entry_str_split 163#F.args_str_split_2 (meets_str_split_not_found z y t t2 h1 hy hf)
    (fin [(z,t)] s.toks I.tk ((0#z (ne_true_of_eq_false h1)).trans (1#d hf)).symm (by show 1<=sizeLine;decide))
 ·exact 0#fa F.slot_str_split (9#c) F.entry_str_split 163#F.args_str_split_2 (meets_str_split_cannot_occur z y t t2 h1)
   (fin [(z,t)] s.toks I.tk (1#d h1).symm (by show 1<=sizeLine;decide))
inductive rJoin (K:Frag)(x:V)(vs:0#t)(H:Hp)(Q:VK):Prop
 |mk (z a ys)(_:x = .str z)(_:vs=[.ref a])(_:SqL K H a (ys.map V.str))(_:(ys.map (·.length)).sum+ys.length * z.length<=sizeLine)(_:Q (.str (Txt.join z ys)) H)
theorem lj (z:Str):∀(ys:List Str) (n:Nat),ys.foldl (λ(n:Nat) (s:Str)=>n+s.length+6#i) n=n+((ys.map 8#S).sum+3#o * 6#i)
 | [],n=>by simp
 |y::ys,n=>by
  rw[l89,lj z ys,l16,l25,l5,Nat.succ_mul];omega
def cm:MtR X "str.join" (rJoin X.K):=by
 show 10;obtain⟨z,a,ys,rfl,rfl,hq,hz,q⟩:=h;show 8;obtain⟨u,rfl,ru⟩:=rv.one;cases ru;obtain⟨its,r,pl,hn⟩:=5#j;obtain⟨l,rfl,e⟩:=oo r;refine wpAny_with_toks (n:=1) I.tk (SC.join (texts:=ys) pl.isList e ?_ λt' k htk=>⟨.str (Txt.join z ys),H,I.tok _ htk,0#F,q⟩);unfold JoinOk tooLong;rw[<- Array.foldl_toList,List.toList_toArray,lj,l77];simpa using hz
inductive rS2 (f:Str->Str->V)(x:V)(vs:0#t)(H:Hp)(Q:VK):Prop
 |mk (z y)(_:x = .str z)(_:vs=[.str y])(_:z.length<=sizeLine)(_:Q (f z y) H)
def rm:MtR X "str.rstrip" (rS2 λz y => .str (Txt.rstripChars z y)):=by
 show 2;exact wpAny_with_toks (n:=1) I.tk (SC.rstripChars 6#m hz)
def lm:MtR X "str.lstrip" (rS2 λz y => .str (9#M z y)):=by
 show 2;exact wpAny_with_toks (n:=1) I.tk (SC.lstripChars 6#m hz)
def u6:MtR X "str.strip" (rS2 λz y => .str (7#y z y)):=by
 show 2;exact wpAny_with_toks (n:=1) I.tk (SC.stripChars 6#m hz)
def bp:MtR X "str.startswith" 0#es:=by
 show 2;exact SC.startswith 107#q
def gS:MtR X "str.endswith" (rS2 λz y => .bl (Txt.endswith z y)):=by
 show 2;exact SC.endswith 107#q
def ye:MtR X "str.find" (rS2 λz y => .int (Txt.find z y)):=by
 show 2;exact SC.find 63#_
inductive R_mt_lower (x:V)(vs:0#t)(H:Hp)(Q:VK):Prop
 |mk (z)(_:x = .str z)(_:vs=[])(_:z.length<=1000000)(_:Q (.str (Txt.lower z)) H)
def u7:MtR X "str.lower" R_mt_lower:=by
 show 10;obtain⟨z,rfl,rfl,hz,q⟩:=h;show 8;cases rv.zero;exact SCL.lower nofun λ_=>⟨.str _,H,I.tok _,0#F,q⟩
def qg {o:Expr}{to:TE}{y z:Str}{jy jz:Nat}{py pz w4 y9:Pos}(ho:8#y o to)(hyz:(y==z)=false)(hzl:6#i<=14)
  (j4:attributeBase o "replace" X.env 64#o=eval o X.env:=by rfl) (v5:3#v=true:=by rfl):
  PE X 6#y 6#A:=by
 show 5;refine wpAny_Call_method_late j4 (by rfl) v5 rfl (thn 29#ho λv s1 ⟨x,H1,I1,r1,q1⟩=>?_);obtain⟨w,rfl,hw,q⟩:=q1;obtain⟨t,rfl⟩:=r1;refine⟨"str","str.replace",2#P,F.slot_str_replace,F.type_str_replace,9#c,(λ_ e=>7#t),?_⟩;refine Calls.callWith_builtin (by rfl) (Calls.evalArgs_plain ?_);refine Calls.spliced_cons (Calls.Constant_str (k:=jy) (pos:=py) ?_);refine Calls.spliced_cons (Calls.Constant_str (k:=jz) (pos:=pz) ?_);refine Calls.spliced_nil ?_;have h0:=I1.tk;refine wpAny_with_toks (n:=1) (by show 1<=s1.toks+1+1;omega) (SC.replaceW (Nat.pos_iff_ne_zero.mp h0) (Nat.succ_ne_zero _) (l27 (l68 _)) hyz nofun hzl λt' k htk=>?_);exact⟨.str (0#ba w y z),H1,(I1.tok _ htk),0#F,q⟩
inductive rSlS (x:V)(lo hi:1#W)(H:Hp)(Q:VK):Prop
 |mk (z)(_:x = .str z)(_:z.length<=sizeLine)(_:Q (.str (Txt.slice z lo hi)) H)
def bH:SlR X rSlS:=by
 show 135;obtain⟨z,rfl,hz,q⟩:=h;show 8;refine⟨"str",_,F.slot_str_getitem.lookup,9#c,?_⟩;have fin:∀(l u:Option (Int×Tok)),l.map (·.1)=lo->u.map (·.1)=hi->(sliceMade z t l u none).post 2#D s:=by
  intro l u el eu;subst el eu;unfold sliceMade;unfold Txt.slice at q;have e:slicePicked z l u none=strSliceIndices (l.map (·.1)) (u.map (·.1)) 1 z.length:=rfl;rw[e];show (if 7#q=true then Made.val 134#z else Made.str ⟨((strSliceIndices (l.map (·.1)) (u.map (·.1)) 1 6#i).filterMap (z.cps[·]?)).toArray⟩).post 2#D s;by_cases c:(7#q)=true
  ·rw[1#d c];rw[1#d c] at q;exact⟨.str z,H,I,0#F,q⟩
  ·rw[0#z c];rw[0#z c] at q;have hl:=Txt.slice_le z (l.map (·.1)) (u.map (·.1));unfold Txt.slice at hl;rw[0#z c] at hl;exact⟨l17 hl hz, .str _,H,I.tok _,0#F,q⟩
 have go:∀(l u:Option (Int×Tok)),vl=partValue l->vu=partValue u->l.map (·.1)=lo->u.map (·.1)=hi->1#I (getItem 134#z 11#sl) 2#D X.xe s:=by
  intro l u e1 e2 e3 e4;subst e1 e2;exact wpAny_getItem_str_slice (l:=l) (u:=u) (st:=none) hs rfl (fin l u e3 e4)
 cases pl with
 |none=>cases pu with
  |none=>exact go none none rfl rfl rfl rfl
  |int j tj=>exact go none 23#(j,tj) rfl rfl rfl rfl
 |int i ti=>cases pu with
  |none=>exact go 23#(i,ti) none rfl rfl rfl rfl
  |int j tj=>exact go 23#(i,ti) 23#(j,tj) rfl rfl rfl rfl
def Its (z:Str):It:=⟨λi _=>i < 6#i,λi H x H'=>H'=H/\∃c,z.cps[i]? = some c/\x = .str ⟨#[c]⟩,λi _=>6#i<=i⟩
inductive iStr.I (R:0#cq)(x:V)(H1:Hp):Prop
 |mk (z)(_:x = .str z)(_:R (Its z) H1)
def iStr (tl:TE):TI:=λσ H R=>tl σ H (iStr.I R)
def u8 {P:1#E}{w:World}{K:Frag}{x:Str}{px:Pos}(z:Str)(it:Addr)(ty:9#L)(t:Tok)(hty:ty="str_ascii_iterator" ∨ ty="str_iterator"):
  Turn P w K 61#px (Its z) [it] it (λi h=>h.IsStrIter it ty z t i) where
 mem:=by simp
 obj:=λi h st b hb=>by
  have e:b=it:=by simpa using hb
  subst e;obtain⟨o,ho,_,hd⟩:=st;exact⟨o,ho,λv z=>by rw[hd] at z;cases z⟩
 keep:=λi h h' st k=>by
  obtain⟨o,ho,r⟩:=st;exact⟨o,k it 0#h o ho,r⟩
 item:=by
  show 3;show 11;have hi:i < z.cps.size:=hg;have hx:z.cps[i]? = some z.cps[i]:=by simp[hi]
  have fin:∀h',h'.IsStrIter it ty z t (i+1)->0#dr it s.heap h'->∃u,(some (Value.str ⟨#[z.cps[i]]⟩ 6#G):0#B)=4#o ∧
    wpAny 0#j X.A (letOwnedTupleGo 61#px 11#it u) (λ_ s2=>∃x H',2#M σ H' s2/\RelV x u/\(Its z).yld i H x H'/\s2.heap.IsStrIter it ty z t (i+1)/\∀b∈[it],H' b=none) E { s with heap:=h',toks:=s.toks+1 }:=
   λh' a1 sb=>⟨_,rfl,3#r ⟨.str ⟨#[z.cps[i]]⟩,H,I.turned 136#sb.2 f0 f1 f3 f4 f5,0#F,⟨rfl,_,hx,rfl⟩,a1,λb hb=>(0#ff).1⟩⟩
  rcases hty with rfl |rfl
  ·exact wpAny_pyNext_ascii_item st hx fin
  ·exact wpAny_pyNext_wide_item st hx fin
 done:=by
  show 3;show 11;have hx:z.cps[i]? = none:=by
   have:z.cps.size<=i:=hg;simp[this]
  rcases hty with rfl |rfl
  ·exact wpAny_pyNext_ascii_end 3#t st hx λh' eb=>⟨rfl,I.turned (t':=6#G) 4#y f0 f1 f3 f4 f5⟩
  ·exact wpAny_pyNext_wide_end 3#t st hx λh' eb=>⟨rfl,I.turned (t':=6#G) 4#y f0 f1 f3 f4 f5⟩
 self:=by
  intro A i s Q E st h;rcases hty with rfl |rfl
  ·exact wpAny_pyIter_striter_ascii st h
  ·exact wpAny_pyIter_striter_wide st h
def AC {l:Expr}{tl:TE}{x:Str}{px:Pos}(hl:8#y l tl):PI X 61#px l (iStr tl):=by
 intro w9 s σ H R I h;refine thn 29#hl λv s1 ⟨y,H1,I1,r1,q1⟩=>?_;obtain⟨z,rfl,q⟩:=q1;obtain⟨t,rfl⟩:=r1;have fin:∀ty,(ty="str_ascii_iterator" ∨ ty="str_iterator")->PIE X w9 σ 61#px R 11#s1.heap.objs.size { s1 with heap:=s1.heap.push { cls := .type ty,data := .fields #[.str z t, .int 0 0] } }:=λty a1=>by
  refine⟨2#t,[2#t],_,_,H1,rfl,I1.kept (t':=s1.toks) λb o e=>0#H _ e,u8 z _ ty t a1,3#K,λb hb=>?_,q⟩;have e:b=s1.heap.objs.size:=by simpa using hb
  show 70
 cases ha:z.cps.all (· < 128)
 ·exact wpAny_pyIter_wide ha (fin _ 0#dT)
 ·exact wpAny_pyIter_ascii ha (fin _ 2#a)
theorem gT:∀{bs:List Bool} {us:List Value} {i:Nat} {v:Value},Vals (bs.map V.bl) us->us[i]? = some v->∃b,bs[i]? = some b/\v = .bool b
 | [],_,_,_,r,e=>by
  rw[l47] at r;cases r;simp at e
 |b::bs,us,i,v,r,e=>by
  rw[l16] at r;cases r with
  |cons r1 r2=>
   cases i with
   |zero=>
    simp at e;subst e;exact⟨b,rfl,r1⟩
   |succ i=>
    obtain⟨c,h1,h2⟩:=gT (i:=i) r2 4#N;exact 97#c
def rn (bs:List Bool):((1#Q bs.length).all λi=>bs.getD i true)=bs.all id:=by
 rw[2#L,l39,l39];show 41
 ·intro h b hb;obtain⟨i,hi,rfl⟩:=List.getElem_of_mem hb;have:=h i (l54.mpr hi);rw[l24,0#l hi] at this;show 54
 ·intro h i hi;have a1:=l54.mp hi;rw[l24,0#l a1];exact h _ (l46 a1)
inductive R_call_all (K:Frag)(xs:0#t)(H:Hp)(Q:VK):Prop
 |mk (a:Addr)(bs:List Bool)(_:xs=[.ref a])(_:SqL K H a (bs.map V.bl))(_:Q (.bl (bs.all id)) H)
def ow (hc:7#J=true):ck X (.builtin "all") (R_call_all X.K):=by
 show 6;obtain⟨a,bs,rfl,hq,q⟩:=h;show 67;cases rx;show 60;have w6:8#c=bs.length:=by
  show 94
 have lt:a < s.heap.objs.size:=by
  show 106
 refine wpAny_with_toks (n:=1) I.tk (call_all_walk ?_);refine 0#aF pl.isList ?_;refine⟨0#g,_,_,_,_,_,λi=>bs.getD i true,rfl,Walks.list (A:=X.A.in1) 3#t s.heap.objs.size a (l27 lt) 7#z,147#3#K,?_,λh' tk kp htk=>?_⟩
 ·show 92
 ·intro i v s' Q' E' hP hQ;have a3:a1[i]? = some v:=by simpa using hP
  obtain⟨b,hb,rfl⟩:=gT r' a3;have a2:Q' (bs.getD i true) s':=hQ;rw[l24,hb] at a2;exact 8#w a2
 ·rw[w6,rn];refine⟨.bl _,H,I.kept 0#as htk,rfl,q⟩;show 121
end
mutual
inductive Den (K:Frag) (H:Hp):V->PyData->Prop where
 |non:Den K H .non .none
 |bl (b:Bool):Den K H (.bl b) (.bool b)
 |int (i:Int):Den K H (.int i) (.int i)
 |str (x:Str) (h:PyData.strOk x=true):Den K H (.str x) (.str x)
 |lst {a:Addr} {xs:List V} {ds:List PyData}:SqL K H a xs->DenAll K H xs ds->Den K H (.ref a) (.list ds)
 |tup {a:Addr} {xs:List V} {ds:List PyData}:SqT K H a xs->DenAll K H xs ds->Den K H (.ref a) (.tuple ds)
inductive DenAll (K:Frag) (H:Hp):0#t->2#w->Prop where
 |nil:DenAll K H [] []
 |cons {x:V} {xs:List V} {d:PyData} {ds:List PyData}:Den K H x d->DenAll K H xs ds->DenAll K H (x::xs) (d::ds)
end
section
variable {X:Cx}{w9:1#H}{σ:St}{H:Hp}{s:1#a}
mutual
theorem Den.reads (I:0#d):∀{x:V} {d:PyData} {u:Value},Den X.K H x d->RelV x u->∃as,Reads s.heap u d as
 |_,_,_, .non,r=>by cases r;exact⟨_, .none⟩
 |_,_,_, .bl b,r=>by cases r;exact⟨_, .bool b⟩
 |_,_,_, .int i,r=>by obtain⟨t,rfl⟩:=r;exact⟨_, .int i t⟩
 |_,_,_, .str x _,r=>by obtain⟨t,rfl⟩:=r;exact⟨_, .str x t⟩
 |_,_,_, .lst hq hd,r=>by
  cases r;obtain⟨a1,rv,⟨o,n,e,c,_,d⟩,_⟩:=5#j;obtain⟨as,ra⟩:=DenAll.reads I hd rv;exact⟨_, .list e c d (by simpa using ra)⟩
 |_,_,_, .tup hq hd,r=>by
  cases r;obtain⟨a1,rv,⟨o,e,c,n,d⟩,_⟩:=0#bi;obtain⟨as,ra⟩:=DenAll.reads I hd rv;exact⟨_, .tuple e c d (by simpa using ra)⟩
theorem DenAll.reads (I:0#d):∀{xs:List V} {ds:List PyData} {us:List Value},DenAll X.K H xs ds->5#U->∃as,ReadsAll s.heap us ds as
 |_,_,_, .nil,r=>by cases r;exact⟨_, .nil⟩
 |_,_,_, .cons h hs,r=>by
  cases r with
  |cons r1 r2=>
   obtain⟨as,a⟩:=Den.reads I h r1;obtain⟨bs,b⟩:=DenAll.reads I hs r2;exact⟨_, .cons a b⟩
end
end
mutual
theorem ox:∀d:PyData,d.canLay0=true->PyData.eqv d d=true
 | .none,_=>rfl
 | .bool b,_=>by simp[PyData.eqv]
 | .int i,_=>by simp[PyData.eqv]
 | .str x,_=>by simp[PyData.eqv]
 | .list xs,h=>by simp only[PyData.eqv];exact eM xs (by simpa[PyData.canLay0] using h)
 | .tuple xs,h=>by simp only[PyData.eqv];exact eM xs (by simpa[PyData.canLay0] using h)
 | .dict _,h=>by simp[PyData.canLay0] at h
theorem eM:∀ds:List PyData,PyData.canLayAll0 ds=true->PyData.eqvAll ds ds=true
 | [],_=>rfl
 |d::ds,h=>by
  simp only[PyData.canLayAll0,Bool.and_eq_true] at h;simp only[PyData.eqvAll,Bool.and_eq_true];exact⟨ox d h.1,eM ds h.2⟩
end
mutual
theorem Den.lay {K:Frag}{H:Hp}:∀{x:V} {d:PyData},Den K H x d->d.canLay0=true
 |_,_, .non=>rfl
 |_,_, .bl _=>rfl
 |_,_, .int _=>rfl
 |_,_, .str _ h=>h
 |_,_, .lst _ h=>by simp only[PyData.canLay0];exact h.lay
 |_,_, .tup _ h=>by simp only[PyData.canLay0];exact h.lay
theorem DenAll.lay {K:Frag}{H:Hp}:∀{xs:List V} {ds:List PyData},DenAll K H xs ds->PyData.canLayAll0 ds=true
 |_,_, .nil=>rfl
 |_,_, .cons h hs=>by simp only[PyData.canLayAll0,Bool.and_eq_true];exact⟨h.lay,hs.lay⟩
end
def ad {H:Hp}{p:Addr}(h:H p=none)(o:HO):4#L 148#p:=λb u q=>by rw[ai (aC q h)];exact q
def aj {H H':Hp}{D:Addr}{o:HO}(hD:H D=none)(e:0#T):4#L (upd H' D o):=λb u q=>by
 rw[ai (aC q hD)];exact e b u q
def rp {J:It}{xs:0#t}{k:Nat}{fr:0#a}{g:TG}{tt:TT}{te:TE}{σ:St}{H0:Hp}{Q:Addr->Hp->Prop}(p:V->Bool)(f:V->V)(hl:0#E<=sizeLine)
  (hgo:∀i H,9#K->i < 0#E->J.go i H)(hyl:∀i H x H',i < 0#E->9#K->J.yld i H x H'->H'=H/\xs[i]? = some x)(hst:∀i H,9#K->0#E<=i->J.stop i H)
  (ht:∀x∈xs,∀H',3#q->∀(C:V->Hp->Prop)(N:Hp->Prop),(∀H4,7#x->p x=true->C (f x) H4)->0#gx →
   g x 81#k H' λσ2 H2=>3#h/\tt σ2 H2 λb H3=>if b=true then te σ2 H3 C else N H3)
  (hq:∀D H',H0 D=none->3#q->H' D=some 14#((xs.filter p).map f)->Q D H'):rLC k fr g tt te σ J H0 Q:=by
 intro D hD;refine⟨λi m a3 H=>m=0#E - i/\i<=0#E/\a3=((xs.take i).filter p).map f/\H D=some 14#a3/\Same H0 H,⟨0#E,by simp,4#r,by simp,ac,ad hD _⟩,?_⟩;rintro i m a3 H ⟨rfl,hi,rfl,a1,sm⟩;refine 147#a1;show 119
 ·refine .inr ⟨hgo i H sm hlt,λx H' y=>?_⟩;obtain⟨e,a4⟩:=hyl i H x H' hlt sm y;subst e;have a2:x∈xs:=l22 a4;have htk:=take_succ_filter p xs i x a4;refine ht x a2 H' sm _ _ (λH4 s4 hp=>?_) (λH3 s3 hp=>?_)
  ·refine⟨4#k a1,?_,0#E - (i+1),by omega,rfl,hlt,?_,ac,?_⟩
   ·rw[l4];have:=List.length_filter_le p (xs.take i);rw[l29] at this;omega
   ·rw[htk,hp];simp
   ·exact aj hD 9#t
  ·refine⟨0#E - (i+1),by omega,rfl,hlt,?_,8#g a1,sm.trans s3⟩;rw[htk,hp];simp
 ·have e:i=xs.length:=by omega
  subst e;rw[l62] at a1 ⊢;exact .inl ⟨hst _ H sm (7#j),hq D H hD sm a1⟩
def yf {K:Frag}{a:Addr}{xs:0#t}{k:Nat}{fr:0#a}{g:TG}{tt:TT}{te:TE}{σ:St}{H0:Hp}{Q:Addr->Hp->Prop}(p:V->Bool)(f:V->V)(hx:0#eW)(hl:0#E<=sizeLine)
  (ht:∀x∈xs,∀H',3#q->∀(C:V->Hp->Prop)(N:Hp->Prop),(∀H4,7#x->p x=true->C (f x) H4)->0#gx →
   g x 81#k H' λσ2 H2=>3#h/\tt σ2 H2 λb H3=>if b=true then te σ2 H3 C else N H3)
  (hq:∀D H',H0 D=none->3#q->H' D=some 14#((xs.filter p).map f)->Q D H'):3#e (Itl K a) H0 Q:=
 rp p f hl (λi H sm hi=>⟨xs,xs[i],9#R,by simp[hi]⟩) (λi H x H' _ sm y=>⟨y.1,by obtain⟨e,y⟩:=y;exact y xs (9#R)⟩) (λi H sm hi=>⟨xs,9#R,hi⟩) ht hq
def AD {z:Str}{k:Nat}{fr:0#a}{g:TG}{tt:TT}{te:TE}{σ:St}{H0:Hp}{Q:Addr->Hp->Prop}(p:V->Bool)(f:V->V)(hl:6#i<=sizeLine)
  (ht:∀c∈z.cps.toList,∀H',3#q->∀(C:V->Hp->Prop)(N:Hp->Prop),(∀H4,7#x->p 82#⟨#[c]⟩=true->C (f 82#⟨#[c]⟩) H4)->(∀H3,Same H' H3->p 82#⟨#[c]⟩=false->N H3) →
   g 82#⟨#[c]⟩ 81#k H' λσ2 H2=>3#h/\tt σ2 H2 λb H3=>if b=true then te σ2 H3 C else N H3)
  (hq:∀D H',H0 D=none->3#q->H' D=some 14#(((z.cps.toList.map λc=>V.str ⟨#[c]⟩).filter p).map f)->Q D H'):3#e (Its z) H0 Q:=by
 have hz:(z.cps.toList.map λc=>V.str ⟨#[c]⟩).length=z.length:=by rw[l4];simp[Str.length]
 show 25
 ·obtain⟨e,c,h1,h2⟩:=y;refine⟨e,?_⟩;rw[0#x,h2];have:z.cps.toList[i]? = some c:=by simpa using h1
  rw[this];rfl
 ·obtain⟨c,hc,rfl⟩:=4#i hx;exact ht c hc
def u9 {n:Nat}{k:Nat}{fr:0#a}{g:TG}{tt:TT}{te:TE}{σ:St}{H0:Hp}{Q:Addr->Hp->Prop}(lo:Int)(p:V->Bool)(f:V->V)(hl:n<=sizeLine)
  (ht:∀i,i < n->∀H',3#q->∀(C:V->Hp->Prop)(N:Hp->Prop),(∀H4,7#x->p 21#(lo+(i:Nat))=true->C (f 21#(lo+(i:Nat))) H4)->(∀H3,Same H' H3->p 21#(lo+(i:Nat))=false->N H3) →
   g 21#(lo+(i:Nat)) 81#k H' λσ2 H2=>3#h/\tt σ2 H2 λb H3=>if b=true then te σ2 H3 C else N H3)
  (hq:∀D H',H0 D=none->3#q->H' D=some 14#((((1#Q n).map λ(i:Nat)=>V.int (lo+i)).filter p).map f)->Q D H'):3#e (Itr lo n) H0 Q:=by
 have hz:((1#Q n).map λ(i:Nat)=>V.int (lo+i)).length=n:=by rw[l4,l42]
 show 25
 ·obtain⟨e,h2⟩:=y;rw[hz] at hi;refine⟨e,?_⟩;rw[0#x,9#g hi,h2];rfl
 ·obtain⟨i,hi,rfl⟩:=4#i hx;exact ht i (l54.mp hi)
def FreeOk (X:Cx)(scope:Scope)(N':0#O):Nat->0#a->0#O->Prop
 |_,[],[]=>True
 |k,j::fr,x::xs=>X.N[j]? = some x/\N'[k]? = some x/\3#a ∧
   1#v/\FreeOk X scope N' (k+1) fr xs
 |_,_,_=>False
def FreeOk.get {X:Cx}{scope:Scope}{N':0#O}:∀{k:Nat} {fr:List Nat} {xs:List Str},FreeOk X scope N' k fr xs->∀(i j:Nat),fr[i]? = some j->∃x,X.N[j]? = some x/\N'[k+i]? = some x ∧
  3#a/\1#v
 |_,[],[],_,i,j,e=>by simp at e
 |_,[],_::_,h,_,_,_=>6#T
 |_,_::_,[],h,_,_,_=>6#T
 |k,j0::fr,x::xs,h,i,j,e=>by
  obtain⟨h1,h2,h3,h4,h5⟩:=h;cases i with
  |zero=>
   simp at e;subst e;exact⟨x,h1,h2,h3,h4⟩
  |succ i=>
   have:=h5.get i j 4#N;have e2:k+1+i=k+(i+1):=by omega
   rw[e2] at this;show 54
def iS {X:Cx}{scope:Scope}{cl:0#dt}{own:0#O}{fr:0#a}{xs N':0#O}(cells:CellsIn X.env cl)(free:FreeOk X scope N' own.length fr xs)
  (nd:N'.Nodup)(all:((relabel scope X.env).names.all λy=>y.2 == .local||y.2 == .globalImplicit||(cl.lookup y.1).isSome)=true:=by rfl)
  (kind:scope.kind = .function:=by rfl) (len:N'.length=8#u+fr.length:=by rfl):CompN X scope cl own fr N':=by
 refine⟨kind,cells,λx hx=>?_,nd,len,λi j e=>free.get i j e⟩;have a1:∀k,(relabel scope X.env).names.lookup x=some k->(k = .cell ∨ k = .free)->∃c,cl.lookup x=some c:=λk e hk=>by
  have hm:=7#c e;have:=l39.mp all _ hm;rcases hk with rfl |rfl
  ·simp only[Bool.or_eq_true] at this;rcases this with (z |z) |z
   ·show 52
   ·show 52
   ·exact l88.mp z
  ·simp only[Bool.or_eq_true] at this;rcases this with (z |z) |z
   ·show 52
   ·show 52
   ·exact l88.mp z
 rcases hx with e |e
 ·exact a1 _ e 2#a
 ·exact a1 _ e 0#dT
structure Def (P:1#E)(w:World)(K:Frag)(mg:Str->0#B)(base:Heap)(k:Nat)(x:Str)(ps:0#O)(sp:Sp):Prop where
 ex:∃f fd,0#bg/\mg x=some 11#f/\keepIn K 11#f=true/\Binds K fd ps []
section
variable {X:Cx}{k:Nat}{x:Str}{ps:0#O}{sp:Sp}{e:Expr}{es:1#Z}{te:TE}{t:TA}{p pos:Pos}
def va (D:4#C)(hr:0#ag X.A)(ha:0#bk)(hg:Gl X x:=by exact rfl) (hdb:0#v=false:=by decide)
  (he:8#s=78#e::2#C es X.env:=by rfl) (hpl:(6#F 5#X).any (·.1)=false:=by rfl):
  PE X 0#P 157#E0:=by
 show 114;exact mI G hr hg hm hk hb .nil yb ha hdb he hpl
def cQ:Expr->Bool
 | .Starred .. => true
 |_=>false
def bq {e:Expr}{es:1#Z}{env:Env}(h:cQ e=false):2#C 1#Y env=(false,eval e env)::2#C es env:=by
 cases e <;> first |rfl |cases h
def aK:List Expr->Bool
 | []=>true
 |e::es => !cQ e&&aK es
theorem bK {pos:Pos}{env:Env}:∀{es:List Expr},aK es=true->(6#F 0#gb).any (·.1)=false
 | [],_=>rfl
 |e::es,h=>by
  unfold aK at h;rw[0#r,5#A] at h;rw[bq h.1];exact(show (false||(6#F 0#gb).any (·.1))=false by rw[bK h.2];rfl)
theorem lq {pos:Pos}{env:Env}:∀{es:List Expr},aK es=true->(6#F 0#gb).all (λx => !x.1)=true
 | [],_=>rfl
 |e::es,h=>by
  unfold aK at h;rw[0#r,5#A] at h;rw[bq h.1];exact(show (true&&(6#F 0#gb).all (λx => !x.1))=true by rw[lq h.2];rfl)
def pa (ha:8#y e te)(hr:PA X es t)(h:cQ e=false:=by rfl):PA X 1#Y (tCons te t):=xU ha hr (bq h)
def few {y9:Pos}{env:Env}{es:1#Z}(h:aK es=true)(hl:decide 6#z=true):
  ((backTo y9 0#gb).all (λx => !x.1)&&(backToKw y9 (keywordEach [] env)).all (λx=>x.1.isSome)
   && decide 6#z)=true:=by
 rw[lq h,hl];rfl
def pm {o e:Expr}{es:1#Z}{to:TE}{t:TA}{name:Str}{w4 y9:Pos}{T id:9#L}{r:V->0#t->Hp->VK->Prop}(pa:0#dv)(slot:0#aT)(hty:typeOf 3#M=pure 4#c)(hm:MtR X id r)(ho:8#y o to)(ha:0#bk)
  (j4:0#av=eval o X.env)(hst:aK 1#Y=true:=by rfl) (hl:decide 1#g=true:=by rfl)
  (v5:3#v=true:=by rfl):8#y 8#z 0#bX:=by
 have h2:aK es=true:=by
  show 73
 have h1:cQ e=false:=by
  show 34;exact hst.1
 exact BJ pa slot hty hm ho ha j4 (few hst hl) v5 (bq h1) (bK h2)
def cn:Expr->Bool
 | .Call (.Name x _) [] [] _=>x != 0#e "super"
 |_=>true
def base_of {o:Expr}{name:Str}{env:Env}{w:0#fG}(h:cn o=true):attributeBase o name env w=w:=by
 unfold attributeBase;split
 ·rename_i id _ _;have h:(id != 0#e "super")=true:=h;rw[h];rfl
 ·rfl
def cD {k:Nat}{x:Str}{ps:0#O}{sp:Sp}(D:4#C)(hr:0#ag X.A)(ha:0#bk)(hg:Gl X x:=by exact rfl) (hdb:0#v=false:=by decide)
  (hst:aK 1#Y=true:=by rfl):8#y 0#P 157#E0:=by
 have h2:aK es=true:=by
  show 73
 have h1:cQ e=false:=by
  show 34;exact hst.1
 exact va D hr ha hg hdb (bq h1) (bK h2)
def cB {id:9#L}{r:0#t->Hp->VK->Prop}(hc:ck X 3#M r)(hg:Gl X x)(hm:9#O=none)(hv:5#w=some 3#M)(ha:0#bk)(hn:x≠"__name__":=by decide) (hdb:0#v=false:=by decide)
  (hst:aK 1#Y=true:=by rfl):8#y 0#P (tCB r t):=by
 have h2:aK es=true:=by
  show 73
 have h1:cQ e=false:=by
  show 34;exact hst.1
 exact uW hc hg hm hv ha hn hdb (bq h1) (bK h2)
inductive rIsT (K:Frag)(xs:0#t)(H:Hp)(Q:VK):Prop
 |mk (x t T b)(_:xs=[x, .ty T])(_:TyOf K H x t)(_:PySem.W.kitOne K t (.type T)=some b)(_:Q (.bl b) H)
def gD:ck X 5#e (rIsT X.K):=by
 show 6;obtain⟨x,t,T,b,rfl,ty,e,q⟩:=h;obtain⟨u,v,rfl,rx,rv⟩:=r.two;cases rv;exact wpAny_with_toks (n:=1) I.tk (qZ I rx ty e λtk htk=>⟨.bl b,H,I.tok _ htk,rfl,q⟩)
def fw (K:Frag)(t:Value):0#N t t=some true:=by
 unfold PySem.W.kitOne;rw[1#d (beq_self_eq_true t)]
def vb {x y:Str}{pos:Pos}(h:∃t,9#O=some 134#y)(hg:Gl X x:=by exact rfl) (hd:0#v=false:=by decide):8#y 61#pos 0#ev:=by
 obtain⟨t,e⟩:=h;exact mE hg e 24#t hd
def vc {x:Str}{y:Int}{pos:Pos}(h:∃t,9#O=some 123#y)(hg:Gl X x:=by exact rfl) (hd:0#v=false:=by decide):8#y 61#pos (tC 21#y):=by
 obtain⟨t,e⟩:=h;exact mE hg e 24#t hd
end
structure XE (X:Cx)(e:Expr)(t:TE):Prop where
 h:8#y e t
structure XT (X:Cx)(e:Expr)(t:TT):Prop where
 h:PT X e t
structure XW (X:Cx)(e:Expr)(t:TT):Prop where
 h:PW X e t
structure XA (X:Cx)(e:1#Z)(t:TA):Prop where
 h:PA X e t
structure XS (X:Cx)(st:Stmt)(t:TS):Prop where
 h:PS X st t
structure XB (X:Cx)(st:5#G)(t:TS):Prop where
 h:PSs X st t
structure XG (X:Cx)(e:Expr)(t:TG):Prop where
 h:PG X e t
structure XGs (X:Cx)(e:1#Z)(t:TGs):Prop where
 h:PGs X e t
structure XI (X:Cx)(tg it:Expr)(t:TI):Prop where
 h:PI X tg it t
structure XO (X:Cx)(e:Option Expr)(t:TO):Prop where
 h:PO X e t
structure XQ (X:Cx)(ifs:1#Z)(t:TT):Prop where
 h:PTs X ifs t
def az {X:Cx}{st:5#G}{t:TS}{D:Ends}{σ:St}{H:Hp}(h:XB X st t)(q:t D σ H):∃t,PSs X st t/\t D σ H:=⟨t,h.h,q⟩
section
variable {X:Cx}{a b c o e:Expr}{ta tb tc te to:TE}{tA tB':TT}{es:1#Z}{t:TA}{pos p p2 w4 y9:Pos}{x:Str}
def xb0:XB X [] ju:=⟨xG⟩
def xb1 {st:Stmt}{u:TS}(h:XS X st u):XB X [st] u:=115#xH
def xbc {st:Stmt}{sts:5#G}{u v:TS}(h:XS X st u)(r:XB X sts v):XB X (st::sts) (tSeq u v):=⟨uM h.h r.h⟩
def xret (h:0#dn):XS X (.Return 23#e pos) (tRet te):=115#Ag
def xif {f g:5#G}{tf tg:TS}(h:XT X c tA)(h1:XB X f tf)(h2:XB X g tg):XS X (.If c f g pos) (tIfS tA tf tg):=⟨By h.h h1.h h2.h⟩
def AE {st:Stmt}:XS X st wG:=⟨uO⟩
def bI (h:0#dn)(hs:0#aw=pure false:=by rfl):XS X (.Expr e pos) (tDrop te):=⟨xI h.h hs⟩
def xset {i:Nat}{pos':Pos}(hN:6#g)(hi:X.N[i]? = some x)(hx:5#C)(he:0#dn)(hs:swapsWith e 23#(.Name x pos') pos.line X.env=pure false:=by rfl) (hf:X.fn x=true ∨ X.env.scope.names.lookup x=some .local:=by first |exact .inl rfl |exact .inr rfl):
  XS X 0#aj (tAsg te (am i)):=⟨Ak hN hi hx he.h hs hf⟩
def xgn {i:Nat}(hN:6#g)(hi:X.N[i]? = some x)(hx:5#C)(hf:X.fn x=true ∨ X.env.scope.names.lookup x=some .local:=by first |exact .inl rfl |exact .inr rfl):XG X 61#pos (am i):=⟨xJ hN hi hx hf⟩
def xst {i:Nat}{pos':Pos}(hN:6#g)(he:0#dn)(hi:X.N[i]? = some x:=by rfl) (hx:Loc X.env.scope x:=by exact Or.inl rfl) (hs:swapsWith e 23#(.Name x pos') pos.line X.env=pure false:=by rfl) (hf:X.fn x=true ∨ X.env.scope.names.lookup x=some .local:=by first |exact .inl rfl |exact .inr rfl):XS X 0#aj (tAsg te (am i)):=xset hN hi hx he hs hf
def xgm {i:Nat}(hN:6#g)(hi:X.N[i]? = some x:=by rfl) (hx:Loc X.env.scope x:=by exact Or.inl rfl) (hf:X.fn x=true ∨ X.env.scope.names.lookup x=some .local:=by first |exact .inl rfl |exact .inr rfl):XG X 61#pos (am i):=xgn hN hi hx hf
def xgs0:XGs X [] gNil:=⟨xK⟩
def xgsc {tg:TG}{tgs:TGs}(h1:XG X e tg)(h2:XGs X es tgs)(hs:(assignEach 1#Y X.env).map (·.2)=assign e X.env::(3#z).map (·.2):=by rfl):XGs X 1#Y (gCons tg tgs):=⟨uP h1.h h2.h hs⟩
def xgt {k n:Nat}{tgs:TGs}(hc:7#J=true)(h:XGs X es tgs)(hn:(3#z).length=n:=by rfl) (hst:(3#z).findIdx? (·.1)=none:=by rfl):XG X 133#k (gTup X.K n tgs):=⟨Ah hc h.h hn hst⟩
def xasg {tg:Expr}{g:TG}(he:0#dn)(hg:XG X tg g)(hs:swapsWithSole [tg] e pos.line X.env=pure false:=by rfl) (hw:swappedStores [tg] e X.env=pure none:=by rfl)
  (h1:(assignEach [tg] X.env).map (·.2)=[assign tg X.env]:=by rfl):XS X (.Assign [tg] e pos) (tAsg te g):=⟨Aj he.h hg.h hs hw h1⟩
def xfor {tg it:Expr}{body:5#G}{wi:TI}{g:TG}{tb:TS}(hp:7#I)(hc:7#J=true)(hi:XI X tg it wi)(hg:XG X tg g)(hb:XB X body tb)
  (hs:∀x,foldedSetIterable it X.env x=pure x:=by intro _;rfl):XS X (.For tg it body [] pos) (tFor wi g tb):=⟨Ao hp hc hi.h hg.h hb.h hs⟩
def di {body:5#G}{tb:TS}(hp:7#I)(hc:XT X c tA)(hb:XB X body tb):XS X (.While c body [] pos) (tWhile tA tb):=⟨uQ hp hc.h hb.h⟩
def vd {i:Expr}{ti:TE}{t:TSet}(ho:7#R o to)(hi:7#R i ti)(hs:PSet X t)
  (ha : ∀ v, assign 0#aJ X.env v = (do
   let ov ← holding [v] 64#o
   let iv ← holding [v,ov] 64#i
   standAt pos
   holding [v,ov,iv] (setItem ov iv v)
   release [v,ov,iv] []):=by intro _;rfl):XG X 0#aJ (gSub to ti t):=⟨Ai ho.h hi.h hs ha⟩
def xir1 {tg:Expr}(hg:Gl X "range")(hm:X.mg "range"=none)(ha:XA X [a] t)(h:cQ a=false:=by rfl):XI X tg 0#fY (iRng1 t):=⟨qQ hg hm ha.h (bq h)⟩
def xil {tg l:Expr}{tl:TE}(h:7#R l tl):XI X tg l (iList X.K tl):=115#xM
def xit {tg l:Expr}{tl:TE}(h:7#R l tl):XI X tg l (iTup X.K tl):=115#An
def xis {l:Expr}{tl:TE}{px:Pos}(h:7#R l tl):XI X 61#px l (iStr tl):=115#AC
def aB {op:CmpOp}{r:R2}(ho:OpR X (5#l op) r)(ha:0#eP)(hb:7#R b tb)(hm:9#Q=false):XT X 8#A 112#88#r:=⟨xP ho ha.h hb.h hm⟩
def fW (h:XT X a tA):XT X 0#ak (tNot tA):=115#Ab
def bL (h:0#dn)(he:∀whole,isTrue e X.env whole=(do let v ← whole;standAt e.pos;holding [v] (truthy v)):=by intro _;rfl):XT X e (tB te):=⟨zY h.h he⟩
def gU (h:XT X a tA):XW X (.BoolOp .And [a] pos) tA:=115#xF
def xor1 (h:XT X a tA):XW X (.BoolOp .Or [a] pos) tA:=115#zZ
def xand {rest:1#Z}(h:XT X a tA)(h2:XW X 100#(b::rest) tB'):XW X 100#(a::b::rest) (tAnd tA tB'):=⟨Aa h.h h2.h⟩
def xor {rest:1#Z}(h:XT X a tA)(h2:XW X 104#(b::rest) tB'):XW X 104#(a::b::rest) (tOr tA tB'):=⟨Bw h.h h2.h⟩
def XW.xt (h:XW X e tA):XT X e tA:=⟨h.h.pt⟩
def xnon {j:Nat}:7#R (.Constant .none j pos) (tC .non):=⟨zW⟩
def xbl {k:Bool}{j:Nat}:7#R (.Constant (.bool k) j pos) (tC (.bl k)):=⟨Bv⟩
def xint {i:Int}{j:Nat}:7#R 0#dS (tC 21#i):=⟨zV⟩
def xstr {y:Str}{j:Nat}:7#R (.Constant 82#y j pos) 0#ev:=⟨zX⟩
def xv (i:Nat)(hN:X.N[i]? = some x:=by rfl) (hv:Vis X.env.scope x:=by first |exact Or.inl rfl |exact Or.inr (Or.inl rfl) |exact Or.inr 0#gd) (hd:0#v=false:=by decide)
  (hcd:0#bE=false:=by decide):XE X 61#pos 44#i:=⟨pv i hN hv hd hcd⟩
def xgS {y:Str}(h:∃t,9#O=some 134#y)(hg:Gl X x:=by exact rfl) (hd:0#v=false:=by decide):7#R 61#pos 0#ev:=⟨vb h hg hd⟩
def xgI {y:Int}(h:∃t,9#O=some 123#y)(hg:Gl X x:=by exact rfl) (hd:0#v=false:=by decide):7#R 61#pos (tC 21#y):=⟨vc h hg hd⟩
def xty {T:9#L}(hm:9#O=none)(hv:5#w=some (.type T))(hg:Gl X x:=by exact rfl) (hn:x≠"__name__":=by decide) (hd:0#v=false:=by decide):7#R 61#pos (tC (.ty T)):=⟨xE hg hm hv rfl hn hd⟩
def xop {op:Operator}{r:R2}(ho:OpR X (0#dz op) r)(ha:0#eP)(hb:7#R b tb):7#R (.BinOp a op b pos) 88#r:=⟨Bz ho ha.h hb.h⟩
def xun {op:UnaryOp}{r:V->Hp->VK->Prop}(ho:UnR X (unaryOp op) r)(ha:0#eP):7#R (.UnaryOp op a pos) (tUn r ta):=⟨BA ho ha.h⟩
def xcmp {op:CmpOp}{r:R2}(ho:OpR X (5#l op) r)(ha:0#eP)(hb:7#R b tb)(hm:9#Q=false):7#R 8#A 88#r:=⟨xO ho ha.h hb.h hm⟩
def xone {op}(h:0#eP):7#R (.BoolOp op [a] pos) ta:=115#Ac
def jA {rest:1#Z}(h:0#eP)(h2:7#R 100#(b::rest) tb):7#R 100#(a::b::rest) (tAndV ta tb):=⟨Ad h.h h2.h⟩
def xorV {rest:1#Z}(h:0#eP)(h2:7#R 104#(b::rest) tb):7#R 104#(a::b::rest) (tOrV ta tb):=⟨Bx h.h h2.h⟩
def xnot (h:0#eP):7#R 0#ak (tNotV ta):=115#Ae
def xifE (h:XT X c tA)(ha:0#eP)(hb:7#R b tb):7#R (.IfExp c a b pos) (tIf tA ta tb):=⟨uL h.h ha.h hb.h⟩
def xo0:XO X none mJ:=⟨xY⟩
def xo1 (h:0#dn):XO X 23#e (tPart te):=115#xZ
def xsl {r:V->1#W->1#W->Hp->VK->Prop}{lo hi:Option Expr}{tl th:TO}(hr:SlR X r)(he:0#dn)(hl:XO X lo tl)(hu:XO X hi th):7#R 0#dH (tSl r te tl th):=⟨uX hr he.h hl.h hu.h⟩
def xix {r:R2}(hr:IxR X r)(ha:0#eP)(hb:7#R b tb)(hs:rf b):7#R (.Subscript a b pos) 88#r:=⟨BI hr ha.h hb.h hs⟩
def xa0:XA X [] tNil:=⟨Ar⟩
def xac (ha:0#dn)(hr:XA X es t)(h:cQ e=false:=by rfl):XA X 1#Y (tCons te t):=⟨pa ha.h hr.h h⟩
def xlst (h:XA X es t):7#R (.List es pos) (tLst t):=115#Au
def xtup {k}(h:XA X es t):7#R 133#k (tTup t):=115#As
def xcD {k:Nat}{ps:0#O}{sp:Sp}(D:4#C)(hr:0#ag X.A)(ha:0#cM)(hg:Gl X x:=by exact rfl) (hdb:0#v=false:=by decide) (hst:aK 1#Y=true:=by rfl):
  XE X 0#P 157#E0:=⟨cD D hr ha.h hg hdb hst⟩
def xcd {j k:Nat}{ps:0#O}{sp:Sp}(D:4#C)(hr:Room j X.A)(ha:0#cM)(hg:Gl X x:=by exact rfl) (hdb:0#v=false:=by decide) (hst:aK 1#Y=true:=by rfl) (hk:k<=j:=by omega):
  XE X 0#P 157#E0:=xcD D (hr.mono hk) ha hg hdb hst
def xcB {id:9#L}{r:0#t->Hp->VK->Prop}(hc:ck X 3#M r)(hm:9#O=none)(hv:5#w=some 3#M)(ha:0#cM)(hg:Gl X x:=by exact rfl) (hn:x≠"__name__":=by decide) (hdb:0#v=false:=by decide)
  (hst:aK 1#Y=true:=by rfl):7#R 0#P (tCB r t):=⟨cB hc hg hm hv ha.h hn hdb hst⟩
def xcTy {T:9#L}{r:0#t->Hp->VK->Prop}(hc:ck X (.type T) r)(hm:9#O=none)(hv:5#w=some (.type T))(ha:0#cM)(hg:Gl X x:=by exact rfl) (hn:x≠"__name__":=by decide) (hdb:0#v=false:=by decide)
  (hst:aK 1#Y=true:=by rfl):7#R 0#P (tCB r t):=by
 have h1:cQ e=false:=by
  have:=hst;unfold aK at this;rw[0#r,5#A] at this;exact this.1
 have h2:aK es=true:=by
  have:=hst;unfold aK at this;rw[0#r] at this;exact this.2
 exact⟨rc hc hg hm hv ha.h hn hdb (bq h1) (bK h2)⟩
def xm {name:Str}{T id:9#L}{r:V->0#t->Hp->VK->Prop}(pa:0#dv)(slot:0#aT)(hty:typeOf 3#M=pure 4#c)(hm:MtR X id r)(ho:7#R o to)(ha:0#cM)
  (hb:cn o=true:=by rfl) (hst:aK 1#Y=true:=by rfl) (hl:decide 1#g=true:=by rfl)
  (v5:3#v=true:=by rfl):7#R 8#z 0#bX:=⟨pm pa slot hty hm ho.h ha.h (base_of hb) hst hl v5⟩
def xmA (ho:7#R o to)(ha:0#cM)(hb:cn o=true:=by rfl) (hst:aK 1#Y=true:=by rfl) (hl:decide 1#g=true:=by rfl) (v5:3#v=true:=by rfl):7#R (.Call (.Attribute o "append" w4) 1#Y [] y9) (tBM X.K "list" rAppend to t):=xm PySem.F.plainAttrs_list PySem.F.slot_list_append PySem.F.type_list_append k8 ho ha hb hst hl v5
def xm0 {name:Str}{T id:9#L}{r:V->0#t->Hp->VK->Prop}(pa:0#dv)(slot:0#aT)(hty:typeOf 3#M=pure 4#c)(hm:MtR X id r)(ho:7#R o to)
  (hb:cn o=true:=by rfl) (v5:3#v=true:=by rfl):7#R (.Call 87#name [] [] y9) (tBM0 X.K T r to):=⟨AB pa slot hty hm ho.h (base_of hb) v5⟩
def yg {y z:Str}{jy jz:Nat}{py pz:Pos}(ho:7#R o to)(hyz:(y==z)=false)(hzl:6#i<=14)(hb:cn o=true:=by rfl) (v5:3#v=true:=by rfl):
  XE X 6#y 6#A:=⟨qg ho.h hyz hzl (base_of hb) v5⟩
def xq0:XQ X [] tYes:=⟨yc⟩
def xq1 (h:XT X c tA):XQ X [c] tA:=115#yd
section
variable {scope:Scope}{cl:0#dt}{own:0#O}{fr:0#a}{N':0#O}{tg iter elt:Expr}{ifs:1#Z}{wi:TI}{g:TG}{tt:TT}
def xlc (hc:7#J=true)(Z:3#F)(w5:∀y∈5#I,y.2 ≠ .cell)(v6:∀x∈5#I,x.2 = .local->5#V=some .local)(j8:5#L=pure cl)
  (hi:0#gE)(hg:∀C fp s H,XG (0#i) tg g)(ht:∀C fp s H,XQ (0#i) ifs tt)(he:∀C fp s H,XE (0#i) elt te)
  (hs:∀x,3#c=pure x:=by intro _;rfl):7#R 25#tg (tLC wi own.length fr g tt te):=
 ⟨BK hc Z w5 v6 j8 hi.h 94#hg 94#ht 94#he hs⟩
def xslc {i:Nat}{pos' spos:Pos}(hN:6#g)(hix:X.N[i]? = some x)(hx:5#W=some .local)(hc:7#J=true)(Z:3#F)(w5:∀y∈5#I,y.2 ≠ .cell)
  (v6:∀x∈5#I,x.2 = .local->5#V=some .local)(j8:5#L=pure cl)
  (hi:0#gE)(hg:∀C fp s H,XG (0#i) tg g)(ht:∀C fp s H,XQ (0#i) ifs tt)(he:∀C fp s H,XE (0#i) elt te)
  (hs:∀x,3#c=pure x:=by intro _;rfl) (hsw:swapsWith 25#tg 23#(.Name x pos') spos.line X.env=pure true:=by rfl):
  XS X 8#P (rk i wi own.length fr g tt te):=
 ⟨u5 hN hix hx hc Z w5 v6 j8 hi.h 94#hg 94#ht 94#he hs hsw⟩
def xlc0 (hi:0#gE)(hg:∀C fp s H,XG 3#V tg g)(ht:∀C fp s H,XQ 3#V ifs tt)(he:∀C fp s H,XE 3#V elt te)(hs:∀x,3#c=pure x:=by intro _;rfl) (hc:7#J=true:=by rfl) (Z:CompN X scope [] own [] own:=by exact iS (xs:=[]) trivial trivial ∅) (w5:∀y∈5#I,y.2 ≠ .cell:=by decide) (v6:∀x∈5#I,x.2 = .local->5#V=some .local:=by decide) (j8:5#L=pure []:=by with_unfolding_all rfl):7#R 25#tg (tLC wi own.length [] g tt te):=xlc hc Z w5 v6 j8 hi hg ht he hs
def ve {i:Nat}{pos' spos:Pos}(hN:6#g)(hi:0#gE)(hg:∀C fp s H,XG 3#V tg g)(ht:∀C fp s H,XQ 3#V ifs tt)(he:∀C fp s H,XE 3#V elt te)(hs:∀x,3#c=pure x:=by intro _;rfl) (hc:7#J=true:=by rfl) (Z:CompN X scope [] own [] own:=by exact iS (xs:=[]) trivial trivial ∅) (w5:∀y∈5#I,y.2 ≠ .cell:=by decide) (v6:∀x∈5#I,x.2 = .local->5#V=some .local:=by decide) (j8:5#L=pure []:=by with_unfolding_all rfl) (hix:X.N[i]? = some x:=by rfl) (hx:5#W=some .local:=by rfl) (hsw:swapsWith 25#tg 23#(.Name x pos') spos.line X.env=pure true:=by rfl):XS X 8#P (rk i wi own.length [] g tt te):=xslc hN hix hx hc Z w5 v6 j8 hi hg ht he hs hsw
end
end
section
variable {X:Cx}{w9:1#H}{σ:St}{H:Hp}{s:1#a}{h':Heap}
def Inv.turned2 {t':Nat}{e it T:Addr}{o:HO}(I:0#d)(k:∀b ob,b≠e->b≠it->s.heap.get? b=some ob->h'.get? b=some ob)(fe:7#a e)(fi:7#a it)(hT:0#g<=T)
  (new:0#eS 148#T h' T o)(ht:0 < t'):2#M σ 148#T 3#X:=by
 have hn:H T=none:=I.hok.fresh hT;have a1:∀b u,H b=4#o->b≠e:=λb u q z=>by rw[z,fe.1] at q;cases q
 have a2:∀b u,H b=4#o->b≠it:=λb u q z=>by rw[z,fi.1] at q;cases q
 have kk:∀b ob,b∉[e,it]->s.heap.get? b=some ob->h'.get? b=some ob:=λb ob hb q=>k b ob (λz=>hb (by simp[z])) (λz=>hb (by simp[z])) q;refine I.step (g':=s.gens) (d':=s.drawn) (ch:=[e,it]) (λb hb=>?_) (λb ob _ _ hc q _=>kk b ob hc q) (λb ob _ _ hc q _=>⟨ob.slots,kk b ob hc q⟩) (λb ob _ q n=>?_)
  (λb ob hc q=>⟨ob,kk b ob hc q⟩) (λb xs q=>?_) (λb ob u q=>?_) (λb ps q=>⟨#[],?_⟩) (λm hm=>?_) (λb u q=>?_) I.bare
 ·rcases 1#y hb with rfl |hb
  ·exact⟨fe.2.2.2.1,fe.2.1,fe.2.2.2.2.1,fe.2.2.2.2.2⟩
  ·have z:b=it:=by simpa using hb
   subst z;exact⟨fi.2.2.2.1,fi.2.1,fi.2.2.2.2.1,fi.2.2.2.2.2⟩
 ·rw[ai (l27 (l32 (0#S q) hT))];exact n
 ·rw[ai 0#ep];exact q
 ·rw[ai 0#ep];exact q
 ·rw[ai 0#ep,q];simp
 ·obtain⟨ob,es,ep,ho,r⟩:=hm;exact⟨ob,es,ep,k _ ob 76#fe.2.1 76#fi.2.1 ho,r⟩
 ·by_cases hb:b=T
  ·subst hb;rw[ac] at q;cases q;exact new
  ·rw[ai hb] at q;refine(I.hok b u q).stay (λc v hc q2=>?_) (λc q2=>by rw[ai (aC q2 hn)];exact q2) λc xs q2=>by rw[ai (aC q2 hn)];exact q2
   rcases hc with z |z
   ·subst z;exact k _ v (a1 _ u q) (a2 _ u q) q2
   ·exact k c v (a1 c _ z) (a2 c _ z) q2
def Ite (K:Frag)(a:Addr):It:=
 ⟨λi H=>∃xs x,6#S/\xs[i]? = some x,λi H x H'=>∃T y,(∀xs,6#S->xs[i]? = some y)/\H T=none/\x = .ref T/\H'=4#b T (.tup [.int i,y]),λi H=>∃xs,6#S/\0#E<=i⟩
def rq {P:1#E}{w:World}{K:Frag}{elts:1#Z}{k:Nat}{pos:Pos}(a e it:Addr)(hne:e≠it):
  Turn P w K (.Tuple elts k pos) (Ite K a) [e,it] e (λi h=>(∃old,IsEnum h e it i old)/\h.IsListIter it a i) where
 mem:=by simp
 obj:=λi h st b hb=>by
  obtain⟨⟨old,h1⟩,o,h2,h3,h4⟩:=st;rcases 1#y hb with rfl |hb
  ·exact⟨_,h1,λv z=>by cases z⟩
  ·have z:b=it:=by simpa using hb
   subst z;exact⟨o,h2,λv z=>by rw[h4] at z;cases z⟩
 keep:=λi h h' st kk=>by
  obtain⟨⟨old,h1⟩,o,h2,h3⟩:=st;exact⟨⟨old,kk e 0#h _ h1⟩,o,kk it 0#h o h2,h3⟩
 item:=by
  show 3;obtain⟨xs,x,hq,hx⟩:=hg;obtain⟨a4,rv,p,hz⟩:=5#j;show 133;obtain⟨⟨old,h1⟩,h2⟩:=st;have fe:=hf e 0#h;have fi:=0#bP;have hL:=p.isList;have a7:a≠e:=λz=>by
   obtain⟨o,q1,q2,_⟩:=hL;rw[z,h1] at q1;cases q1;exact 0#A (Value.type.inj q2) ∅
  have a6:a≠it:=λz=>by
   obtain⟨o,q1,q2,_⟩:=hL;obtain⟨o',q3,q4,_⟩:=h2;rw[z,q3] at q1;cases q1;rw[q4] at q2;exact 0#A (Value.type.inj q2) ∅
  refine wpAny_pyNext_enum_item h1 h2 hL (x:=u) 0#bt hne λh' g1 g2 g3 g4 g5=>⟨_,rfl,?_⟩;have a8:e < s.heap.objs.size:=0#S h1;obtain⟨oi,c1,_⟩:=id h2;have a9:it < s.heap.objs.size:=0#S c1;have a3:0#g≠e:=l67 a8;have a1:0#g≠it:=l67 a9;have c0:h'.IsList a a4.toArray:=by
   obtain⟨o,q1,q2,q3⟩:=hL;exact⟨o,g5 a o a7 a6 q1,q2,q3⟩
  refine(WalksT.enumerate 3#t e it a hne a7 a6 a4.toArray).go elts k pos i s.heap.objs.size _ _ _ ⟨⟨_,g1⟩,g2,c0,a3,a1⟩ λh2 a5 kp=>?_;have hT:h2.get? 0#g=some { cls := .type "tuple",data := .seq #[.int i 6#G,u] }:=kp _ _ (by simp[a3,a1]) g3;refine⟨.ref 0#g,5#i (.tup [.int i,x]),?_,rfl,⟨0#g,x,λys hy=>by rw[I.list_inj hy hq];exact hx,I.hok.fresh (7#j),rfl,rfl⟩,⟨?_,?_⟩,?_⟩
  ·refine I.turned2 (t':=6#G+1) (λb ob n1 n2 q=>kp b ob (by simp[n1,n2]) (g5 b ob n1 n2 q)) fe fi (7#j) ?_ (l37 _);refine⟨by show 2<=sizeLine;rw[0#Z];decide,[.int i 6#G,u], .cons 0#F 34#ru,?_⟩;exact⟨_,hT,rfl,0,rfl⟩
  ·obtain⟨a2,q⟩:=a5.1;exact⟨a2,by simpa using q⟩
  ·exact a5.2.1
  ·intro b hb;rcases 1#y hb with rfl |hb
   ·rw[ai 76#a3];exact fe.1
   ·have z:b=it:=by simpa using hb
    subst z;rw[ai 76#a1];exact fi.1
 done:=by
  show 3;obtain⟨xs,hq,hx⟩:=hg;obtain⟨a4,rv,p,hz⟩:=5#j;obtain⟨⟨old,h1⟩,h2⟩:=st;show 11;have hl:=rv.length;exact wpAny_pyNext_enum_end 3#t h1 h2 p.isList 0#G λh' eb=>⟨rfl,I.turned (t':=6#G) 4#y f0 f1 f3 f4 f5⟩
 self:=λ_ _ _ _ _ st h=>by
  obtain⟨⟨old,h1⟩,_⟩:=st;exact wpAny_pyIter_enum h1 h
inductive iEnum.I (K:Frag)(R:0#cq)(vs:0#t)(H1:Hp):Prop
 |mk (a xs)(_:vs=[.ref a])(_:H1 a=some (.lst xs))(_:R (Ite K a) H1)
def iEnum (K:Frag)(ta:TA):TI:=λσ H R=>0#gH (iEnum.I K R)
def yh {l:Expr}{ta:TA}{p pos:Pos}{elts:1#Z}{k:Nat}{pos':Pos}(hg:Gl X "enumerate")(hm:X.mg "enumerate"=none)(ha:PA X [l] ta)(hs:2#C [l] X.env=[78#l]:=by rfl):
  PI X (.Tuple elts k pos') 0#dR (iEnum X.K ta):=by
 intro w9 s σ H R I h;refine Call_ (kO I hg hm boot_enumerate 8#Z);obtain⟨a,xs,e,hq,q⟩:=q1;subst e;obtain⟨u,rfl,ru⟩:=r1.one;cases ru;obtain⟨z,its,n,r,hl,e⟩:=I1.lstM hq;refine call_enumerate_1 e λh' g1 g2 g3 g4=>?_;have a2:2#t+1≠s1.heap.objs.size:=by omega
 refine wpAny_pyIter_enum g1 ?_;refine⟨2#t+1,[2#t+1,2#t],_,_,H1,rfl,I1.kept (t':=s1.toks) g4,rq a _ _ a2,⟨⟨_,g1⟩,g2⟩,λb hb=>?_,q⟩;have a1:2#t<=b:=by
  rcases 1#y hb with rfl |hb
  ·omega
  ·have z:b=s1.heap.objs.size:=by simpa using hb
   exact Nat.le_of_eq z.symm
 exact I1.fpOk a1 (I1.hok.fresh a1)
end
section
variable {X:Cx}{e l:Expr}{te:TE}{t:TA}{pos p p1 p2 p3:Pos}
def xie {elts:1#Z}{k:Nat}{pos':Pos}(hm:X.mg "enumerate"=none)(ha:XA X [l] t)(hg:Gl X "enumerate":=by exact rfl) (h:cQ l=false:=by rfl):XI X (.Tuple elts k pos') 0#dR (iEnum X.K t):=⟨yh hg hm ha.h (bq h)⟩
section
variable {scope:Scope}{cl:0#dt}{C:Addr}{N':0#O}{fp:1#B}{s:1#a}{H:Hp}
def fX:IxR (0#i) (rIxT X.K):=ay (X:=0#i)
def oy:IxR (0#i) (rIxL X.K):=aH (X:=0#i)
end
end
section
variable {X:Cx}{w9:1#H}{σ:St}{H:Hp}{s:1#a}{h':Heap}
theorem dq:∀{ns:List Int} {us:List Value} {i:Nat} {v:Value},Vals (ns.map V.int) us->us[i]? = some v->∃t,v = .int (0#fQ) t
 | [],_,i,v, .nil,e=>by simp at e
 |n::ns,_,0,v, .cons r t,e=>by
  obtain⟨tk,rfl⟩:=r;cases e;exact 24#tk
 |n::ns,_,i+1,v, .cons r t,e=>dq (ns:=ns) (i:=i) t 4#N
inductive R_call_sum (K:Frag)(xs:0#t)(H:Hp)(Q:VK):Prop
 |mk (a:Addr)(ns:List Int)(_:xs=[.ref a])(_:SqL K H a (ns.map V.int))(_:Q (.int ns.sum) H)
def vf (hc:7#J=true):ck X (.builtin "sum") (R_call_sum X.K):=by
 show 6;obtain⟨a,ns,rfl,hq,q⟩:=h;show 67;cases rx;show 60;have w6:8#c=ns.length:=by
  show 94
 have lt:a < s.heap.objs.size:=by
  show 106
 refine wpAny_with_toks (n:=1) I.tk (call_sum_walkG ?_);refine 0#aF pl.isList ?_;refine⟨0#g,_,_,_,_,_,λi=>0#fQ,rfl,Walks.list (A:=X.A.in1) 3#t s.heap.objs.size a (l27 lt) 7#z,147#3#K,?_,?_,λh' tk t' kp htk=>?_⟩
 ·show 92
 ·show 26;rcases 1#y hb with rfl |hb
  ·exact l68 _
  ·have:b=a:=by simpa using hb
   subst this;exact Nat.lt_succ_of_lt lt
 ·intro i v hP;exact dq r' (by simpa using hP)
 ·rw[w6,preSum_getD,l62];refine⟨.int _,H,I.kept 0#as htk,0#F,q⟩;show 121
def vg {ns:List Int}{i:Nat}(h:i < ns.length):0#fQ∈ns:=by
 rw[l24,0#l h];exact l46 h
def vh {ns:List Int}{x:Int}(h:x∈ns):∃i,i < ns.length/\ns.getD i 0=x:=by
 obtain⟨i,hi,e⟩:=List.getElem_of_mem h;exact⟨i,hi,by rw[l24,0#l hi,e];rfl⟩
inductive R_call_maxL (K:Frag)(xs:0#t)(H:Hp)(Q:VK):Prop
 |mk (a:Addr)(ns:List Int)(_:xs=[.ref a])(_:SqL K H a (ns.map V.int))(_:0 < ns.length)(_:∀m,m∈ns->(∀x∈ns,x<=m)->Q (.int m) H)
def rz (hc:7#J=true):ck X (.builtin "max") (R_call_maxL X.K):=by
 show 6;obtain⟨a,ns,rfl,hq,hpos,q⟩:=h;show 67;cases rx;show 60;have w6:8#c=ns.length:=by
  show 94
 have lt:a < s.heap.objs.size:=by
  show 106
 refine wpAny_with_toks (n:=1) I.tk (call_max_walk ?_);refine 0#aF pl.isList ?_;have hP:∀(i:Nat) (v:Value),a1.toArray[i]? = some v->∃t,v=0#fJ (0#fQ) t:=λi v hP=>dq r' (by simpa using hP);refine⟨0#g,_,_,_,_,_,_,rfl,Walks.list (A:=X.A.in1) 3#t s.heap.objs.size a (l27 lt) 7#z,147#3#K,?_,by omega,CmpOf.ints_gt (λi=>0#fQ) hP,λv h' tk hv kp htk=>?_⟩
 ·show 92
 ·show 26;rcases 1#y hb with rfl |hb
  ·exact l68 _
  ·have:b=a:=by simpa using hb
   subst this;exact Nat.lt_succ_of_lt lt
 ·obtain⟨t,rfl⟩:=hP _ _ hv;have hb:=argBest_gt (λi=>0#fQ) (8#c - 1);rw[w6] at hb ⊢;refine⟨.int _,H,I.kept 0#as htk,0#F,q _ (vg nofun) λx hx=>?_⟩
  ·show 121
  ·obtain⟨i,hi,rfl⟩:=vh hx;exact hb.2 i nofun
end
def TrL (h B:Heap)(e:Addr)(cls a0 fl:Value):Prop:=
 ∃(oe:Obj) (vs:Array Value) (T:Addr) (oT:Obj) (ts:Array Value),h.get? e=some oe/\oe.cls=cls/\vs[0]? = some a0/\oe.data = .fields vs/\vs[1]? = some 11#T/\vs[2]? = some .none/\B.get? T=none/\T≠e/\h.get? T=some oT/\oT.data = .fields ts/\ts[3]? = some fl
structure FlyL (B:Heap)(l:4#V)(e:Addr)(cls a0 fl:Value)(h:Heap):Prop where
 st:B.StaysIn h
 ne:B.get? e=none
 ff:h.FunFrames B l
 tr:TrL h B e cls a0 fl
section
variable {M:Model}{A:5#F}{E:Value->1#a->Prop}{s:1#a}{B:Heap}{env:Env}{outer:4#V}{L e:Addr}{cls a0 fl:Value}{Q:Unit->1#a->Prop}
def yi {h:Heap}{e:Addr}{oe ot:Obj}{vs:7#X}(he:h.get? e=some oe)(hd:oe.data = .fields vs)(hn:ot.isFreed=false)(f:Obj->Obj)(hf:(f oe).isFreed=false):
  ((h.push ot).update e f).get? e=some (f oe)/\((h.push ot).update e f).get? h.objs.size=some ot/\∀b o,b≠e->h.get? b=1#T->((h.push ot).update e f).get? b=some o:=by
 have a1:e≠h.objs.size:=l27 (0#S he);refine⟨Heap.get?_update_self f (0#H ot he) hf,?_,λb o hb q=>?_⟩
 ·rw[7#D _ f a1];exact 1#N h hn
 ·rw[7#D _ f 76#hb];exact 0#H ot q
def wM {oe:Obj}{vs:7#X}{hv:Value}{nx:Bool}(hA:A.frames=some 4#m)(ff:s.heap.FunFrames B 4#m)(hL:env.frame=some L)(he:s.heap.get? e=some oe)(hB:B.StaysIn 6#U)(hn:B.get? e=none)(hd:oe.data = .fields vs)
  (h1:1 < vs.size)(h0:vs[0]? = some a0)(h2:vs[2]? = some .none)(k:∀h',FlyL B 4#m e oe.cls a0 (rawInt L) h'->4#B->Q () 0#W):
  wpAny M A (do let a ← frameOf env;let pl ← entryPlaceOf L nx;let b ← EntryCells.newEntry hv a .none (rawInt L) .none pl;setField 11#e 1 b) Q E s:=by
 have a1:e∉(env::outer).filterMap (·.frame):=λm=>let ⟨_,o,q,z⟩:=ff.mem m;z vs (by rw[he] at q;cases q;exact hd)
 refine 1#j (wpAny_frameOf_fun hA ff hL λg hg=>1#j (wpAny_entryPlaceOf λpl a2=>?_));obtain⟨_,g1,g2⟩:=hg;have ge:g.get? e=some oe:=(g1 e a1).trans he;have gB:B.StaysIn g:=λb o q=>(g1 b λm=>by have:=(ff.mem m).1;rw[q] at this;cases this).trans (hB b o q);unfold EntryCells.newEntry newFields;refine 1#j (wpAny_newObj_type (wpAny_setField (0#H _ ge) hd h1 (k _ ?_ ?_)) (a2.sizeOk5 _ _ _ _ _))
 all_goals
  obtain⟨p1,p2,p3⟩:=yi (ot:={ cls := .type "traceback",dict:=none,data := .fields ([hv, .ref L, .none,rawInt L, .none]++(if pl.isEmpty then 0#f 6 Value.none else pl)).toArray }) ge hd rfl (Obj.mapFields (·.setIfInBounds 1 (6#D g.objs.size))) (Obj.isFreed_of_fields (0#cI hd _));have a3:∀b o,s.heap.get? b=1#T->(∀ws,o.data ≠ .fields ws)->b≠e:=λb o q z y=>by subst y;rw[he] at q;cases q;exact z vs hd
 ·refine⟨λb o q=>p3 b o (nq hn q) (gB b o q),hn,ff.of_keeps λb o q z=>?_,?_⟩
  ·obtain⟨sl,y⟩:=g2 b o q;exact⟨_,p3 b _ (a3 b o q z) y,rfl⟩
  ·refine⟨_,_,g.objs.size,_,_,p1,Obj.cls_mapFields _ _,?_,0#cI hd _,?_,?_,gB.fresh,l67 (0#S ge),p2,rfl,?_⟩
   ·rw[Array.getElem?_setIfInBounds_ne ∅];exact h0
   ·simp[h1]
   ·rw[Array.getElem?_setIfInBounds_ne ∅];exact h2
   ·first |(simp;done) |(rcases a2 with rfl |⟨_,_,_,_,_,_,_,rfl⟩ <;> simp)
 ·intro b o q z;obtain⟨sl,y⟩:=g2 b o q;exact⟨sl,p3 b _ (a3 b o q z) y⟩
def rA {h:Heap}{l:4#V}{x:Value}{oT:Obj}{T:Addr}{ts:7#X}(F:h.FunFrames B l)(st:B.StaysIn h)(nT:B.get? T=none)(hT:h.get? T=some oT)(dT:oT.data = .fields ts):
  (∀b,b≠T->(0#dA).get? b=h.get? b)/\B.StaysIn (0#dA)/\(0#dA).FunFrames B l/\h.UpToSlots (0#dA):=by
 have a1:∀b,b≠T->(0#dA).get? b=h.get? b:=λb q=>7#D h _ 76#q;have a2:∀b o,h.get? b=1#T->(∀ws,o.data ≠ .fields ws)->b≠T:=λb o q z y=>by subst y;rw[hT] at q;cases q;exact z ts dT
 refine⟨a1,λb o q=>(a1 b (nq nT q)).trans (st b o q),F.of_keeps λb o q z=>⟨o,(a1 b (a2 b o q z)).trans q,rfl⟩,λb o q z=>⟨o.slots,(a1 b (a2 b o q z)).trans q⟩⟩
def AF (hA:A.frames=some 4#m)(hL:env.frame=some L)(F:FlyL B 4#m e cls a0 .none 6#U)(k:∀h',FlyL B 4#m e cls a0 (rawInt L) h'->4#B->Q () 0#W):8#X (noteFrame 11#e env) Q E s:=by
 obtain⟨st,hn,ff,oe,vs,T,oT,ts,a2,rfl,h0,a1,h1,h2,nT,ne,hT,dT,h3⟩:=F;obtain⟨u1,u2,u3,u4⟩:=rA (x := .none) ff st nT hT dT;unfold noteFrame;simp only[hL];refine 1#j (wpAny_field a2 a1 h1 ?_);rw[1#d 0#h];refine 1#j (wpAny_field hT dT h3 ?_);rw[0#z (by simp[rawInt])];refine 1#j (wpAny_setField hT dT (7#s h3).1 ?_);exact wM hA u3 hL ((u1 e 76#ne).trans a2) u2 hn a1 (7#s h1).1 h0 h2 λh' x y=>k h' x (u4.trans y)
def AG {oe:Obj}{vs:7#X}(hA:A.frames=some 4#m)(ff:s.heap.FunFrames B 4#m)(hL:env.frame=some L)(xe0:s.heap.get? e=some oe)(hB:B.StaysIn 6#U)(hn:B.get? e=none)(xd0:oe.data = .fields vs)(h1:vs[1]? = some .none)
  (h0:vs[0]? = some a0)(h2:vs[2]? = some .none)(k:∀h',FlyL B 4#m e oe.cls a0 (rawInt L) h'->4#B->Q () 0#W):8#X (noteFrame 11#e env) Q E s:=by
 unfold noteFrame;simp only[hL];refine 1#j (wpAny_field xe0 xd0 h1 ?_);rw[0#z ∅];exact wM hA ff hL xe0 hB hn xd0 (7#s h1).1 h0 h2 k
def yj {l:4#V}(F:FlyL B l e cls a0 fl 6#U)(k:∀h',FlyL B l e cls a0 .none h'->4#B->Q () 0#W):8#X 0#eL Q E s:=by
 obtain⟨st,hn,ff,oe,vs,T,oT,ts,a2,hc,h0,a1,h1,h2,nT,ne,hT,dT,h3⟩:=F;have hz:=(7#s h3).1;obtain⟨u1,u2,u3,u4⟩:=rA (x:=(none:0#cK).elim Value.none λf=>rawInt f) ff st nT hT dT;unfold setFlight;refine 1#j (wpAny_field a2 a1 h1 ?_);rw[1#d 0#h];refine wpAny_setField hT dT hz (k _ ⟨u2,hn,u3,oe,vs,T,_,_,(u1 e 76#ne).trans a2,hc,h0,a1,h1,h2,nT,ne,Heap.get?_update_self _ hT (Obj.isFreed_of_fields (0#cI dT _)),0#cI dT _,by simp[hz]⟩ u4)
def AH (hA:A.frames=some 4#m)(hL:env.frame=some L)(F:FlyL B 4#m e cls a0 .none 6#U)(k:∀h',FlyL B outer e cls a0 .none h'->4#B->Q () 0#W):8#X (leaving env 11#e) Q E s:=by
 unfold leaving;refine 1#j (AF hA hL F λh' F' up=>yj F' λh2 F2 a1=>k h2 ⟨F2.st,F2.ne,F2.ff.2.2,F2.tr⟩ (up.trans a1))
def yk {h:Heap}{args:2#b}(hA:A.frames=some 4#m)(hL:env.frame=some L)(hB:B.StaysIn h)(ff:h.FunFrames B 4#m)(hx:Heap.MadeExcOf h s.heap e cls args)
  (k:∀h' t,FlyL B outer e cls 11#t .none h'->4#B->Q () 0#W):8#X (leaving env 11#e) Q E s:=by
 obtain⟨t,he,_,_⟩:=hx.there;have hn:B.get? e=none:=by
  cases q:B.get? e with
  |none=>rfl
  |some o=>have:=hB e o q;rw[hx.new] at this;cases this
 unfold leaving;refine 1#j (AG (a0 := .ref t) hA (ff.of_keeps λb o q _=>⟨o,hx.keeps b o q,rfl⟩) hL he (λb o q=>hx.keeps b o (hB b o q)) hn rfl rfl rfl rfl λh' F' up=>yj F' λh2 F2 a1=>k h2 t ⟨F2.st,F2.ne,F2.ff.2.2,F2.tr⟩ (up.trans a1))
end
def Tr (h:Heap)(e T:Addr)(cls a0 fl:Value):Prop:=
 ∃(oe:Obj) (vs:Array Value) (oT:Obj) (ts:Array Value),h.get? e=some oe/\(oe.cls=cls/\vs[0]? = some a0)/\oe.data = .fields vs/\vs[1]? = some 11#T/\T≠e/\h.get? T=some oT/\oT.data = .fields ts/\ts[3]? = some fl/\vs[2]? = some .none
section
variable {h h' B:Heap}{e T:Addr}{cls a0 fl:Value}
def Tr.traced (x:0#cL)(hT:B.get? T=none):TrL h B e cls a0 fl:=
 let ⟨oe,vs,oT,ts,he,hc,hd,h1,hne,hT',hdT,h3,h2⟩:=x
 ⟨oe,vs,T,oT,ts,he,hc.1,hc.2,hd,h1,h2,hT,hne,hT',hdT,h3⟩
def Tr.of (x:TrL h B e cls a0 fl):∃T,B.get? T=none/\Tr h e T cls a0 fl:=
 let ⟨oe,vs,T,oT,ts,he,hc,h0,hd,h1,h2,hT,hne,hT',hdT,h3⟩:=x
 ⟨T,hT,oe,vs,oT,ts,he,⟨hc,h0⟩,hd,h1,hne,hT',hdT,h3,h2⟩
def Tr.T_rec (x:0#cL):T≠e/\∃oT ts,h.get? T=some oT/\oT.data = .fields ts:=
 let ⟨_,_,oT,ts,_,_,_,_,hne,hT',hdT,_,_⟩:=x
 ⟨hne,oT,ts,hT',hdT⟩
def Tr.e_obj (x:0#cL):∃oe vs,h.get? e=some oe/\oe.cls=cls/\oe.data = .fields vs:=
 let ⟨oe,vs,_,_,he,hc,hd,_⟩:=x
 ⟨oe,vs,he,hc.1,hd⟩
end
def mM {h:Heap}{F:1#B}{b:Addr}{o:Obj}(n:(hideAll h F).get? b=none)(e:h.get? b=1#T):b∈F:=
 Classical.byContradiction λq=>by rw[0#fN F e q] at n;cases n
def ObjOk.get {P:1#E}{w:World}{H:Hp}{h:Heap}{a:Addr}{o:HO}(x:0#dL):∃ob,h.get? a=some ob:=by
 cases o with
 |lst xs=>obtain⟨_,_,_,_,e⟩:=x;exact⟨_,e⟩
 |tup xs=>obtain⟨_,_,_,_,e,_⟩:=x;exact⟨_,e⟩
 |dK kvs=>obtain⟨_,_,_,_,o,_,_,e,_⟩:=x;exact⟨_,e⟩
 |dT kvs=>obtain⟨_,_,_,_,o,_,_,e,_⟩:=x;exact⟨_,e⟩
 |set S n=>obtain⟨o,_,_,_,e,_⟩:=x;exact⟨_,e⟩
 |ins C dx fs=>obtain⟨_,_,_,e,_⟩:=x;exact⟨_,e⟩
 |own y=>exact x
 |xd fs=>obtain⟨_,⟨_,_,_,e,_⟩,_⟩:=x;exact⟨_,e⟩
 |rng lo hi=>obtain⟨_,_,_,e⟩:=x;exact⟨_,e⟩
 |frz ob u=>obtain⟨e,_⟩:=x;exact⟨_,e⟩
 |tbl ps=>exact 0#gI
 |met f y=>exact 0#gI
 |ext φ=>obtain⟨_,e,_⟩:=x;exact e
def HOk.none_of {P:1#E}{w:World}{H:Hp}{h:Heap}{a:Addr}(ok:7#Z)(n:h.get? a=none):H a=none:=by
 cases q:H a with
 |none=>rfl
 |some o=>
  obtain⟨ob,e⟩:=(ok a o q).get;rw[n] at e;cases e
def HOk.fly {P:1#E}{w:World}{H:Hp}{h h':Heap}{F:1#B}(ok:7#Z)(hF:∀b∈F,H b=none)(st:(hideAll h F).StaysIn h'):HOk P w H h':=λa o e=>
 (ok a o e).stay (fun b u hb q => st b u (0#fN F q λm=>by
  rcases hb with z |z
  ·rw[<- z,hF b m] at e;cases e
  ·rw[hF b m] at z;cases z)) (λ_ q=>q) λ_ _ q=>q
def Un.fly {fs F:1#B}{H₀ H:Hp}{h₀ h h':Heap}(u:Un fs [] H₀ H h₀ h)(st:(hideAll h F).StaysIn h')(hin:∀b o,h₀.get? b=1#T->b∈F->b∈fs)
  (hsl:∀b∈fs,∀o,h.get? b=1#T->∃sl,h'.get? b=some 131#o):Un fs [] H₀ H h₀ h' where
 keep:=λb o e n hb hx=>st b o (0#fN F (u.keep b o e n hb hx) λm=>hb (hin b o e m))
 slot:=λb o e n hb hx=>by
  obtain⟨sl,q⟩:=u.slot b o e n hb hx;obtain⟨a1,q'⟩:=hsl b hb _ q;exact⟨a1,q'⟩
 free:=u.free
 there:=λb o e hx=>by
  obtain⟨o',q⟩:=u.there b o e hx;by_cases m:b∈F
  ·obtain⟨sl,q'⟩:=hsl b (hin b o e m) o' q;exact⟨_,q'⟩
  ·exact⟨o',st b o' (0#fN F q m)⟩
 tups:=u.tups
 frzs:=u.frzs
 tbls:=u.tbls
def rB {h h' base:Heap}{stack:4#V}{ex:1#B}{T:Addr}{oT:Obj}{ts:7#X}(ff:0#fc)(up:h.UpToSlots h')(n:(hideAll h (frs stack++ex)).get? T=none)
  (hT:h'.get? T=some oT)(hd:oT.data = .fields ts):h.get? T=none ∨ T∈ex:=by
 cases q:h.get? T with
 |none=>exact .inl rfl
 |some o=>
  rcases 2#n (mM n q) with m |m
  ·obtain⟨_,o',a2,a1⟩:=ff.mem m;obtain⟨sl,e'⟩:=up T o' a2 a1;rw[hT] at e';have z:oT=131#o':=1#w e';subst z;exact 0#A hd (a1 ts)
  ·exact .inr m
def rC {h base:Heap}{stack:4#V}{ex:1#B}(ff:0#fc):h.FunFrames (hideAll h (frs stack++ex)) stack:=
 PySem.W.funFrames_hide ff λenv he a q=>l44 _ (l61.mpr ⟨env,he,q⟩)
def rD {h h' base:Heap}{stack:4#V}(ff:0#fc)(up:h.UpToSlots h'):∀b∈frs stack,∀o,h.get? b=1#T->∃sl,h'.get? b=some 131#o:=λb hb o e=>by
 obtain⟨_,o',a1,a2⟩:=ff.mem hb;rw[e] at a1;cases a1;exact up b o e a2
def Un.no {fs:1#B}{H₀ H:Hp}{h₀ h:Heap}{b:Addr}(u:Un fs [] H₀ H h₀ h)(n:h.get? b=none):h₀.get? b=none:=by
 cases q:h₀.get? b with
 |none=>rfl
 |some o=>
  obtain⟨o',e⟩:=u.there b o q 0#h;rw[n] at e;cases e
structure Flew (P:1#E)(w:World)(outer:4#V)(H:Hp)(s:1#a)(H':Hp)(e T:Addr)(cls a0:Value)(s':1#a):Prop where
 os:s'.os=s.os
 bare:AllBare s'.gens
 tk:0 < s'.toks
 un:Un (frs outer) [] H H' s.heap s'.heap
 hok:HOk P w H' s'.heap
 ne:s.heap.get? e=none
 nT:s.heap.get? T=none
 fe:H' e=none
 fT:H' T=none
 tr:Tr s'.heap e T cls a0 .none
def CXr (P:1#E)(w:World):CXT:=λouter H s E ev s'=>∃e T cls a0 H',ev = .ref e/\E cls none H'/\Flew P w outer H s H' e T cls a0 s'
def BL {P:1#E}{w:World}{X:Cx}:gQ 9#r X E0:=λ_ _ _ _ _ _ _ ⟨_,_,_,_,_,_,h,_⟩=>6#T
structure NewA (X:Cx)(w9:1#H)(b:Addr):Prop where
 s0:X.s₀.heap.get? b=none
 loc:b≠2#e
 cell:∀x c,1#R=some c->c≠b
 pin:∀p∈X.pn++w9,p.1≠b
def NewA.of {X:Cx}{w9:1#H}{σ:St}{H:Hp}{s:1#a}{b:Addr}(I:0#d)(hex:X.ex=[])(n:s.heap.get? b=none):NewA X w9 b where
 s0:=by
  have u:=I.base;rw[hex] at u;exact u.no n
 loc:=λz=>by
  obtain⟨m,⟨o,_,_,ho,_⟩,_⟩:=I.loc;rw[<- z,n] at ho;cases ho
 cell:=λx c e z=>by
  obtain⟨v,o,ho,_⟩:=0#ds;rw[z,n] at ho;cases ho
 pin:=λp hp z=>by
  obtain⟨e,_⟩:=0#cH;rw[z,n] at e;cases e
def Inv.fly {X:Cx}{w9:1#H}{σ:St}{H:Hp}{s:1#a}{h':Heap}{ex:1#B}(I:0#d)(hex:X.ex=[])(st:(8#W (frs 7#d++ex)).StaysIn h')
  (hn:∀b∈ex,NewA X w9 b/\H b=none)(up:4#B):Inv X w9 σ H 0#W:=by
 have ff:=I.stack;have hF:∀b∈frs 7#d++ex,H b=none:=λb hb=>(2#n hb).elim (I.stkFree b) λz=>(hn b z).2;have a3:∀b o,X.s₀.heap.get? b=1#T->b≠X.env.locals:=λb o e=>l27 90#I.ok.above;have a1:∀c v,0#dN->h'.IsCell c v:=λc v ⟨o,ho,hd⟩=>by
  obtain⟨sl,q⟩:=up c o ho λvs z=>by rw[hd] at z;cases z
  exact⟨_,q,hd⟩
 have a2:∀b∈X.fs,b∈frs X.stack:=λb hb=>by
  rcases I.ok.stk with e |⟨e,_⟩
  ·rw[e];exact hb
  ·rw[e];obtain⟨env,he,q⟩:=l61.mp (show b∈X.outer.filterMap (·.frame) from hb);exact l61.mpr ⟨env,l8 _ he,q⟩
 refine⟨I.ok,I.os,I.bare,?_,?_,λx c e=>?_,I.free,I.freeC,λp hp=>?_,I.hok.fly hF st,I.len,I.tk⟩
 ·have u:=I.base;rw[hex] at u ⊢;refine u.fly st (λb o e m=>?_) λb hb=>rD ff up b (a2 b hb);rcases 2#n m with m |m
  ·exact(1#y (I.stkSub b m)).elim (λz=>0#A z (a3 b o e)) λz=>z
  ·rw[(hn b m).1.s0] at e;cases e
 ·obtain⟨m,hm,hl⟩:=I.loc;refine⟨m,up.ns hm,λi x v e1 e2 e3=>?_⟩;show 124;rcases l with l |⟨k,c,e,z⟩
  ·exact .inl l
  ·exact .inr ⟨k,c,e,a1 c _ z⟩
 ·obtain⟨v,z⟩:=0#ds;exact⟨v,a1 c v z⟩
 ·show 83;refine⟨st _ _ (0#fN _ e λm=>?_),n,ne,nf,d⟩;rcases 2#n m with m |m
  ·exact(1#y (I.stkSub p.1 m)).elim ne nf
  ·exact(hn p.1 m).1.pin p hp rfl
structure Fl (X:Cx)(w9:1#H)(σ:St)(H:Hp)(e T:Addr)(cls a0 fl:Value)(s:1#a):Prop where
 inv:0#d
 tr:Tr s.heap e T cls a0 fl
 fe:H e=none
 fT:H T=none
 ne:NewA X w9 e
 nT:NewA X w9 T
section
variable {X:Cx}{w9:1#H}{σ:St}{H H':Hp}{e T:Addr}{cls a0 fl fl':Value}{s s':1#a}{h':Heap}
def Fl.of_call (I:0#d)(hex:X.ex=[])(F:Flew X.prog X.w X.stack H s H' e T cls a0 s'):Fl X w9 σ H' e T cls a0 .none s':=
 ⟨I.call' (ch:=[]) F.os F.un F.hok F.bare (λb z=>0#A z 0#h) F.tk,F.tr,F.fe,F.fT,NewA.of I hex F.ne,NewA.of I hex F.nT⟩
def Fl.moved (F:5#r fl s)(hex:X.ex=[])(st:(8#W 0#aP).StaysIn h')(tr:TrL h' (8#W 0#aP) e cls a0 fl')(up:4#B):
  ∃T',Fl X w9 σ H e T' cls a0 fl' 0#W:=by
 obtain⟨T',hn,a1⟩:=Tr.of tr;obtain⟨a2,oT,ts,hT,hd⟩:=a1.T_rec;have J := F.inv.fly hex st (λb hb=>by
  rcases 1#y hb with z |z
  ·rw[z];exact⟨F.ne,F.fe⟩
  ·rw[2#R z];exact⟨F.nT,F.fT⟩) up
 have k:H T'=none/\NewA X w9 T':=by
  rcases rB F.inv.stack up hn hT hd with z |z
  ·exact⟨F.inv.hok.none_of z,NewA.of F.inv hex z⟩
  ·rcases 1#y z with z |z
   ·exact 0#A z a2
   ·rw[2#R z];exact⟨F.fT,F.nT⟩
 exact⟨T',J,a1,F.fe,k.1,F.ne,k.2⟩
def Fl.held (F:5#r fl s):FlyL (8#W 0#aP) X.stack e cls a0 fl s.heap:=
 ⟨λb o q=>of_hideAll _ q,hideAll_none _ (l35 _ (l7)),rC F.inv.stack,F.tr.traced (hideAll_none _ (l35 _ 38#(l7)))⟩
variable {M:Model}{A:5#F}{E:Value->1#a->Prop}{Q:Unit->1#a->Prop}
def Fl.looks (F:5#r .none s)(hex:X.ex=[])(hst:7#d=X.env::X.outer)(hfr:X.env.frame=some 2#e)(hA:A.frames=some 7#d)
  (hQ:∀T' h',0#dq (rawInt 2#e) 0#W->Q () 0#W):8#X (noteFrame 11#e X.env) Q E s:=by
 have G:=F.held;refine AF (B:=8#W 0#aP) (outer:=X.outer) (cls:=cls) (a0:=a0) (by rw[hA,hst]) hfr (by rw[<- hst];exact G) λh' hh up=>?_;show 110
def Fl.again (F:5#r fl s)(hex:X.ex=[])
  (hQ:∀T' h',0#dq .none 0#W->Q () 0#W):8#X 0#eL Q E s:=by
 refine yj (B:=8#W 0#aP) (l:=7#d) F.held λh' hh up=>?_;show 110
def Fl.lands (F:5#r (rawInt 2#e) s)(hex:X.ex=[])
  (hQ:∀T' h',0#dq .none 0#W->Q () 0#W):8#X 0#eL Q E s:=F.again hex hQ
def Inv.track {o:HO}(I:0#d)(n:NewA X w9 e)(he:H e=none)(new:0#eS 148#e s.heap e o):2#M σ 148#e s:=by
 have ne:∀b u,H b=4#o->b≠e:=λb u q z=>by rw[z,he] at q;cases q
 refine⟨I.ok,I.os,I.bare,⟨I.base.keep,I.base.slot,λb o' q n' hx=>?_,I.base.there,λb xs q=>?_,λb ob u q=>?_,λb ps q=>?_⟩,I.loc,I.cell,?_,λx c q=>?_,λp hp=>?_,λb u q=>?_,I.len,I.tk⟩
 ·rw[ai (nq (n.s0) q)];exact I.base.free b o' q n' hx
 ·have z:=I.base.tups b xs q;rw[ai (ne b _ z)];exact z
 ·have z:=I.base.frzs b ob u q;rw[ai (ne b _ z)];exact z
 ·obtain⟨more,z⟩:=I.base.tbls b ps q;exact⟨more,by rw[ai (ne b _ z)];exact z⟩
 ·rw[ai 76#n.loc];exact I.free
 ·rw[ai (n.cell x c q)];exact I.freeC x c q
 ·obtain⟨q,f,r⟩:=0#cH;exact⟨q,by rw[ai (n.pin p hp)];exact f,r⟩
 ·by_cases hb:b=e
  ·subst hb;rw[ac] at q;cases q;exact new
  ·rw[ai hb] at q;exact(I.hok b u q).stay (λ_ _ _ q=>q) (λc r=>by rw[ai (ne c _ r)];exact r) λc xs r=>by rw[ai (ne c _ r)];exact r
end
def excO (e:Addr)(cls:Value):HO := .ext λh=>∃(oe:Obj) (vs:Array Value),h.get? e=some oe/\oe.cls=cls/\oe.data = .fields vs
def yl {P:1#E}{w:World}{H:Hp}{h:Heap}{e T:Addr}{cls a0 fl:Value}(x:0#cL):ObjOk P w H h e (excO e cls):=by
 obtain⟨oe,vs,h1,h2,h3⟩:=x.e_obj;exact⟨⟨oe,vs,h1,h2,h3⟩,⟨oe,h1⟩,λh1 h2 ⟨oe,vs,a,b,c⟩ k=>⟨oe,vs,k _ a,b,c⟩⟩
def Fl.track {X:Cx}{w9:1#H}{σ:St}{H:Hp}{e T:Addr}{cls a0 fl:Value}{s:1#a}(F:5#r fl s):2#M σ (4#b e (excO e cls)) s:=
 F.inv.track F.ne F.fe (yl F.tr)
def oz {P:1#E}{w:World}{H:Hp}{h:Heap}{e:Addr}{cls:Value}(ok:7#Z)(x:H e=some (excO e cls)):∃(oe:Obj) (vs:Array Value),h.get? e=some oe/\oe.cls=cls/\oe.data = .fields vs:=
 (show ObjOk P w H h e (excO e cls) from ok e _ x).1
section
variable {P:1#E}{w:World}{K:Frag}{mg:Str->0#B}{base:Heap}{N:0#O}{qual:Str}{scope:Scope}{f:Addr}{cd:Value}{A:5#F}{outer:4#V}{s₀:1#a}{H₀:Hp}{E:XK}
def vi {env:Env}{outer:4#V}{b:Addr}(h:b∈frs outer):b∈frs 4#m:=by
 obtain⟨x,hx,q⟩:=l61.mp (show b∈outer.filterMap (·.frame) from h);exact l61.mpr ⟨x,l8 _ hx,q⟩
def qh {w9:1#H}{σ:St}{H:Hp}{s:1#a}{h':Heap}{e:Addr}{cls:Value}{args:2#b}(I:Inv 0#X w9 σ H s)
  (hx:Heap.MadeExcOf s.heap h' e cls args)(hE:E cls none H):(0#aU scope f cd A outer s₀ H₀ E).xe 11#e 0#W:=by
 have ff:s.heap.FunFrames base (1#i::outer):=I.stack;have hB:=rC (ex:=[]) ff;show 112;refine yk (B:=8#W (frs (1#i::outer)++[])) (h:=6#U) (outer:=outer) (L:=s₀.heap.objs.size) (show (A.deeper (1#i)).frames=_ from I.ok.frames) rfl
  (λb o q=>of_hideAll _ q) hB hx λh2 t fl up=>?_
 obtain⟨st,hen,ffo,tr⟩:=fl;have a1:s.heap.UpToSlots h2:=(Heap.UpToSlots.of_keeps hx.keeps).trans up;obtain⟨T,hn,a2⟩:=Tr.of tr;obtain⟨hne,oT,ts,hT,hd⟩:=a2.T_rec;have nT:s.heap.get? T=none:=by
  rcases rB ff a1 hn hT hd with z |z
  ·exact z
  ·cases z
 have u:Un (frs outer) [] H₀ H s₀.heap s.heap:=I.base;have a3:∀b o,s₀.heap.get? b=1#T->b≠s₀.heap.objs.size:=λb o e=>l27 (0#S e);refine⟨e,T,cls, .ref t,H,rfl,hE,I.os,I.bare,I.tk,?_,?_,u.no hx.new,u.no nT,I.hok.none_of hx.new,I.hok.none_of nT,a2⟩
 ·refine u.fly st (λb o q m=>?_) λb hb=>rD ff a1 b (vi hb);rw[l12] at m;exact(1#y (I.stkSub b m)).elim (λz=>0#A z (a3 b o q)) λz=>z
 ·refine I.hok.fly (λb m=>?_) st;rw[l12] at m;exact I.stkFree b m
def ym {E':XK}(h:∀cls H,E' cls none H->E cls none H):gQ 9#r 0#X E':=by
 intro w9 σ H s ev s' I hq;obtain⟨e,T,cls,a0,H',rfl,hE,F0⟩:=hq;have F:Fl 0#X w9 σ H' e T cls a0 .none s':=Fl.of_call I rfl F0;have J:=F.inv;have ff:s'.heap.FunFrames base (1#i::outer):=J.stack;show 112;refine AH (B:=hideAll s'.heap (frs (1#i::outer)++[e,T])) (outer:=outer) (L:=s₀.heap.objs.size) (cls:=cls) (a0:=a0) (show (A.deeper (1#i)).frames=_ from J.ok.frames) rfl F.held λh2 fl up=>?_;obtain⟨T2,F2⟩:=F.moved rfl fl.st fl.tr up;have J2:=F2.inv;exact⟨e,T2,cls,a0,H',rfl,h _ _ hE,J2.os,J2.bare,J2.tk,J2.base,J2.hok,F2.ne.s0,F2.nT.s0,F2.fe,F2.fT,F2.tr⟩
end
structure OwnX (K:Frag)(C:Addr):Prop where
 ex:∃(bmB:List Value) (newId initId B:String),excIn K C bmB newId=true/\ExcBaseFacts B newId initId bmB
def rE (X:Cx)(E:XK):Prop:=∀(w9:List (Addr×Obj)) (σ:St) (H:Hp) (s:Shared) (h':Heap) (e:Addr) (cls:Value) (vs:List Value),0#d->Heap.MadeExcOf s.heap h' e cls vs->E cls none H->X.xe 11#e 0#W
inductive tRaise.I (C:Addr)(E:XK)(vs:0#t)(H1:Hp):Prop
 |mk (_:vs.length<=sizeLine)(_:E (.ref C) none H1)
def tRaise (C:Addr)(E:XK)(ta:TA):TS:=λ_ σ H=>0#gH (tRaise.I C E)
section
variable {X:Cx}{C:Addr}{E:XK}{x:Str}{e0:Expr}{rest:1#Z}{ta:TA}{np y9 pos:Pos}
def vj (O:OwnX X.K C)(hm:9#O=0#fS)(hc:7#J=true)(hE:rE X E)(ha:PA X (e0::rest) ta)(hg:Gl X x:=by exact rfl) (hdb:0#v=false:=by decide)
  (he:2#C (e0::rest) X.env=78#e0::2#C rest X.env:=by rfl) (hpl:(backTo y9 (2#C rest X.env)).any (·.1)=false:=by rfl):
  PS X 0#aX (tRaise C E ta):=by
 show 19;obtain⟨bmB,newId,initId,B,q,FB⟩:=O.ex;have hK:X.K.In X.base:=I.ok.mod.kin;unfold excIn at q;split at q
 case h_2=>cases q
 rename_i d1 c1 l1 hC;split at q
 case h_2=>cases q
 rename_i C1 tl j0 j1 j2 j3 id1 j5 hmro hslots;rw[0#r,0#r,0#r,0#r,0#r] at q;obtain⟨⟨⟨⟨⟨q1,q2⟩,q3⟩,q4⟩,q5⟩,q6⟩:=q;cases 0#bN q1;cases 0#bN q2;have q3:c1.hasDel=false:=by simpa using q3
 obtain⟨n1,b1,m1,a1,w1,g1,y1,u1,v1,z1,x1⟩:=c1;cases hmro;cases q3;obtain⟨l1⟩:=l1;cases hslots;have a2:=hK _ _ hC;have a4:X.base.Ns a1 (X.base.nsMap a1) := .of_isNs (PySem.W.isNs_of_in hK q5);have a5:X.base.nsMap a1 "__init__"=none:=PySem.W.nsMap_none_of_in hK q5 (0#bN q6);have a3:=PySem.W.tail_of_in hK q4;refine wpAny_Raise_call_subT (nm:=n1) (q:=w1) (C:=C) (N:=a1)
  (bs:=b1) (bm:=tl) (hdct:=g1) (sn:=y1) (sub:=u1) (ab:=v1) (col:=z1) (dd:=d1)
  (k0:=j0) (k1:=j1) (k2:=j2) (k3:=j3) (k5:=j5) FB (a3.hasType FB.hasBase) 3#t ?_ a5 (fV I hg hm ⟨rfl,?_⟩ hdb)
 ·rw[he];show (false||(backTo y9 (2#C rest X.env)).any (·.1))=false;rw[hpl];rfl
 ·have h2:=ha y9 w9 s σ H _ I h;rw[he] at h2 ⊢;refine Calls.evalArgs_plain (4#Y h2 (λus s2 r2=>?_) λ_ _ y=>y);obtain⟨vs,H1,I2,rv,hz,hw⟩:=r2;exact⟨rfl,by rw[<- rv.length];exact hz,I2.bk _ _ a2,a4.keeps I2.bk,a3.keeps I2.bk,λh' e hx=>hE w9 σ H1 s2 h' e _ _ I2 hx hw⟩
end
def lu {P:1#E}{w:World}{K:Frag}{mg:Str->0#B}{base:Heap}{N:0#O}{qual:Str}{scope:Scope}{f:Addr}{cd:Value}{A:5#F}{outer:4#V}{s₀:1#a}{H₀:Hp}{E:XK}:
  rE 0#X E:=λ_ _ _ _ _ _ _ _ I hx hE=>qh I hx hE
structure DefR (P:1#E)(w:World)(K:Frag)(mg:Str->0#B)(base:Heap)(k:Nat)(x:Str)(ps:0#O)(sp:Sp):Prop where
 ex:∃f fd,4#U 9#r k f fd ps sp/\mg x=some 11#f/\keepIn K 11#f=true/\Binds K fd ps []
def Fun.okR {P:1#E}{w:World}{K:Frag}{mg:Str->0#B}{base:Heap}{x qual:Str}{st:Stmt}{f:Addr}{fd:9#I}{N ps:0#O}{k:Nat}{sp:Sp}(F:9#H)(S:1#b N ps 55#st)(len:∀vs H Q E,8#h->6#h=2#x)
  (v4:∀(cdv:Value)(A:Around)(outer:List Env)(s:Shared)(H:Hp)(vs:List V)(Q:VK)(E:XK),0#ag 5#f->8#h →
   ∃t,PSs (0#aU 55#st f cdv A outer s H E) (bD st) t/\t { nx:=λ_ H'=>Q .non H',rt:=Q } 0#aR H):4#U 9#r (k+1) f fd ps sp:=by
 show 117;exact Az lk a1 S len λA outer s H vs Q E hr a2=>v4 cdv A outer s H vs Q E hr a2
section
variable {X:Cx}{k:Nat}{x:Str}{ps:0#O}{sp:Sp}{e:Expr}{es:1#Z}{te:TE}{t:TA}{p pos:Pos}
def oA (hst:aK 1#Y=true):cQ e=false/\aK es=true:=by
 show 34;exact hst
def xcR (D:DefR X.prog X.w X.K X.mg X.base k x ps sp)(hr:0#ag X.A)(ha:0#cM)(hg:Gl X x:=by exact rfl) (hdb:0#v=false:=by decide) (hst:aK 1#Y=true:=by rfl):
  XE X 0#P 157#E0:=by
 show 114;show 111;exact⟨mI G hr hg hm hk hb .nil BL ha.h hdb (bq h1) (bK h2)⟩
inductive XP (X:Cx)(w9:1#H)(R:St->Value->Hp->Prop)(ev:Value)(s':1#a):Prop
 |mk (e T cls a0 σ' H')(_:ev = .ref e)(_:Fl X w9 σ' H' e T cls a0 .none s')(_:R σ' cls H')
structure XEx (X:Cx)(e:Expr)(t:(Value->Hp->Prop)->TE):Prop where
 h:∀(w9:List (Addr×Obj)) (s:Shared) (σ:St) (H:Hp) (Q:VK) (R:Value->Hp->Prop),0#d->t R σ H Q->1#I 64#e 2#D (XP X w9 λσ' cls H'=>σ'=σ/\R cls H') s
abbrev TSx:=(St->Value->Hp->Prop)->TS
structure XSx (X:Cx)(st:Stmt)(t:TSx):Prop where
 h:∀(w9:List (Addr×Obj)) (s:Shared) (σ:St) (H:Hp) (D:Ends) (R:St->Value->Hp->Prop),0#d->t R D σ H->1#I (exec st X.env) (SP X w9 D) (XP X w9 R) s
structure XBx (X:Cx)(st:5#G)(t:TSx):Prop where
 h:∀(w9:List (Addr×Obj)) (s:Shared) (σ:St) (H:Hp) (D:Ends) (R:St->Value->Hp->Prop),0#d->t R D σ H->1#I (execs st X.env) (SP X w9 D) (XP X w9 R) s
def vk (D:DefR X.prog X.w X.K X.mg X.base k x ps sp)(hr:0#ag X.A)(hex:X.ex=[])(ha:XA X.nox 1#Y t)(hg:Gl X x:=by exact rfl) (hdb:0#v=false:=by decide) (hst:aK 1#Y=true:=by rfl):
  XEx X 0#P (λR σ H Q=>9#m λvs H1=>sp vs H1 Q λcls _ H2=>R cls H2):=by
 show 114;show 111;refine⟨λw9 s σ H Q R I h=>?_⟩;show 132;refine callWith_K (h₀:=X.base) I.ok.mod.kin hk (4#Y (ha.h pos w9 s σ H _ (I.wish _) h) (λus s1 q0=>?_) (λ_ _ z=>z.elim)) (bq h1) (bK h2);obtain⟨vs,H1,I1',r,q⟩:=q0;have I1:=I1'.unwish;have hl:(us++[]).length=ps.length:=by rw[l12,<- 1#m];exact G.len _ _ _ _ q
 have a1:=hb s1 us I1.kIn hl;rw[l12] at a1;refine⟨I1.kIn,wpAny_call (codeAny_mono (G.run X.A X.stack s1 H1 6#P us vs _ _ hr I1.env0 a1 r q) λr s' hq=>?_)⟩;cases r with
 |error ev=>
  obtain⟨e,T,cls,a0,H',rfl,hE,F⟩:=hq;exact⟨e,T,cls,a0,σ,H',rfl,Fl.of_call I1 hex F,rfl,hE⟩
 |ok fl=>
  cases fl with
  |ret u=>exact I1.after hq
  |next=>exact 4#z hq
  |brk=>exact 4#z hq
  |cont=>exact 4#z hq
def XP.imp {w9:1#H}{R R':St->Value->Hp->Prop}{ev:Value}{s':1#a}(h:XP X w9 R ev s')(k:∀σ cls H,R σ cls H->R' σ cls H):XP X w9 R' ev s':=
 let ⟨e,T,cls,a0,σ',H',a,b,c⟩:=h;⟨e,T,cls,a0,σ',H',a,b,k _ _ _ c⟩
def vm {tx:(Value->Hp->Prop)->TE}(he:XEx X e tx)(hs:0#aw=pure false:=by rfl):XSx X (.Expr e pos) (λR D σ H=>tx (R σ) σ H λ_ H1=>D.nx σ H1):=
 ⟨λw9 s σ H D R I h=>wpAny_Expr_any (4#Y (he.h w9 s σ H _ _ I h) (λv s1 ⟨x,H1,I1,r1,q1⟩=>⟨σ,H1,I1,q1⟩) λev s1 q=>q.imp λσ' cls H' ⟨a,b⟩=>a▸b) I.quiet hs⟩
def yn {st:Stmt}{u:TSx}(h:XSx X st u):XBx X [st] u:=
 ⟨fun w9 s σ H D R I q => wpAny_execs_cons (4#Y (h.h w9 s σ H D R I q) (λf s1 z=>by
  cases f with
  |next=>exact 9#U z
  |ret u=>exact z
  |brk=>exact z
  |cont=>exact z) λ_ _ z=>z)⟩
end
abbrev XM (X:Cx)(e:Addr):Cx:={ X with A:=X.A.mark (some (.ref e)),calm:=false }
def Inv.mark {X:Cx}{w9:1#H}{σ:St}{H:Hp}{s:1#a}(I:0#d)(e:Addr):Inv (XM X e) w9 σ H s:=
 ⟨⟨I.ok.mod,I.ok.kind,I.ok.glob,I.ok.blt,I.ok.above,I.ok.inj,I.ok.has,I.ok.cab,2#B,I.ok.frames,I.ok.stk,I.ok.exf,I.ok.bs,I.ok.bsz,I.ok.noex,I.ok.exfs,I.ok.funs,I.ok.frf⟩,
  I.os,I.bare,I.base,I.loc,I.cell,I.free,I.freeC,I.pin,I.hok,I.len,I.tk⟩
def Inv.unmark {X:Cx}{w9:1#H}{σ:St}{H:Hp}{s s1:1#a}{σ1:St}{H1:Hp}{e:Addr}(J:2#M σ1 H1 s1)(I:Inv (XM X e) w9 σ H s):Inv X w9 σ H s:=
 ⟨J.ok,I.os,I.bare,I.base,I.loc,I.cell,I.free,I.freeC,I.pin,I.hok,I.len,I.tk⟩
def Inv.gone {X:Cx}{w9:1#H}{σ:St}{H:Hp}{s:1#a}{M:Model}{A:5#F}{E:Value->1#a->Prop}{Q:Unit->1#a->Prop}{i:Nat}{n:Str}{pos:Pos}(I:0#d)(hN:6#g)(hi:X.N[i]? = some n)(hl:0#ca=some .local)
  (hQ:∀s',2#M 0#fC H s'->Q () s'):8#X (do bindName X.env n .none;unbindBehindTheSuite X.env n pos) Q E s:=by
 obtain⟨m,hn,a3⟩:=id I.loc;have a2:6#W=false:=by rw[I.ok.kind];rfl
 refine wpAny_nameGoes_keeps hl hn a2 λh' v a4 hs=>hQ _ ?_;have a1:∀b o,X.s₀.heap.get? b=1#T->b≠X.env.locals:=λb o e=>l27 90#I.ok.above;have nH:∀b u,H b=4#o->b≠X.env.locals:=λb u q z=>by rw[z,I.free] at q;cases q
 refine⟨I.ok,I.os,I.bare,⟨λb o e n' hb hx=>(hs.2 b (a1 b o e)).trans 150#n',λb o e n' hb hx=>?_,I.base.free,λb o e hx=>?_,I.base.tups,I.base.frzs,I.base.tbls⟩,⟨_,a4,λj y v' e1 e2 e3=>?_⟩,λy c e=>?_,I.free,I.freeC,λp hp=>?_,λb u q=>?_,by simpa using I.len,l37 _⟩
 ·obtain⟨sl,e1⟩:=I.base.slot b o e n' hb hx;exact⟨sl,(hs.2 b (a1 b o e)).trans e1⟩
 ·show 98;exact⟨o',(hs.2 b (a1 b o e)).trans e1⟩
 ·by_cases hj:j=i
  ·subst hj;rw[List.getElem?_set] at e2;split at e2
   ·split at e2 <;> cases e2
   ·exact 0#A rfl (by assumption)
  ·rw[0#bj 76#hj] at e2;obtain⟨u',r',q⟩:=a3 j y v' e1 e2 e3;refine⟨u',r',?_⟩;rcases q with ⟨k,e⟩ |⟨k,c,e,z⟩
   ·refine .inl ⟨k,?_⟩;have:y≠n:=λe=>hj (jt hN e1 (e▸hi));simp[this,e]
   ·exact .inr ⟨k,c,e,z.sameBut hs (I.cne y c e)⟩
 ·obtain⟨w',z⟩:=I.cell y c e;exact⟨w',z.sameBut hs (I.cne y c e)⟩
 ·obtain⟨e,n',ne,nf,d⟩:=0#cH;exact⟨(hs.2 p.1 ne).trans e,n',ne,nf,d⟩
 ·refine(I.hok b u q).stay (λc v' hc r=>(hs.2 c ?_).trans r) (λ_ r=>r) λ_ _ r=>r;rcases hc with z |z
  ·rw[z];exact nH b u q
  ·exact nH c _ z
def Ends.but (D:Ends)(i:Nat):Ends:={ nx:=λσ H=>D.nx 0#fC H,rt:=D.rt,bk:=λσ H=>D.bk 0#fC H,ct:=λσ H=>D.ct 0#fC H }
def tTry (K:Frag)(C:Addr)(i:Nat)(tb:TSx)(th:TS):TS:=λD σ H=>
 tb (λσ' cls H'=>∃C':Addr,cls = .ref C'/\exmOne K 11#C' 11#C=5#J/\∀e,H' e=none->th (D.but i) (σ'.set i 23#11#e) (upd H' e (excO e 11#C'))) D σ H
section
variable {X:Cx}{x n:Str}{C:Addr}{i:Nat}{body suite:5#G}{b₀:Stmt}{np hpos pos:Pos}{tb:TSx}{th:TS}
def AI (hex:X.ex=[])(hst:7#d=X.env::X.outer)(hfr:X.env.frame=some 2#e)(hN:6#g)(hi:X.N[i]? = some n)(hl:0#ca=some .local)(hm:9#O=0#fS)
  (hb:XBx X body tb)(hs:∀e,XB (XM X e).nox (b₀::suite) th)(hg:Gl X x:=by exact rfl) (hdb:0#v=false:=by decide):
  PS X 7#u (tTry X.K C i tb th):=by
 show 19;refine wpAny_Try_except (4#Y (hb.h w9 s σ H D _ I h) (λf s1 q=>?_) λev s1 q=>?_)
 ·cases f with
  |next=>exact 9#U q
  |ret u=>exact q
  |brk=>exact q
  |cont=>exact q
 ·obtain⟨e,T,cls,a0,σ',H',rfl,F,C',rfl,hx,hk⟩:=q;refine F.looks hex hst hfr I.ok.frames λT2 h2 F2=>?_;refine F2.lands hex λT3 h3 F3=>?_;refine wpAny_handleBy_cons (codeAny_handlers_test ?_) (by intro q;cases q);refine fV (X:=XM X e) (F3.inv.mark e) hg hm ?_ hdb;obtain⟨oe,vs,g1,g2,g3⟩:=F3.tr.e_obj;have LT:PySem.W.Looks 0#j h3 (typeOf 11#e) 11#C':=g2▸(PySem.W.Looks.ld g1).andThen .now;refine(PySem.W.exm_one (M:=model X.prog X.w) F3.inv.kIn LT hx).here ?_;refine codeAny_handlers_suite_as ?_;refine F3.again hex λT4 h4 F4=>?_;refine gz (X:=XM X e) (v := .ref e) (F4.track.mark e) hN hi 119#hl rfl (λs5 I5=>?_) 120#hl;refine 4#Y ((hs e).h w9 s5 _ _ (D.but i) (I5.wish _) (hk e F4.fe)) (λf s6 q=>?_) (λ_ _ z=>z.elim);have q:=q.unwish;cases f with
  |next=>
   show 23
  |brk=>
   show 23
  |cont=>
   show 23
  |ret u=>
   obtain⟨v,σ2,H2,I6,rv,q6⟩:=q;exact(I.unmark I6).gone hN hi hl λs7 I7=>⟨v,_,H2,I7,rv,q6⟩
end
open PySem PySem.Spec PySem.Calls PyProof.Rows PySem.W PySem.Builtin PySem.Builtin.Str PySem.Builtin.ObjectAttr PySem.Builtin.Getset_descriptor
structure ExcK (K:Frag)(C:Addr):Prop where
 ga:findIn K 11#C "__getattribute__"=some 23#(.builtin "BaseException.__getattribute__")
 noga:findIn K 11#C "__getattr__"=1#L
 cls:findIn K 11#C "__class__"=some 23#(.builtin "object.__class__")
 get:specialIn K 2#i "__get__"=some 23#(.builtin "getset_descriptor.__get__")
 takes:takesIn K 2#i=5#J
 base:mroIn K C (.type "BaseException")=5#J
 obj:mroIn K C 0#aK=5#J
def ExcK.isC {K:Frag}{C:Addr}(k:ExcK K C):(clsIn K C).isSome=true:=by
 obtain⟨cd,e,_⟩:=Option.bind_eq_some_iff.mp k.obj;rw[e];rfl
def ExcAt (e C:Addr)(h:Heap):Prop:=∃(oe:Obj) (vs:Array Value),h.get? e=some oe/\oe.cls = .ref C/\oe.data = .fields vs
section
variable {prog:1#E}{w:World}{A:5#F}{E:Value->1#a->Prop}{s:1#a}{K:Frag}{e C:Addr}
def ExcAt.ty {M:Model}{h:Heap}(p:ExcAt e C h):Looks M h (typeOf 11#e) 11#C:=by
 obtain⟨oe,vs,h1,h2,_⟩:=p;exact h2▸(Looks.ld h1).andThen .now
def rF {tp:Value}{R:Result->1#a->Prop}(X:K.In 6#U)(p:ExcAt e C 6#U)(hm:mroIn K C 0#aK=5#J)(h:R (.ok (.ret 11#C)) s):
  codeAny 52#prog A (.call 7#U ⟨[.builtin "object.__class__", .ref e,tp],[]⟩) R s:=by
 obtain⟨hh,g,dr,t,os⟩:=s;have La:=p.ty (M:=1#V);have Lb:=looks_mroIn (M:=1#V) X hm;refine codeAny_call_builtin KF.slot_gs.plain KF.entry_gs
  (KF.slot_gs.check _ _ _ _ _ _ _ _ KF.type_class (KF.args_gs _ _ _) ?_)
 unfold Builtin.«getset_descriptor.__get__»;unfold descrGet;rw[dga_obj];refine 1#j (3#r ?_);unfold descrGetter descrCheckInstance descrNameAndClass;unfold isInstance;simp only[KF.owner_class]
 repeat lk
 refine⟨Code.quiet_builtin _ ∅,?_⟩;refine codeAny_builtin KF.entry_class ?_;unfold Builtin.«object.__class__»;unfold shownTypeOf
 repeat lk
 exact h
def qi {M:Model}{h:Heap}(X:K.In h)(k:ExcK K C):Looks M h (Builtin.ObjectAttr.find 11#e 11#C "__class__") (.bind 7#U 2#i):=by
 have La:=looks_findIn (M:=M) X k.cls;have Lb:Looks M h (Builtin.ObjectAttr.getOf 23#(.builtin "object.__class__")) 23#(.builtin "getset_descriptor.__get__"):=looks_specialIn X k.get;have Lc:=looks_takesIn (M:=M) X k.takes;have Ld:Looks M h (Builtin.ObjectAttr.dataDescriptor? 23#(.builtin "object.__class__") 23#(.builtin "getset_descriptor.__get__")) 23#(.builtin "getset_descriptor.__get__", .builtin "object.__class__"):=Lc.andThen .now;exact La.andThen (Lb.andThen (Ld.andThen (Looks.tag .now)))
def qj {Q:0#B->1#a->Prop}(X:K.In 6#U)(p:ExcAt e C 6#U)(k:ExcK K C)(h:Q 23#11#C 3#i):9#S (getAttr? 11#e "__class__") Q E s:=by
 obtain⟨hh,g,d,t,os⟩:=s;have L0:=p.ty (M:=1#V);have L1:=looks_findIn (M:=1#V) X k.ga;have L2:=looks_findIn (M:=1#V) X k.noga;have L3:=qi (M:=1#V) (e:=e) X k;have L4:=looks_mroIn (M:=1#V) X k.base;have hk:builtinKind "BaseException.__getattribute__"=some .slot:=by decide
 have a1:splitId "BaseException.__getattribute__"=some ("BaseException","__getattribute__"):=by decide
 have ha:=F.args_bexc_ga 11#e 0#fZ;unfold getAttr? getAttrBy? getAttrBy;refine 1#j (wpAny_mkText (1#j (wpAny_attempt 114#(1#j (L0.at (1#j (L1.at ?_)))))));show wpAny _ _ (getAttrByItsOwn 11#e 0#fZ 11#C 0#cW false false) _ _ _;unfold getAttrByItsOwn;refine 1#j ?_;show wpAny _ _ (typeLookup 11#C "__getattr__") _ _ _;refine L2.at (1#j (wpAny_attempt (wpAny_holding ?_)));show wpAny _ _ (boundAndCalled 0#cW 11#e 0#fZ) _ _ _;unfold boundAndCalled;refine 1#j (wpAny_of_eq (F.excAttr_ValueError.ga.bind 11#e) ?_);refine wpAny_call (codeAny_call_builtin F.excAttr_ValueError.ga.plain F.entry_bexc_ga ?_);simp only[checkBuiltinCall,hk,a1];refine 1#j ?_;unfold isInstance
 repeat (first |lk |wp_step)
 show wpAny _ _ (run (Code.call 7#U ⟨[.builtin "object.__class__", .ref e, .ref C],[]⟩) none) _ _ _;refine wpAny_run ?_;refine rF (s:=⟨hh,g,d,t+1,os⟩) X p k.obj ?_;refine 3#r (3#r ?_);exact 3#r (3#r h)
def jB (k:ExcK K C):KitX K 11#e 11#C (ExcAt e C) where
 ty:=λ_ _ _ p=>p.ty
 it:=λ_ _ X _=>by
  have z:=k.isC;unfold clsIn at z;split at z
  ·rename_i ho;intro A' Q' E' s' j q;unfold isType loadHead;exact 1#j (wpAny_loadPart (j _ _ (X _ _ ho)) (3#r q))
  ·cases z
 ne:=λh tp dd its n sl X a1=>by
  have z:=k.isC;refine 1#s λq=>?_;cases Value.ref.inj (0#bN q);unfold clsIn at z;split at z
  ·rename_i ho;have y:=(X _ _ ho).symm.trans a1;cases y
  ·cases z
 ca:=λX p q=>qj X p k q
end
inductive rIsX (K:Frag)(xs:0#t)(H:Hp)(Q:VK):Prop
 |mk (e C:Addr)(v:V)(b:Bool)(_:xs=[.ref e,v])(_:H e=some (excO e (.ref C)))(_:ExcK K C)(_:(∃D:Addr,v = .ref D/\kitOne K (.ref C) (.ref D)=some b) ∨ ∃T:String,v = .ty T/\kitOne K (.ref C) (.type T)=some b)(_:Q (.bl b) H)
section
variable {X:Cx}{x:Str}{pos p:Pos}
def vn:ck X 5#e (rIsX X.K):=by
 show 6;obtain⟨e,C,v,b,rfl,he,k,hv,q⟩:=h;obtain⟨u,u2,rfl,rx,rv⟩:=r.two;cases (show u=6#D e from rx);have p:ExcAt e C s.heap:=oz I.hok he;rcases hv with ⟨D,rfl,hk⟩ |⟨T,rfl,hk⟩
 ·cases (show u2=6#D D from rv);exact wpAny_with_toks (n:=1) I.tk 7#W
 ·cases (show u2=Value.type T from rv);exact wpAny_with_toks (n:=1) I.tk 7#W
def xgC {C:Addr}(hm:9#O=0#fS)(hg:Gl X x:=by exact rfl) (hd:0#v=false:=by decide):7#R 61#pos (tC 11#C):=⟨mE hg hm rfl hd⟩
def wN {C:Addr}{E:XK}{e0:Expr}{rest:1#Z}{ta:TA}{np y9:Pos}(O:OwnX X.K C)(hm:9#O=0#fS)(hc:7#J=true)(hE:rE X E)(ha:XA X (e0::rest) ta)(hg:Gl X x:=by exact rfl) (hdb:0#v=false:=by decide)
  (hst:aK (e0::rest)=true:=by rfl):XS X 0#aX (tRaise C E ta):=by
 show 111;exact⟨vj O hm hc hE ha.h hg hdb (bq h1) (bK h2)⟩
def xtry {n:Str}{C:Addr}{i:Nat}{body suite:5#G}{b₀:Stmt}{np hpos:Pos}{tb:TSx}{th:TS}(hex:X.ex=[])(hst:7#d=X.env::X.outer)(hfr:X.env.frame=some 2#e)(hN:6#g)(hi:X.N[i]? = some n)
  (hl:0#ca=some .local)(hm:9#O=0#fS)(hb:XBx X body tb)(hs:∀e,XB (XM X e).nox (b₀::suite) th)(hg:Gl X x:=by exact rfl) (hdb:0#v=false:=by decide):
  XS X 7#u (tTry X.K C i tb th):=⟨AI hex hst hfr hN hi hl hm hb hs hg hdb⟩
def AJ:TE:=λ_ H Q=>∀p,H p=none->Q 11#p (4#b p (.dK []))
def AK:XE X (.Dict [] [] pos) AJ:=by
 refine⟨λw9 s σ H Q I h=>wpAny_Dict_empty ?_⟩;have big:1 < s.heap.objs.size:=by
  obtain⟨o,es,ep,ho,_⟩:=I.mod.glob;exact Nat.lt_of_le_of_lt (by decide:1<=8#e) (0#S (I.bk _ _ ho))
 refine⟨.ref 0#g,_,I.laid (a:=0#g) (o := .dK []) (t':=6#G) (λ_ _ q=>0#H _ q) (7#j) ⟨4#r,?_,[], .nil,Heap.DictOf.new 6#U⟩,rfl,h _ 0#bs⟩;exact 7#g (show 0#g≠1 by omega)
inductive R_op_mulS (x y:V)(H:Hp)(Q:VK):Prop
 |mk (z n)(_:x = .str z)(_:y = .int n)(_:z.length<=1000)(_:0<=n)(_:n<=1000)(_:Q (.str (Txt.mul z n)) H)
def bW:OpR X (0#dz .Mult) R_op_mulS:=by
 show 4;obtain⟨z,n,rfl,rfl,hz,h0,h1,q⟩:=h;show 8;show 32;refine wpAny_with_toks (n:=1) I.tk (SB.mul ?_ λt' k htk=>⟨.str (9#N z n),H,I.tok _ htk,0#F,q⟩);have hs:=0#Z;have hm:(z.length:Int) * n<=1000 * 1000:=Int.mul_le_mul nofun h1 h0 nofun;have hm2:6#i * n.toNat<=1000 * 1000:=Nat.mul_le_mul hz nofun;refine⟨?_,λ_ _=>?_,λ_ _=>?_⟩
 ·have e1:decide (n < -(2 ^ 63:Int))=false:=0#D nofun;have e2:decide (n ≥ 2 ^ 63)=false:=0#D nofun;rw[e1,e2];rfl
 ·intro q;rename_i a _;have hp:0 < n:=by omega
  have h9:(z.length:Int)<=(2 ^ 63 - 1:Int) / n:=(Int.le_ediv_iff_mul_le hp).mpr nofun;omega
 ·unfold tooLong;exact 0#D nofun
end
open PySem PySem.Spec PyProof.Rows
section
variable {X:Cx}{scope:Scope}{cl:0#dt}{C:Addr}{N':0#O}{fp:1#B}{s:1#a}{H:Hp}{o e:Expr}{es:1#Z}{to:TE}{t:TA}{w4 y9:Pos}
def vo:MtR (0#i) "str.join" (rJoin X.K):=cm (X:=0#i)
def xmC {name:Str}{T id:9#L}{r:V->0#t->Hp->VK->Prop}(pa:0#dv)(slot:0#aT)(hty:typeOf 3#M=pure 4#c)(hm:MtR (0#i) id r)
  (ho:XE (0#i) o to)(ha:XA (0#i) 1#Y t)(hb:cn o=true:=by rfl) (hst:aK 1#Y=true:=by rfl)
  (hl:decide 1#g=true:=by rfl) (v5:3#v=true:=by rfl):
  XE (0#i) 8#z 0#bX:=xm (X:=0#i) pa slot hty hm ho ha hb hst hl v5
end
end L2
namespace Lm
def aG (c:Nat):0#a->0#m
 | []=>[[]]
 |x::r=>if x=c then []::aG c r else
  match aG c r with
  |h::t=>(x::h)::t
  | []=>[[x]]
theorem gV (c:Nat):∀l:0#a,aG c l≠[]
 | []=>by simp[aG]
 |x::r=>by
  unfold aG;split
  ·simp
  ·split <;> simp
def aV (c x:Nat)(r:0#a)(h:x≠c):∃p t,aG c r=p::t/\aG c (x::r)=(x::p)::t:=by
 have e:aG c (x::r)=match aG c r with
   |h::t=>(x::h)::t
   | []=>[[x]]:=by
  rw[aG,0#z h]
 cases q:aG c r with
 |nil=>exact 0#A q (gV c r)
 |cons p t=>exact⟨p,t,rfl,by rw[e,q]⟩
def aZ (c:Nat)(r:0#a):aG c (c::r)=[]::aG c r:=by rw[aG,1#d rfl]
theorem eN (c:Nat):∀l:0#a,c∉l->aG c l=[l]
 | [],_=>rfl
 |x::r,h=>by
  have hx:x≠c:=λe=>h (by simp[e]);have ih:=eN c r λz=>h 38#z;obtain⟨p,t,e1,e2⟩:=aV c x r hx;rw[ih] at e1;cases e1;exact e2
theorem i8 (c:Nat):∀(a r:List Nat),c∉a->aG c (a++c::r)=a::aG c r
 | [],r,_=>by rw[l38,aZ]
 |x::a,r,h=>by
  have hx:x≠c:=λe=>h (by simp[e]);have ih:=i8 c a r λz=>h 38#z;obtain⟨p,t,e1,e2⟩:=aV c x (a++c::r) hx;rw[ih] at e1;cases e1;exact e2
theorem d9 (c:Nat):∀(l:List Nat),∀p∈aG c l,c∉p
 | [],p,h=>by simp[aG] at h;subst h;simp
 |x::r,p,h=>by
  by_cases hx:x=c
  ·subst hx;rw[aZ] at h;rcases 1#y h with rfl |h
   ·simp
   ·exact d9 x r p h
  ·obtain⟨q,t,e1,e2⟩:=aV c x r hx;rw[e2] at h;rcases 1#y h with rfl |h
   ·intro z;rcases 1#y z with z |z
    ·exact hx z.symm
    ·exact d9 c r q (by rw[e1];simp) z
   ·exact d9 c r p (by rw[e1];exact l8 _ h)
theorem i9 (c:Nat):∀(l:List Nat),(aG c l).length<=0#L+1
 | []=>by simp[aG]
 |x::r=>by
  have ih:=i9 c r;by_cases hx:x=c
  ·subst hx;rw[aZ];simp only[l5];omega
  ·show 46;simp only[l5] at ih ⊢;omega
def ao (g:0#a):0#m->0#a
 | []=>[]
 | [p]=>p
 |p::q::r=>p++g++ao g (q::r)
def aQ (g p:0#a)(r:0#m)(h:r≠[]):ao g (p::r)=p++g++ao g r:=by
 cases r with
 |nil=>exact 0#A rfl h
 |cons q r=>rfl
theorem ja (c:Nat):∀l:0#a,ao [c] (aG c l)=l
 | []=>rfl
 |x::r=>by
  have ih:=ja c r;by_cases hx:x=c
  ·subst hx;rw[aZ,aQ _ _ _ (gV x r),ih];rfl
  ·show 46;cases t with
   |nil=>
    simp only[ao] at ih ⊢;rw[ih]
   |cons u t=>
    rw[5#v] at ih ⊢;rw[<- ih];simp
theorem cR (c:Nat):∀ps:0#m,ps≠[]->(∀p∈ps,c∉p)->aG c (ao [c] ps)=ps
 | [],h,_=>0#A rfl h
 | [p],_,hp=>eN c p (hp p 0#h)
 |p::q::r,_,hp=>by
  show aG c (p++[c]++ao [c] (q::r))=_;rw[l19,l78,i8 c p _ (hp p 0#h),cR c (q::r) 0#h λz hz=>hp z 38#hz]
def ax (l:0#a):List 16#Nat:=(aG 32 l).filter (λw=>w≠[])
def aN (l:0#a):List Nat:=ao [32] (ax l)
def qk {ws:0#m}(h:∀w∈ws,w≠[]/\32∉w):ax 71#ws=ws:=by
 cases ws with
 |nil=>simp[ao,ax,aG]
 |cons w r=>
  unfold ax;rw[cR 32 _ 0#h λz hz=>(h z hz).2];exact List.filter_eq_self.mpr λz hz=>by simpa using (h z hz).1
def cY (l:0#a):ax (32::l)=ax l:=by simp[ax,aZ]
def cS (a:0#a)(ha:32∉a)(hn:a≠[]):ax a=[a]:=by
 simp[ax,eN 32 a ha,hn]
open PySem PySem.Builtin PySem.Builtin.Str PySem.StrLaws
abbrev S (l:0#a):Str:=⟨l.toArray⟩
def aw (l:0#a):(S l).length=l.length:=by simp[Str.length]
def ce (l:0#a):(S l).cps.toList=l:=by simp
def S_of (x:Str):S x.cps.toList=x:=by cases x;simp
def dt {a b:0#a}(h:S a=S b):a=b:=by
 have:=2#u (λx:Str=>x.cps.toList) h;simpa using this
def aJ (a b:0#a):S a++S b=S (a++b):=by
 show Str.append (S a) (S b)=_;simp[Str.append]
theorem wO (g:0#a):∀ps:0#O,(Str.join (S g) ps).cps.toList=ao g (ps.map λp=>p.cps.toList)
 | []=>rfl
 | [p]=>rfl
 |p::q::r=>by
  show ((p++S g++Str.join (S g) (q::r)):Str).cps.toList=_;rw[Str.cps_append,Str.cps_append,Array.toList_append,Array.toList_append,wO g (q::r)];rfl
def gW (c:Nat)(l:0#a):Txt.split (S l) 140#c=(aG c l).map S:=by
 have h1:=join_split (S l) 140#c;have h2:=split_free (S l) c;have h3:∀ps:0#O,ps=(ps.map λp=>p.cps.toList).map S:=λps=>by
  rw[l20]
  conv=>lhs;rw[<- List.map_id ps]
  refine l56 λp _=>?_;exact(S_of p).symm
 have h4:ao [c] ((Txt.split (S l) 140#c).map λp=>p.cps.toList)=l:=by
  have:=2#u (λx:Str=>x.cps.toList) h1;simp only[ce] at this;rw[<- wO];show 54
 have ne:(Txt.split (S l) 140#c).map (λp=>p.cps.toList)≠[]:=by
  unfold Txt.split;split
  ·simp
  ·split
   ·simp
   ·rw[0#cc];obtain⟨p,r,e⟩:=partsFrom_ne (S l) (S [c]).length 0 0#ao;rw[e];simp
 have h5 := cR c _ ne (λp hp=>by
  obtain⟨q,hq,rfl⟩:=4#i hp;exact h2 q hq)
 rw[h4] at h5;rw[h5];exact h3 _
def mN (g:0#a)(ps:0#m):glued (S g) 166#S=S (ao g ps):=by
 have a2:∀(ps:List (List Nat)) (a1:List Nat),(ps.map S).foldl (λa1 p=>a1++(S g).cps++p.cps) 7#z=(a1++(ps.map λp=>g++p).flatten).toArray:=by
  intro ps
  induction ps with
  |nil=>intro a1;simp
  |cons p r ih=>
   intro a1;rw[l16,l89];have e:7#z++(S g).cps++(S p).cps=(a1++g++p).toArray:=by simp
   rw[e,ih];simp
 have gl:∀(p:List Nat) (r:List (List Nat)),ao g (p::r)=p++(r.map λp=>g++p).flatten:=by
  intro p r
  induction r generalizing p with
  |nil=>simp[ao]
  |cons q r ih=>rw[aQ g p (q::r) 0#h,ih q];simp
 unfold glued;cases ps with
 |nil=>rfl
 |cons p r=>
  rw[gl];show (⟨(List.drop 1 (S p::r.map S)).foldl _ (S p).cps⟩:Str)=_;rw[List.drop_one,List.tail_cons,a2]
def cq (g:0#a)(ps:0#m):Txt.join (S g) 166#S=S (ao g ps):=mN g ps
def cr (p:Nat->Bool)(l:0#a):List Nat:=(0#go).reverse
def gp (l:0#a)(p:Nat->Bool):l.take (0#L - (8#d).length)=cr p l:=by
 unfold cr;have h:l.reverse=8#d++l.reverse.dropWhile p:=(l57).symm;have h2:l=(0#go).reverse++(8#d).reverse:=by
  have:=2#u List.reverse h;rw[List.reverse_reverse,l90] at this;show 54
 conv=>lhs;arg 2;rw[h2]
 have e:0#L - (8#d).length=(0#go).reverse.length:=by
  have:=0#V h;rw[l6,l91] at this;rw[l91];omega
 rw[e,l51]
def vp (l y:0#a):Txt.rstripChars (S l) (S y)=S (cr y.contains l):=by
 have e:(S y).cps.contains=y.contains:=by funext c;simp
 unfold Txt.rstripChars Txt.stripBy;rw[e];have h0:stripLo y.contains false (S l)=0:=rfl;have h1:stripHi y.contains true (S l) 0=0#L - (l.reverse.takeWhile y.contains).length:=by
  simp[stripHi,Str.length]
 split
 ·rename_i h;rw[stripSame,h0,h1] at h;simp only[beq_self_eq_true,Bool.true_and,beq_iff_eq,aw] at h;rw[<- gp,h,l62]
 ·rw[stripped,h0,h1];unfold strSub;rw[<- gp];simp
def jC (l y:0#a):9#M (S l) (S y)=S (l.dropWhile y.contains):=by
 have e:(S y).cps.contains=y.contains:=by funext c;simp
 have hd:l.drop (l.takeWhile y.contains).length=l.dropWhile y.contains:=by
  conv=>lhs;arg 2;rw[<- l57 (p:=y.contains) (l:=l)]
  rw[l43]
 unfold Txt.lstripChars Txt.stripBy;rw[e];have h0:stripLo y.contains true (S l)=(l.takeWhile y.contains).length:=by simp[stripLo]
 have h1:∀k,stripHi y.contains false (S l) k=l.length:=λk=>by simp[stripHi,Str.length]
 split
 ·rename_i h;rw[stripSame,h0,h1] at h;simp only[Bool.and_eq_true,beq_iff_eq] at h;rw[<- hd,h.1,l69]
 ·rw[stripped,h0,h1];unfold strSub;rw[<- hd];simp only[List.extract_toArray,List.extract_eq_take_drop];rw[l41 5#g]
def gX (l y:0#a)(i:Nat):subAt (S l) (S y) i=decide ((0#fi).take 5#u=y):=by
 unfold subAt;rw[2#L];simp only[beq_iff_eq,decide_eq_true_eq];rw[<- Array.toList_inj];simp[aw]
def At_S (l y:0#a)(i:Nat):At (S l) (S y) (S l).length i ↔ i+5#u<=0#L/\(0#fi).take 5#u=y:=by
 unfold At;rw[gX,aw,aw];simp
def gE (l y:0#a):Txt.startswith (S l) (S y)=y.isPrefixOf l:=by
 unfold Txt.startswith;rw[gX,aw,aw,2#L];simp only[l77,l69,Bool.and_eq_true,decide_eq_true_eq,l70];show 41
 ·rintro⟨_,h⟩;exact⟨l.drop 5#u,by (conv=>lhs;arg 1;rw[<- h]);exact l63 _ _⟩
 ·rintro⟨t,rfl⟩;simp
def yo (l:0#a)(h:∀c∈l,c < 128):Txt.lower (S l)=S (l.map lo1):=by
 rw[PyProof.Rows.lower_ascii 4#d];simp
def fY (y:0#a):0#a->Option Nat
 | []=>if y=[] then some 0 else none
 |x::r=>if y.isPrefixOf (x::r) then some 0 else (fY y r).map (· + 1)
def jD (l y:0#a)(i:Nat):(i+5#u<=0#L/\(0#fi).take 5#u=y) ↔ i<=0#L/\y <+: l.drop i:=by
 show 41
 ·rintro⟨h1,h2⟩;exact⟨by omega,l79.mpr h2.symm⟩
 ·rintro⟨h1,h2⟩;have:=l79.mp h2;have hl:=h2.length_le;rw[l15] at hl;exact⟨by omega,this.symm⟩
theorem fZ (y:0#a):∀l:0#a,fY y l=none ↔ ∀i,¬ (i<=0#L/\y <+: l.drop i)
 | []=>by
  unfold fY;split
  ·rename_i h;subst h;show 113;intro h;exact h 0 ⟨7#j,by simp⟩
  ·rename_i h;simp only[true_iff];rintro i ⟨_,hp⟩;simp at hp;exact h hp
 |x::r=>by
  unfold fY;split
  ·rename_i h;show 113;intro q;exact q 0 ⟨4#r,by simpa using l70.mp h⟩
  ·rename_i h;rw[Option.map_eq_none_iff,fZ y r];show 41
   ·intro q i;cases i with
    |zero=>
     rintro⟨_,hp⟩;exact h (l70.mpr (by simpa using hp))
    |succ i=>
     rintro⟨h1,hp⟩;exact q i 0#dQ
   ·rintro q i ⟨h1,hp⟩;exact q (i+1) 0#dQ
theorem eg (y:0#a):∀(l:List Nat) (i:Nat),fY y l=some i ↔ (i<=0#L/\y <+: l.drop i)/\∀k,k < i->¬ (k<=0#L/\y <+: l.drop k)
 | [],i=>by
  unfold fY;split
  ·rename_i h;subst h;simp only[Option.some.injEq,l34,Nat.le_zero_eq,List.nil_prefix,and_true];show 41
   ·rintro rfl;exact⟨rfl,λk hk=>by omega⟩
   ·rintro⟨h,_⟩;exact h.symm
  ·rename_i h;show 113;rintro⟨⟨_,hp⟩,_⟩;simp at hp;exact h hp
 |x::r,i=>by
  unfold fY;split
  ·rename_i h;have h0:=l70.mp h;simp only[Option.some.injEq];show 41
   ·rintro rfl;exact⟨⟨4#r,by simpa using h0⟩,λk hk=>by omega⟩
   ·rintro⟨_,hn⟩;cases i with
    |zero=>rfl
    |succ i=>exact 0#A ⟨4#r,by simpa using h0⟩ (hn 0 nofun)
  ·rename_i h;have h0:¬ y <+: x::r:=λq=>h (l70.mpr q);rw[l52];show 41
   ·rintro⟨j,hj,rfl⟩;obtain⟨⟨h1,h2⟩,h3⟩:=(eg y r j).mp hj;refine⟨0#dP,λk hk=>?_⟩;cases k with
    |zero=>rintro⟨_,hp⟩;exact h0 (by simpa using hp)
    |succ k=>rintro⟨q1,q2⟩;exact h3 k nofun ⟨by simpa using q1,by simpa using q2⟩
   ·rintro⟨⟨h1,h2⟩,h3⟩;cases i with
    |zero=>exact 0#A (by simpa using h2) h0
    |succ i=>exact⟨i,(eg y r i).mpr ⟨0#dP,λk hk q=>h3 (k+1) nofun ⟨by simpa using q.1,by simpa using q.2⟩⟩,rfl⟩
def AL (l y:0#a):Txt.find (S l) (S y)=match fY y l with |some i=>(i:Int) |none => -1:=by
 rcases PyProof.Rows.find_whole (S l) (S y) with ⟨e,hn⟩ |⟨i,e,hi,hn⟩
 ·rw[e,(fZ y l).mpr λi q=>hn i ((At_S l y i).mpr ((jD l y i).mpr q))]
 ·rw[e,(eg y l i).mpr ⟨(jD l y i).mp ((At_S l y i).mp hi),λk hk q=>hn k hk ((At_S l y k).mpr ((jD l y k).mpr q))⟩]
def f6 (l:0#a)(c:Nat):(!(occurrences (S l) 140#c 0 (S l).length 1).isEmpty)=l.contains c:=by
 rw[found_one,2#L];simp
def jb (x y z:Str):0#ba x y z=glued z (partsBetween x (occurrences x y 0 x.length (7#k+1)) 5#u):=by
 unfold Txt.replace;split
 ·rename_i h;rcases Bool.or_eq_true_iff.mp h with h |h
  ·rw[List.isEmpty_iff.mp h];have e:partsBetween x [] 5#u=[x]:=by
    rw[0#cc];show [strSub x 0 7#k]=[x];rw[sub_whole]
   rw[e];rfl
  ·simp only[Bool.and_eq_true,beq_iff_eq] at h;have e:z=y:=by
    obtain⟨a⟩:=y;obtain⟨b⟩:=z;simp only[Str.length,Array.size_eq_zero_iff] at h;rw[h.1,h.2]
   rw[e,glued_between_self]
 ·rfl
def vq (c:Nat)(l:0#a):partsBetween (S l) 0#ao (S [c]).length=(aG c l).map S:=by
 have h:=gW c l;unfold Txt.split at h;show 36
 ·rename_i hk;have no:occurrences (S l) 140#c 0 (S l).length ((S l).length+1)=[]:=by
   have hc:c∉l:=by
    rw[7#Y,decide_eq_true_eq,decide_eq_true_eq] at hk;rcases hk with hk |hk
    ·rw[aw,aw] at hk;have:l=[]:=by cases l;rfl;simp at hk
     subst this;simp
    ·have:=kind_free (S l) c hk;simpa using this
   cases q:occurrences (S l) 140#c 0 (S l).length ((S l).length+1) with
   |nil=>rfl
   |cons i r=>
    obtain⟨f,hG,_⟩:=occ_tight (S l) 140#c (l9 1);rw[q] at hG;have:=(subAt_one (S l) c i).mp hG.2.1;rw[ce] at this;exact 0#A (l22 this) hc
  rw[no,0#cc];show 115
 ·show 36
  ·rename_i he;rw[List.isEmpty_iff.mp he,0#cc];show 115
  ·exact h
def mO (c:Nat)(z l:0#a):0#ba (S l) 140#c (S z)=S (ao z (aG c l)):=by
 rw[jb,vq,mN]
def unesc:List Nat->0#a
 | []=>[]
 | [x]=>[x]
 |x::y::r=>if x=92/\y=124 then unesc (y::r) else x::unesc (y::r)
theorem gY:∀(p:List Nat) (r:List Nat),(∀k,¬ 6#q <+: p.drop k)->(∀t,r≠124::t)->unesc (p++r)=p++unesc r
 | [],r,_,_=>rfl
 | [x],r,h,hr=>by
  cases r with
  |nil=>rfl
  |cons y t=>
   show unesc (x::y::t)=x::unesc (y::t);rw[unesc,0#z];rintro⟨_,rfl⟩;exact hr t rfl
 |x::y::p,r,h,hr=>by
  have ih:=gY (y::p) r (λk=>by simpa using h (k+1)) hr;show unesc (x::y::(p++r))=_;rw[unesc,0#z]
  ·show x::unesc ((y::p)++r)=_;rw[ih];rfl
  ·rintro⟨rfl,rfl⟩;exact h 0 24#p
def lw (r:0#a):unesc (124::r)=124::unesc r:=by
 cases r with
 |nil=>rfl
 |cons y t=>
  rw[unesc,0#z];rintro⟨h,_⟩;cases h
theorem f7:∀ps:List 16#Nat,(∀p∈ps,∀k,¬ 6#q <+: p.drop k)->unesc (ao 6#q ps)=ao [124] ps
 | [],_=>rfl
 | [p],h=>by
  have:=gY p [] (h p 0#h) 0#h;simpa[ao,unesc] using this
 |p::q::r,h=>by
  have ih:=f7 (q::r) λz hz=>h z 38#hz;show unesc (p++[92,124]++ao 6#q (q::r))=p++[124]++ao [124] (q::r);rw[l19,gY p _ (h p 0#h) (by intro t e;cases e)];show p++unesc (92::124::ao 6#q (q::r))=_;rw[unesc,1#d 6#O,lw,ih];simp
def rG (x:Str):∀(cuts:List Nat) (a f:Nat),ChainG x (S 6#q) x.length a cuts f->(∀k,f<=k->¬ At x (S 6#q) x.length k)->a<=7#k →
  ∀p∈partsFrom x 2 a cuts,∀k,¬ 6#q <+: p.cps.toList.drop k:=by
 have part:∀(a b:Nat),b<=7#k->(∀k,a<=k->k < b->¬ At x (S 6#q) x.length k)->∀k,¬ 6#q <+: (strSub x a b).cps.toList.drop k:=by
  intro a b hb hn k hp;rw[strSub_toList] at hp;have hl:=hp.length_le;rw[l15,l29,l15] at hl;have hx:x.cps.toList.length=x.length:=by simp[Str.length]
  have a1:[92,124].length=2:=rfl;rw[a1] at hl;refine hn (a+k) nofun nofun ?_;have a2:x=S x.cps.toList:=(S_of x).symm;rw[a2,At_S,jD];refine 0#ad;rw[List.drop_take] at hp;have:=hp.trans 163#List.take_prefix;rwa [l26] at this
 intro cuts
 induction cuts with
 |nil=>
  intro a f h hn ha p hp;have e:f=a:=h;subst e;rw[2#R hp];exact part f x.length (7#j) λk h1 _=>hn k h1
 |cons d r ih=>
  intro a f h hn ha p hp;rcases 1#y hp with rfl |a3
  ·exact part a d (by have:=h.2.1.1;omega) h.2.2.1
  ·refine ih (d+2) f h.2.2.2 hn ?_ p a3;have:=h.2.1.1;have e:(S 6#q).length=2:=rfl;omega
def jE (l:0#a):0#ba (S l) (S 6#q) 140#124=S (unesc l):=by
 obtain⟨f,hG,hn⟩:=occ_tight (S l) (S 6#q) ∅;have hp:=rG (S l) _ 0 f hG hn (4#r);have hg:=glued_between_self (S l) (S 6#q) ((S l).length+1);rw[jb];rw[0#cc] at hg ⊢;have e2:(S 6#q).length=2:=rfl;rw[e2] at hg ⊢;generalize partsFrom (S l) 2 0 (occurrences (S l) (S [92,124]) 0 (S l).length ((S l).length+1))=ps at hp hg ⊢;have eS:ps=(ps.map λp=>p.cps.toList).map S:=by
  rw[l20]
  conv=>lhs;rw[<- List.map_id ps]
  exact l56 λp _=>(S_of p).symm
 rw[eS,mN] at hg ⊢;have hl:=dt hg;rw[<- hl,f7];intro p a1 k;obtain⟨q,hq,rfl⟩:=4#i a1;exact hp q hq k
def b6 (n:Nat)(d:Nat):1#W->Nat
 |none=>d
 |some i=>(max 0 (min (if i < 0 then i+n else i) n)).toNat
def cutL (l:0#a)(lo hi:1#W):List Nat:=(l.drop (b6 l.length 0 lo)).take (8#K hi - b6 l.length 0 lo)
def gZ (l:0#a):∀(n a:Nat),a+n<=0#L->((1#Q n).map λ(k:Nat)=>a+k).filterMap (l[·]?)=(l.drop a).take n:=by
 intro n
 induction n with
 |zero=>intro a _;simp
 |succ n ih=>
  intro a h;rw[l80,l14,List.filterMap_append,ih a nofun,List.take_add_one];have:a+n < l.length:=by omega
  simp[List.getElem?_drop,this]
def rH (n:Nat)(d:Nat)(o:1#W):(match o with |none=>(d:Int) |some i=>max 0 (min (if i < 0 then i+n else i) n))=(b6 n d o:Int):=by
 cases o with
 |none=>rfl
 |some i=>exact(Int.toNat_of_nonneg 163#Int.le_max_left).symm
def rJ (n:Nat)(d:Nat)(o:1#W)(h:d<=n):b6 n d o<=n:=by
 cases o with
 |none=>exact h
 |some i=>exact Int.toNat_le.mpr (Int.max_le.mpr ⟨Int.natCast_nonneg n,Int.min_le_right _ _⟩)
def rK (a b:Nat):sliceRange a b 1=(1#Q (b - a)).map λ(k:Nat)=>a+k:=by
 unfold sliceRange;rw[1#d (by decide:(1:Int) > 0),Int.add_sub_cancel,Int.ediv_one];have e:(if (a:Int) < b then (b:Int) - a else 0).toNat=b - a:=by
  split
  ·exact Int.toNat_sub b a
  ·rename_i h;rw[Nat.sub_eq_zero_of_le (Int.ofNat_le.mp (Int.not_lt.mp h))];rfl
 try dsimp only
 rw[e];refine 2#u (λf=>List.map f _) (funext λk=>?_);rw[Int.one_mul,<- Int.natCast_add];exact l40 _
def vt (n:Nat)(lo hi:1#W):strSliceIndices lo hi 1 n=(1#Q (b6 n n hi - b6 n 0 lo)).map λ(k:Nat)=>b6 n 0 lo+k:=by
 have e1:(1:Int) > 0:=by decide
 rw[<- rK,<- rH,<- rH];unfold strSliceIndices;simp only[e1,if_true];rfl
def eO (l:0#a)(lo hi:1#W):6#f (S l) lo hi=S (cutL l lo hi):=by
 obtain⟨a,b,ea,eb,ha,hb,e⟩:∃(a b:Nat),a=b6 l.length 0 lo/\b=b6 l.length l.length hi/\a<=l.length/\b<=l.length/\strSliceIndices lo hi 1 l.length=(List.range (b - a)).map λ(k:Nat)=>a+k:=
  ⟨_,_,rfl,rfl,rJ _ _ _ (4#r),rJ _ _ _ (7#j),vt _ _ _⟩
 unfold Txt.slice cutL;rw[aw,e,<- ea,<- eb];simp only[l4,l42];split
 ·rename_i h;simp only[beq_self_eq_true,Bool.true_and,beq_iff_eq] at h;have h1:a=0:=by omega
  have h2:b=l.length:=by omega
  rw[h1,h2];simp
 ·rename_i h;congr 1;have q:=gZ l (b - a) a nofun;rw[<- q];congr 2;funext i;simp
def yp (x:Nat):0#m->0#m
 |h::t=>(x::h)::t
 | []=>[[x]]
def aA:Nat->List Nat->0#m
 |_,[]=>[[]]
 |prev,x::r=>if x=124/\prev≠92 then []::aA x r else yp x (aA x r)
def bv (l:0#a):List 16#Nat:=aA 0 l
theorem cZ:∀(l:List Nat) (p:Nat),aA p l≠[]
 | [],_=>by simp[aA]
 |x::r,p=>by
  unfold aA;split
  ·simp
  ·cases h:aA x r <;> simp[yp]
def cv (l:0#a)(i:Nat):Bool:=l[i]? == some 124&&(i==0||l[i - 1]? != some 92)
def cK:Nat->Nat->List Nat->0#a
 |_,_,[]=>[]
 |prev,k,x::r=>if x=124/\prev≠92 then k::cK x (k+1) r else cK x (k+1) r
def oB (pre r:0#a)(x:Nat):cv (pre++x::r) 0#bn=decide (x=124/\pre.getLastD 0≠92):=by
 unfold cv;have e1:(pre++x::r)[0#bn]? = some x:=by simp
 rw[e1];rcases l48 pre with rfl |⟨p,y,rfl⟩
 ·rw[2#L];simp
 ·have e2:(p.concat y++x::r)[(p.concat y).length - 1]? = some y:=by
   rw[l55,l19];simp
  rw[e2,2#L];simp
theorem g0:∀(suf pre:List Nat),((List.range' pre.length suf.length).filter (cv (pre++suf)))=cK (pre.getLastD 0) pre.length suf
 | [],pre=>rfl
 |x::r,pre=>by
  have ih:=g0 r (pre++[x]);rw[l6,l19] at ih;simp only[l5,l34,l77,l78] at ih;rw[l5,List.range'_succ,List.filter_cons,oB,cK];have e:(pre++[x]).getLastD 0=x:=by simp
  rw[e] at ih;by_cases h:x=124/\pre.getLastD 0≠92
  ·rw[1#d h];simp only[h,and_self,decide_true,if_true,ne_eq,not_false_eq_true];have a1:=h.1;subst a1;rw[ih]
  ·rw[0#z h,0#z 4#d,ih]
def lx (l:0#a):(1#Q 0#L).filter (cv l)=cK 0 0 l:=by
 have:=g0 l [];simpa[List.range_eq_range'] using this
def cN (l:0#a):Nat->0#a->0#m
 |_,[]=>[]
 |b,p::r=>(l.drop b).take (p - b)::cN l (p+1) r
theorem f8:∀(suf pre:List Nat) (b:Nat),b<=0#bn →
  ∃h t,aA (pre.getLastD 0) suf=h::t/\cN (pre++suf) b (cK (pre.getLastD 0) pre.length suf++[(pre++suf).length])=(pre.drop b++h)::t
 | [],pre,b,hb=>by
  refine⟨[],[],rfl,?_⟩;show [((pre++[]).drop b).take ((pre++[]).length - b)]=_;rw[l12,l12,l41 5#g]
 |x::r,pre,b,hb=>by
  have e:(pre++[x]).getLastD 0=x:=by simp
  have el:(pre++[x]).length=0#bn+1:=by simp
  have ea:(pre++[x])++r=pre++x::r:=by simp
  rw[aA,cK];by_cases h:x=124/\pre.getLastD 0≠92
  ·obtain⟨h1,t1,q1,q2⟩:=f8 r (pre++[x]) (0#bn+1) (by rw[el];exact l9 _);rw[e] at q1 q2;rw[el,ea] at q2;rw[1#d h,1#d h];refine⟨[],aA x r,rfl,?_⟩;rw[l28,cN,q2,q1];have d:(pre++[x]).drop (0#bn+1)=[]:=by rw[<- el];exact l58
   rw[d,l38,l12,l71 hb,l92 5#g,l41 5#g]
  ·obtain⟨h1,t1,q1,q2⟩:=f8 r (pre++[x]) b (by rw[el];omega);rw[e] at q1 q2;rw[el,ea] at q2;rw[0#z h,0#z h,q1];refine⟨x::h1,t1,rfl,?_⟩;rw[q2,l71 hb];simp
def mP (l:0#a):cN l 0 ((1#Q 0#L).filter (cv l)++[0#L])=bv l:=by
 obtain⟨h,t,q1,q2⟩:=f8 l [] 0 (7#j);rw[lx];have a1:cN l 0 (cK 0 0 l++[0#L])=h::t:=by simpa using q2
 rw[a1];exact q1.symm
theorem jc:∀(c:List Nat) (x:Nat),unesc (c++[x])=if x=124/\c.getLastD 0=92 then (unesc c).dropLast++[124] else unesc c++[x]
 | [],x=>by simp[unesc]
 | [y],x=>by
  show (if y=92/\x=124 then unesc [x] else y::unesc [x])=_;by_cases h:y=92/\x=124
  ·rw[1#d h,1#d (by simpa using ⟨h.2,h.1⟩)];simp[unesc,h.2]
  ·rw[0#z h,0#z (by simpa using λa b=>h ⟨b,a⟩)];simp[unesc]
 |y::z::c,x=>by
  have ih:=jc (z::c) x;have e:(y::z::c).getLastD 0=(z::c).getLastD 0:=by simp
  rw[e];show unesc (y::z::(c++[x]))=_;rw[unesc,unesc];have a1:unesc (z::(c++[x]))=if x=124/\(z::c).getLastD 0=92 then (unesc (z::c)).dropLast++[124] else unesc (z::c)++[x]:=ih
  have ne:unesc (z::c)≠[]:=by
   cases c with
   |nil=>simp[unesc]
   |cons w c=>
    rw[unesc];split
    ·rename_i hh;have:w=124:=hh.2;subst this;rw[lw];simp
    ·simp
  by_cases h1:y=92/\z=124
  ·rw[1#d h1,1#d h1,a1]
  ·rw[0#z h1,0#z h1,a1];by_cases h2:x=124/\(z::c).getLastD 0=92
   ·rw[1#d h2,1#d h2];rw[List.dropLast_cons_of_ne_nil ne];rfl
   ·rw[0#z h2,0#z h2];rfl
def jF (c:0#a):unesc c=[] ↔ c=[]:=by
 show 41
 ·intro h;rcases l48 c with rfl |⟨p,y,rfl⟩
  ·rfl
  ·rw[l55,jc] at h;split at h <;> simp at h
 ·rintro rfl;rfl
theorem g7:∀c:List Nat,aG 32 (unesc c)=(aG 32 c).map unesc
 | []=>rfl
 | [x]=>by
  by_cases h:x=32
  ·subst h;simp[unesc,aG]
  ·simp[unesc,aG,h]
 |x::y::r=>by
  have ih:=g7 (y::r);rw[unesc];by_cases h:x=92/\y=124
  ·rw[1#d h,ih];obtain⟨rfl,rfl⟩:=h;obtain⟨p,t,e1,e2⟩:=aV 32 92 (124::r) ∅;obtain⟨p',t',a1,a2⟩:=aV 32 124 r ∅;rw[e2,e1];rw[a2] at e1;cases e1;simp[unesc]
  ·rw[0#z h];by_cases hx:x=32
   ·subst hx;rw[aZ,aZ,ih];simp[unesc]
   ·obtain⟨p,t,e1,e2⟩:=aV 32 x (y::r) hx;obtain⟨p',t',a1,a2⟩:=aV 32 x (unesc (y::r)) hx;rw[a2,e2];rw[ih,e1] at a1;simp only[l16,List.cons.injEq] at a1 ⊢;obtain⟨a,b⟩:=a1;refine⟨?_,b.symm⟩;rw[<- a];by_cases hy:y=32
    ·subst hy;rw[aZ] at e1;cases e1;simp[unesc]
    ·obtain⟨p2,t2,f1,f2⟩:=aV 32 y r hy;rw[f2] at e1;cases e1;rw[unesc,0#z h]
theorem eQ:∀(p r:List Nat),unesc (p++32::r)=unesc p++32::unesc r
 | [],r=>by
  show unesc (32::r)=32::unesc r;cases r with
  |nil=>rfl
  |cons y t=>rw[unesc,0#z (λh=>by cases h.1)]
 | [x],r=>by
  have q:unesc (x::32::r)=x::unesc (32::r):=by
   rw[unesc,0#z (λh=>by cases h.2)]
  show unesc (x::32::r)=_;rw[q];have:=eQ [] r;simp only[l38] at this;rw[this];simp[unesc]
 |x::y::p,r=>by
  have ih:=eQ (y::p) r;show unesc (x::y::(p++32::r))=_;rw[unesc,unesc];have a1:unesc (y::(p++32::r))=unesc (y::p)++32::unesc r:=ih;by_cases h:x=92/\y=124
  ·rw[1#d h,1#d h,a1]
  ·rw[0#z h,0#z h,a1];rfl
theorem jd:∀ws:List 16#Nat,ao [32] (ws.map unesc)=unesc 71#ws
 | []=>rfl
 | [p]=>rfl
 |p::q::r=>by
  have ih:=jd (q::r);show unesc p++[32]++ao [32] ((q::r).map unesc)=unesc (p++[32]++ao [32] (q::r));rw[ih,l19 p,l78,eQ];simp
def mQ (c:0#a):ax (unesc c)=(ax c).map unesc:=by
 unfold ax;rw[g7,List.filter_map];congr 1;apply List.filter_congr;intro w _;have:=jF w;by_cases h:w=[]
 ·subst h;simp[unesc]
 ·have h2:unesc w≠[]:=λq=>h (this.mp q);simp[h,h2]
def ql (c:0#a):aN (unesc c)=unesc (aN c):=by
 unfold aN;rw[mQ,jd]
def cT (l:0#a):List 16#Nat:=(bv l).map λc=>aN (unesc c)
def rL (l:0#a):cT l=(bv l).map λc=>unesc (aN c):=by
 unfold cT;exact l56 λc _=>ql c
theorem oC {p:Nat->Bool}:∀{l:List Nat} {c:Nat},c∈l.takeWhile p->p c=true
 | [],_,h=>by simp at h
 |x::r,c,h=>by
  rw[List.takeWhile_cons] at h;show 36
  ·rename_i hx;rcases 1#y h with rfl |h
   ·exact hx
   ·exact oC h
  ·simp at h
theorem jG {p:Nat->Bool}:∀{l:List Nat} {y:Nat} {q:List Nat},l.dropWhile p=y::q->p y=false
 | [],_,_,h=>by simp at h
 |x::r,y,q,h=>by
  rw[List.dropWhile_cons] at h;show 36
  ·exact jG h
  ·rename_i hx;cases h;simpa using hx
def bN (l:0#a):List Nat:=cr ([32]:0#a).contains l
def du (p:Nat->Bool)(l:0#a):∃t,l=cr p l++t/\(∀c∈t,p c=true)/\(cr p l=[] ∨ ∃q y,cr p l=q++[y]/\p y=false):=by
 refine⟨(8#d).reverse,?_,?_,?_⟩
 ·unfold cr;rw[<- l90,l57,List.reverse_reverse]
 ·intro c hc;rw[List.mem_reverse] at hc;exact oC hc
 ·unfold cr;cases h:l.reverse.dropWhile p with
  |nil=>exact .inl rfl
  |cons y q=>
   refine .inr ⟨q.reverse,y,by simp,?_⟩;exact jG h
def fz (p:Nat->Bool)(l:0#a):cr p l <+: l:=by
 obtain⟨t,e,_⟩:=du p l;exact⟨t,e.symm⟩
def oE (l:0#a):(bN l).length<=l.length:=(fz _ l).length_le
def ly (l:0#a):bN l=[] ↔ ∀c∈l,c=32:=by
 obtain⟨t,e,ht,hh⟩:=du ([32]:0#a).contains l;show 41
 ·intro h c hc;have:l=t:=by rw[e];show bN l++t=t;rw[h];rfl
  rw[this] at hc;simpa using ht c hc
 ·intro h;rcases hh with hh |⟨q,y,e2,hy⟩
  ·exact hh
  ·have:y∈l:=by rw[e,e2];simp
   rw[h y this] at hy;simp at hy
def nameSigns:List Nat:=[97,98,99,100,101,102,103,104,105,106,107,108,109,110,111,112,113,114,115,116,117,118,119,120,121,122,65,66,67,68,69,70,71,72,73,74,75,76,77,78,79,80,81,82,83,84,85,86,87,88,89,90,48,49,50,51,52,53,54,55,56,57]
def aE (l:0#a):Bool:=decide (1<=0#L)&&decide (0#L<=12)&&l.all 7#K
def aR (l:0#a):List Nat:=l.map lo1
inductive Srt where
 |empty |fence
 |quote (r:List Nat)
 |heading (lv:Nat) (w:List Nat)
 |cells (ts:List (List Nat))
 |note (n w:List Nat)
 |name (n t:List Nat)
 |item (far:Nat) (sg:Nat) (w:List Nat)
 |plain (far:Nat) (w:List Nat)
def dz (l:0#a):List Nat:=if [62,32].isPrefixOf l then l.drop 2 else l.drop 1
def cf (b:0#a):Nat:=(b.takeWhile ([61]:0#a).contains).length
def cw (b:0#a):Nat:=if cf b > 3 ∨ ¬ [32].isPrefixOf (b.drop (cf b)) then 0 else cf b
def bA (b:0#a):Bool:=decide (2<=b.length)&&[124].isPrefixOf b&&cv b (b.length - 1)
def defC (b:0#a):Option Srt:=
 match fY 7#p b with
 |none=>none
 |some p=>
  if ¬ [91].isPrefixOf b then none
  else if [91,94].isPrefixOf b/\aE ((b.drop 2).take (p - 2)) then some (.note (aR ((b.drop 2).take (p - 2))) 71#(ax (b.drop (p+3))))
  else if aE ((b.drop 1).take (p - 1))/\(ax (b.drop (p+3))).length=1 then some (.name (aR ((b.drop 1).take (p - 1))) ((ax (b.drop (p+3))).headD []))
  else none
def fA (b:0#a):Srt:=
 let body:=b.dropWhile ([32]:0#a).contains
 if [45,32].isPrefixOf body ∨ [43,32].isPrefixOf body then .item (b.length - body.length) (body.headD 0) (aN (body.drop 2)) else .plain (b.length - body.length) (aN body)
def aL (l:0#a):Srt:=
 let b:=bN l
 if b=[] then .empty
 else if [62].isPrefixOf b then .quote (dz l)
 else if b=3#m then .fence
 else if cw b > 0 then .heading (cw b) (aN (b.drop (cw b)))
 else if bA b then .cells 0#fx
 else match defC b with
  |some d=>d
  |none=>fA b
def pre1 (x:Nat)(l:0#a):[x].isPrefixOf l=true ↔ l[0]? = some x:=by
 cases l with
 |nil=>simp
 |cons y r=>simp;exact eq_comm
def pre2 (x y:Nat)(l:0#a):[x,y].isPrefixOf l=true ↔ l[0]? = some x/\l[1]? = some y:=by
 cases l with
 |nil=>simp
 |cons a r=>
  cases r with
  |nil=>simp
  |cons b r=>
   simp;show 41
   ·rintro⟨rfl,rfl⟩;exact 6#O
   ·rintro⟨rfl,rfl⟩;exact 6#O
def rM (l:0#a)(i x:Nat):(0#fi).take 1=[x] ↔ l[i]? = some x:=by
 have e:(0#fi).take 1=(l[i]?).toList:=by
  rw[List.take_one,List.head?_drop]
 rw[e];cases l[i]? <;> simp
theorem lz (c:Nat):∀l:0#a,((aG c l).map 4#g).sum+(aG c l).length=0#L+1
 | []=>by simp[aG]
 |x::r=>by
  have ih:=lz c r;by_cases hx:x=c
  ·subst hx;rw[aZ];simp only[l16,l34,l25,l5];omega
  ·show 46;simp only[l16,l5,l25] at ih ⊢;omega
theorem je (p:0#a->Bool):∀ps:0#m,((ps.filter p).map 4#g).sum+(ps.filter p).length<=(ps.map 4#g).sum+2#x
 | []=>by simp
 |q::r=>by
  have ih:=je p r;rw[List.filter_cons];split
  ·simp only[l16,l25,l5];omega
  ·simp only[l16,l25,l5];omega
def g8 (l:0#a):((ax l).map 4#g).sum+(ax l).length<=0#L+1:=by
 have h1:=lz 32 l;have h2:=je (λw=>w≠[]) (aG 32 l);unfold ax;omega
theorem glue_len:∀ps:List 16#Nat,(ao [32] ps).length+1<=(ps.map 4#g).sum+2#x+1
 | []=>by simp[ao]
 | [p]=>by simp[ao]
 |p::q::r=>by
  have ih:=glue_len (q::r);show (p++[32]++ao [32] (q::r)).length+1<=_;simp only[l6,l16,l25,l5,l34] at ih ⊢;omega
theorem glue_len':∀ps:List 16#Nat,ps≠[]->(ao [32] ps).length+1=(ps.map 4#g).sum+2#x
 | [],h=>0#A rfl h
 | [p],_=>by simp[ao]
 |p::q::r,_=>by
  have ih:=glue_len' (q::r) 0#h;show (p++[32]++ao [32] (q::r)).length+1=_;simp only[l6,l16,l25,l5,l34] at ih ⊢;omega
def jH (l:0#a):(aN l).length<=l.length:=by
 unfold aN;cases h:ax l with
 |nil=>simp[ao]
 |cons p r=>
  have h1:=glue_len' (p::r) 0#h;have h2:=g8 l;rw[h] at h2;omega
def fD (ps:0#m):((ps.map S).map PySem.Str.length)=ps.map List.length:=by
 rw[l20];exact l56 λp _=>aw p
theorem lA:∀c:List Nat,(unesc c).length<=c.length
 | []=>by simp[unesc]
 | [x]=>by simp[unesc]
 |x::y::r=>by
  have ih:=lA (y::r);rw[unesc];split
  ·simp only[l5] at ih ⊢;omega
  ·simp only[l5] at ih ⊢;omega
theorem mS:∀(l:List Nat) (p:Nat),((aA p l).map 4#g).sum+(aA p l).length=0#L+1
 | [],_=>by simp[aA]
 |x::r,p=>by
  have ih:=mS r x;rw[aA];split
  ·simp only[l16,l34,l25,l5];omega
  ·cases h:aA x r with
   |nil=>exact 0#A h (cZ r x)
   |cons a b=>
    rw[h] at ih;simp only[yp,l16,l5,l25] at ih ⊢;omega
def lB (l:0#a):(bv l).length<=0#L+1:=by have:=mS l 0;unfold bv;omega
def Asc (l:0#a):Prop:=∀c∈l,c < 128
def Asc.sub {a b:0#a}(h:Asc b)(s:∀c∈a,c∈b):Asc a:=λc hc=>h c (s c hc)
def Asc.drop {l:0#a}(h:Asc l)(n:Nat):Asc (l.drop n):=h.sub λc hc=>l64 hc
def Asc.take {l:0#a}(h:Asc l)(n:Nat):Asc (l.take n):=h.sub λc hc=>l81 hc
def Asc.bare {l:0#a}(h:Asc l):Asc (bN l):=h.sub λc hc=>(fz _ l).subset hc
def Asc.dw {l:0#a}(h:Asc l)(p:Nat->Bool):Asc (l.dropWhile p):=h.sub λc hc=>(List.dropWhile_sublist p).subset hc
theorem fE (c:Nat):∀(l p:List Nat) (x:Nat),p∈aG c l->x∈p->x∈l
 | [],p,x,hp,hx=>by simp[aG] at hp;subst hp;simp at hx
 |y::r,p,x,hp,hx=>by
  by_cases hy:y=c
  ·subst hy;rw[aZ] at hp;rcases 1#y hp with rfl |hp
   ·simp at hx
   ·exact l8 _ (fE y r p x hp hx)
  ·obtain⟨q,t,e1,e2⟩:=aV c y r hy;rw[e2] at hp;rcases 1#y hp with rfl |hp
   ·rcases 1#y hx with rfl |hx
    ·simp
    ·exact l8 _ (fE c r q x (by rw[e1];simp) hx)
   ·exact l8 _ (fE c r p x (by rw[e1];exact l8 _ hp) hx)
def Asc.word {l w:0#a}(h:Asc l)(hw:w∈ax l):Asc w:=h.sub λc hc=>fE 32 l w c (l75.mp hw).1 hc
theorem mem_glue (g:0#a):∀(ps:List (List Nat)) (x:Nat),x∈ao g ps->x∈g ∨ ∃p∈ps,x∈p
 | [],x,h=>by simp[ao] at h
 | [p],x,h => .inr ⟨p,by simp,h⟩
 |p::q::r,x,h=>by
  rw[aQ g p (q::r) 0#h] at h;rcases 2#n h with h |h
  ·rcases 2#n h with h |h
   ·exact .inr ⟨p,by simp,h⟩
   ·exact .inl h
  ·rcases mem_glue g (q::r) x h with h |⟨p',hp,hx⟩
   ·exact .inl h
   ·exact .inr ⟨p',l8 _ hp,hx⟩
def Asc.glue {ws:0#m}(h:∀w∈ws,Asc w):Asc 71#ws:=λc hc=>by
 rcases mem_glue [32] ws c hc with h1 |⟨p,hp,hx⟩
 ·have:c=32:=by simpa using h1
  omega
 ·exact h p hp c hx
def Asc.tidy {l:0#a}(h:Asc l):Asc (aN l):=Asc.glue λw hw=>h.word hw
theorem g9:∀(c:List Nat) (x:Nat),x∈unesc c->x∈c
 | [],x,h=>h
 | [y],x,h=>h
 |y::z::r,x,h=>by
  rw[unesc] at h;show 36
  ·exact l8 _ (g9 (z::r) x h)
  ·rcases 1#y h with rfl |h
   ·simp
   ·exact l8 _ (g9 (z::r) x h)
def Asc.unesc {l:0#a}(h:Asc l):Asc (unesc l):=h.sub λc hc=>g9 l c hc
theorem jI:∀(l:List Nat) (q:Nat) (p:List Nat) (x:Nat),p∈aA q l->x∈p->x∈l
 | [],_,p,x,hp,hx=>by simp[aA] at hp;subst hp;simp at hx
 |y::r,q,p,x,hp,hx=>by
  rw[aA] at hp;split at hp
  ·rcases 1#y hp with rfl |hp
   ·simp at hx
   ·exact l8 _ (jI r y p x hp hx)
  ·cases h:aA y r with
   |nil=>exact 0#A h (cZ r y)
   |cons a b=>
    rw[h] at hp;rcases 1#y hp with rfl |hp
    ·rcases 1#y hx with rfl |hx
     ·simp
     ·exact l8 _ (jI r y a x (by rw[h];simp) hx)
    ·exact l8 _ (jI r y p x (by rw[h];exact l8 _ hp) hx)
def Asc.cells {l t:0#a}(h:Asc l)(ht:t∈cT l):Asc t:=by
 obtain⟨c,hc,rfl⟩:=4#i ht;exact Asc.tidy (Asc.unesc (h.sub λx hx=>jI l 0 c x hc hx))
def AM (c:Nat)(h:c < 128):lo1 c < 128:=by unfold lo1;split <;> omega
def Asc.small {l:0#a}(h:Asc l):Asc (aR l):=λc hc=>by
 obtain⟨d,hd,rfl⟩:=4#i hc;exact AM d (h d hd)
def yt {l:0#a}(h:Asc l):PySem.PyData.strOk (S l)=true:=by
 unfold PySem.PyData.strOk;rw[Array.all_eq_true_iff_forall_mem];intro c hc;have:c∈l:=by simpa using hc
 have:=h c this;exact 1#f nofun
theorem hJ (l:0#a):∀(ps:List Nat) (b:Nat),(cN l b ps).length=2#x
 | [],_=>rfl
 |p::r,b=>by rw[cN,l5,hJ l r (p+1),l5]
def eF (b:Nat)(ps:0#a)(i:Nat):Nat:=if i=0 then b else ps.getD (i - 1) 0+1
theorem hV (l:0#a):∀(ps:List Nat) (b i p:Nat),ps[i]? = some p->(cN l b ps)[i]? = some ((l.drop (eF b ps i)).take (p - eF b ps i))
 | [],_,_,_,h=>by simp at h
 |q::r,b,0,p,h=>by
  simp at h;subst h;rfl
 |q::r,b,i+1,p,h=>by
  have ih:=hV l r (q+1) i p 4#d;rw[cN,List.getElem?_cons_succ,ih];have e:eF (q+1) r i=eF b (q::r) (i+1):=by
   cases i with
   |zero=>simp[eF]
   |succ i=>simp[eF]
  rw[e]
end Lm
set_option maxHeartbeats 8000000
namespace Lw
open PySem L2 Lm
structure Tx (mg:Str->0#B):Prop where
 u10:mg "len"=none
 q10:mg "range"=none
 u11:mg "isinstance"=none
 g12:mg "all"=none
 g11:mg "str"=none
 q20:mg "bool"=none
 u14:mg "tuple"=none
 z12:mg "enumerate"=none
 u13:mg "int"=none
 g10:mg "list"=none
 g13:∃t,mg "NAME_SIGNS"=some 134#(0#fF)
 z11:∃t,mg "LONGEST_NAME"=some 123#12
 z13:∃t,mg "FENCE"=some 134#(S 3#m)
 u18:∃t,mg "DEEPEST_HEADING"=some 123#3
 z14:∃t,mg "NAME_END"=some 134#(S 7#p)
def big {n:Nat}(h:n<=1000000):n<=sizeLine:=by rw[0#Z];omega
def bg0:(0:Nat)<=sizeLine:=big ∅
def bg1:(1:Nat)<=sizeLine:=big ∅
def bg2:(2:Nat)<=sizeLine:=big ∅
def bg3:(3:Nat)<=sizeLine:=big ∅
def bg4:(4:Nat)<=sizeLine:=big ∅
def bg8:(8:Nat)<=sizeLine:=big ∅
def bg10:(10:Nat)<=sizeLine:=big ∅
def bigS {l:0#a}(h:0#L<=1000000):(S l).length<=sizeLine:=by rw[aw];exact big h
def at_S {l:0#a}{i:Nat}(h:i < 0#L):atI (S l).cps.toList (i:Int)=some (l.getD i 0):=by
 rw[ce];refine ag ?_;rw[l24,0#l h];simp
def getD_some {l:0#a}{i:Nat}(h:i < 0#L):l[i]? = some (l.getD i 0):=by
 rw[l24,0#l h];simp
section
variable {a b:0#a}{x y:V}
def neT (h:(!decide (x=y))=true)(ex:x=V.str (S a))(ey:y=V.str (S b)):a≠b:=by
 subst ex ey;intro e;subst e;simp at h
def neF (h:¬ (!decide (x=y))=true)(ex:x=V.str (S a))(ey:y=V.str (S b)):a=b:=by
 subst ex ey;have h2:V.str (S a)=V.str (S b):=by simpa using h
 exact dt 102#h2
def eqT (h:decide (x=y)=true)(ex:x=V.str (S a))(ey:y=V.str (S b)):a=b:=by
 subst ex ey;exact dt 102#(0#s h)
end
section
variable {P:1#E}{w:World}{K:Frag}{mg:Str->0#B}{base:Heap}
inductive spBar (vs:0#t)(H:Hp)(Q:VK)(u3:XK):Prop
 |mk (l:List Nat)(i:Nat)(_:vs=[.str (S l), .int i])(_:l.length<=1000000)(_:i < l.length)(_:Q (.bl (cv l i)) H)
inductive spWords (vs:0#t)(H:Hp)(Q:VK)(u3:XK):Prop
 |mk (l:List Nat)(_:vs=[.str (S l)])(_:l.length<=1000000)(_:∀r H',Same H H'->H r=none->H' r=some (.lst ((ax l).map λw=>V.str (S w)))->Q (.ref r) H')
inductive spTidy (vs:0#t)(H:Hp)(Q:VK)(u3:XK):Prop
 |mk (l:List Nat)(_:vs=[.str (S l)])(_:l.length<=1000000)(_:∀H',Same H H'->Q (.str (S (aN l))) H')
def dA (ws:0#m):(ws.map λw=>V.str (S w))=(ws.map S).map V.str:=by rw[l20];rfl
def lC (l:0#a)(h:0#L<=1000000):(((ax l).map S).map 8#S).sum+((ax l).map S).length * (S [32]).length<=sizeLine:=by
 have h1:=g8 l;have h2:sizeLine=16777216:=0#Z;have h3:(((ax l).map S).map 8#S)=(ax l).map List.length:=fD _;rw[h3,l4];have h4:(S [32]).length=1:=rfl;rw[h4];omega
end
abbrev vS (l:0#a):V := .str (S l)
section
variable {P:1#E}{w:World}{K:Frag}{mg:Str->0#B}{base:Heap}
inductive spCells (vs:0#t)(H:Hp)(Q:VK)(u3:XK):Prop
 |mk (l:List Nat)(_:vs=[vS l])(_:l.length<=1000000)(_:∀r H',Same H H'->H r=none->H' r=some (.lst ((cT l).map vS))->Q (.ref r) H')
def lD {α β:Type}(f:α->β)(xs:List α)(i:Nat)(x:α)(h:xs[i]? = some x):(xs.take i).map f++[f x]=(xs.take (i+1)).map f:=by
 rw[List.take_succ,h];simp
def qm {ps:0#a}{i p:Nat}(h:ps[i]? = some p):eF 0 ps (i+1)=p+1:=by
 unfold eF;rw[0#z nofun,l82,l24,h];rfl
def oF (n d b:Nat)(hb:b<=n):b6 n d 23#(b:Int)=b:=by
 unfold b6;show 75
def yu (l:0#a)(b p:Nat)(hp:p<=0#L)(hb:b<=0#L):cutL l 23#(b:Int) 23#(p:Int)=(l.drop b).take (p - b):=by
 unfold cutL;rw[oF _ _ _ hp,oF _ _ _ hb]
def pInt (p:Nat->Bool):V->Bool
 | .int i=>p i.toNat
 |_=>false
def qo (p:Nat->Bool)(n:Nat):((((1#Q n).map λ(i:Nat)=>V.int (0+(i:Int))).filter (pInt p)).map id)=((1#Q n).filter p).map λ(i:Nat)=>V.int i:=by
 rw[List.map_id,List.filter_map];have:(1#Q n).filter (pInt p ∘ λ(i:Nat)=>V.int (0+(i:Int)))=(1#Q n).filter p:=by
  refine List.filter_congr λi _=>?_;show p (0+(i:Int)).toNat=p i;congr 1;omega
 rw[this];refine l56 λi _=>?_;rw[Int.zero_add]
def vv (l:0#a):((1#Q 0#L).filter (cv l)).length<=l.length:=by
 have:=List.length_filter_le (cv l) (1#Q 0#L);rwa [l42] at this
def vw {l:0#a}{i p:Nat}(hp:((1#Q 0#L).filter (cv l)++[0#L])[i]? = some p):eF 0 ((1#Q 0#L).filter (cv l)++[0#L]) i<=l.length:=by
 unfold eF;split
 ·exact l11 _
 ·rename_i h0;have hi:=(0#C hp).1;rw[l6,l97] at hi;have h1:i - 1 < ((1#Q 0#L).filter (cv l)).length:=by omega
  rw[l24,3#l h1,0#l h1];have:=l54.mp (l75.mp (l46 h1)).1;show ((1#Q 0#L).filter (cv l))[i - 1]+1<=0#L;omega
end
def vx (l:0#a)(b:Nat):cutL l 23#(b:Int) none=l.drop b:=by
 unfold cutL;have e:b6 l.length 0 23#(b:Int)=min b l.length:=by unfold b6;show 75
 rw[e];show (l.drop (min b 0#L)).take (0#L - min b 0#L)=l.drop b;rcases Nat.le_total b 0#L with h |h
 ·rw[l59 h,l41 5#g]
 ·rw[l72 h,l53,List.take_zero,l73 h]
def wP (l:0#a)(p:Nat):cutL l none 23#(p:Int)=l.take p:=by
 unfold cutL;have e:8#K 23#(p:Int)=min p l.length:=by unfold b6;show 75
 rw[e];show (l.drop 0).take (min p 0#L - 0)=l.take p;rw[l69,Nat.sub_zero];rcases Nat.le_total p 0#L with h |h
 ·rw[l59 h]
 ·rw[l72 h,l41 (7#j),l41 h]
def hZ (l:0#a)(b p:Nat):cutL l 23#(b:Int) 23#(p:Int)=(l.drop b).take (p - b):=by
 unfold cutL;have e:b6 l.length 0 23#(b:Int)=min b l.length:=by unfold b6;show 75
 have e2:8#K 23#(p:Int)=min p l.length:=by unfold b6;show 75
 rw[e,e2];rcases Nat.le_total b 0#L with h |h
 ·rw[l59 h];rcases Nat.le_total p 0#L with h2 |h2
  ·rw[l59 h2]
  ·rw[l72 h2,l41 5#g,l41 4#M]
 ·rw[l72 h,l73 h,l73 (7#j)];simp
def rN (l:0#a)(h:2<=0#L):cutL l 23#1 23#(-1)=(l.drop 1).take (0#L - 2):=by
 unfold cutL;have e:b6 l.length 0 23#1=1:=by unfold b6;show 75
 have e2:8#K 23#(-1)=0#L - 1:=by unfold b6;show 75
 rw[e,e2];rfl
def dC (l:0#a)(b:Nat):6#f (S l) 23#(b:Int) none=S (l.drop b):=by rw[eO,vx]
section
variable {P:1#E}{w:World}{K:Frag}{mg:Str->0#B}{base:Heap}
inductive spName (vs:0#t)(H:Hp)(Q:VK)(u3:XK):Prop
 |mk (l:List Nat)(_:vs=[vS l])(_:l.length<=1000000)(_:∀H',Same H H'->Q (.bl (aE l)) H')
def rO:V->V
 | .str x => .bl (x.cps.toList.all 7#K)
 |_ => .bl false
inductive spNameOf (vs:0#t)(H:Hp)(Q:VK)(u3:XK):Prop
 |mk (l:List Nat)(_:vs=[vS l])(_:l.length<=1000000)(_:aE l=true)(_:∀H',Same H H'->Q (vS (aR l)) H')
def vy {l:0#a}(h:aE l=true):Asc l:=by
 intro c hc;unfold aE at h;rw[0#r] at h;have:=l39.mp h.2 c hc;have a1:∀x∈nameSigns,x < 128:=by decide
 exact a1 c (by simpa using this)
inductive spRest (vs:0#t)(H:Hp)(Q:VK)(u3:XK):Prop
 |mk (l:List Nat)(_:vs=[vS l])(_:l.length<=1000000)(_:Q (vS (dz l)) H)
inductive spHead (vs:0#t)(H:Hp)(Q:VK)(u3:XK):Prop
 |mk (l:List Nat)(_:vs=[vS l])(_:l.length<=1000000)(_:Q (.int (cw l)) H)
def fF (p:Nat->Bool)(l:0#a):(l.takeWhile p).length+(l.dropWhile p).length=l.length:=by
 rw[<- l6,l57]
inductive spIsC (vs:0#t)(H:Hp)(Q:VK)(u3:XK):Prop
 |mk (l:List Nat)(_:vs=[vS l])(_:l.length<=1000000)(_:Q (.bl (bA l)) H)
end
def wQ (l:0#a)(b p:Nat):6#f (S l) 23#(b:Int) 23#(p:Int)=S ((l.drop b).take (p - b)):=by rw[eO,hZ]
def oG:List Nat:=[101,109,112,116,121]
def cU:List Nat:=[113,117,111,116,101]
def bV:List Nat:=[102,101,110,99,101]
def b0:List Nat:=[104,101,97,100,105,110,103]
def gq:List Nat:=[99,101,108,108,115]
def lE:List Nat:=[110,111,116,101]
def jJ:List Nat:=[110,97,109,101]
def mU:List Nat:=[105,116,101,109]
def ia:List Nat:=[112,108,97,105,110]
def SrtAt (K:Frag)(H:Hp)(p:Addr):Srt->Prop
 | .empty=>H p=some (.tup [vS oG])
 | .fence=>H p=some (.tup [vS bV])
 | .quote r=>H p=some (.tup [vS cU,vS r])
 | .heading lv w=>H p=some (.tup [vS b0, .int lv,vS w])
 | .cells ts=>∃q,H p=some (.tup [vS gq, .ref q])/\H q=some 14#(0#fT)
 | .note n w=>H p=some (.tup [vS lE,vS n,vS w])
 | .name n t=>H p=some (.tup [vS jJ,vS n,vS t])
 | .item far sg w=>H p=some (.tup [vS mU, .int far,vS [sg],vS w])
 | .plain far w=>H p=some (.tup [vS ia, .int far,vS w])
def DefV (K:Frag)(H:Hp)(v:V):Option Srt->Prop
 |none=>v = .non
 |some d=>∃p,v = .ref p/\SrtAt K H p d
def Tells (t:TT)(σ:St)(H:Hp)(a:Bool):Prop:=∀R:Bool->Hp->Prop,(∀H',0#T->R a H')->9#m R
def dF {t u:TT}{σ:St}{H:Hp}(a b:Bool)(ht:0#bl a)(hu:a=true->∀H1,4#L H1->Tells u σ H1 b):Tells (tAnd t u) σ H (a&&b):=by
 intro R k;refine ht _ λH1 s1=>?_;cases a with
 |true=>exact hu rfl H1 s1 R λH' s'=>k H' (s1.trans s')
 |false=>exact k H1 s1
def t_or {t u:TT}{σ:St}{H:Hp}(a b:Bool)(ht:0#bl a)(hu:a=false->∀H1,4#L H1->Tells u σ H1 b):Tells (tOr t u) σ H (a||b):=by
 intro R k;refine ht _ λH1 s1=>?_;cases a with
 |false=>exact hu rfl H1 s1 R λH' s'=>k H' (s1.trans s')
 |true=>exact k H1 s1
def iT {t:TT}{σ:St}{H:Hp}(a:Bool)(ht:0#bl a):Tells (tNot t) σ H (!a):=λR k=>ht _ λH1 s1=>k H1 s1
def s_if {t:TT}{f g:TS}{D:Ends}{σ:St}{H:Hp}(a:Bool)(ht:0#bl a)(k1:∀H',0#T->a=true->f D σ H')(k2:∀H',0#T->a=false->g D σ H'):tIfS t f g D σ H:=
 ht _ λH' s'=>ite2 (k1 H' s') λc=>k2 H' s' (1#s c)
def fG {K:Frag}{te:TE}{σ:St}{H:Hp}{y:Str}(l z:0#a)(hl:0#L<=1000000)(ey:y=S z)(he:∀R':VK,R' (vS l) H->te σ H R'):
  Tells (tB (tBM K "str" 0#es te 108#(tC 82#y))) σ H (z.isPrefixOf l):=by
 intro R k;refine he _ ⟨rfl,_,_,rfl,rfl,4#a,_,rfl,?_⟩;rw[ey,gE];exact k H 18#H
section
variable {P:1#E}{w:World}{K:Frag}{mg:Str->0#B}{base:Heap}
inductive spDef (K:Frag)(vs:0#t)(H:Hp)(Q:VK)(u3:XK):Prop
 |mk (l:List Nat)(_:vs=[vS l])(_:l.length<=1000000)(_:∀v H',Same H H'->DefV K H' v (defC l)->Q v H')
inductive spItem (K:Frag)(vs:0#t)(H:Hp)(Q:VK)(u3:XK):Prop
 |mk (l:List Nat)(_:vs=[vS l])(_:l.length<=1000000)(_:∀p H',Same H H'->SrtAt K H' p (fA l)->Q (.ref p) H')
inductive spSort (K:Frag)(vs:0#t)(H:Hp)(Q:VK)(u3:XK):Prop
 |mk (l:List Nat)(_:vs=[vS l])(_:l.length<=1000000)(_:∀p H',Same H H'->SrtAt K H' p (aL l)->Q (.ref p) H')
def t_eq {te:TE}{σ:St}{H:Hp}{y:Str}(a b:0#a)(ey:y=S b)(he:∀R':VK,R' (vS a) H->te σ H R'):Tells 112#(tOp rEq te 0#ev) σ H 28#(a=b):=by
 intro R k;refine he _ 0#ce;have:decide (vS a=V.str y)=decide (a=b):=by
  rw[ey];exact 2#F ⟨λh=>dt 102#h,λh=>by rw[h]⟩
 rw[this];exact k H 18#H
inductive spMixed (vs:0#t)(H:Hp)(Q:VK)(u3:XK):Prop
 |mk (c k:Int)(_:vs=[.int c, .int k])(_:0<=k)(_:k<=100)(_:∀i:Int,0<=i->Q (.int i) H)
end
def mV {a b:0#a}(h:Asc a)(k:Asc b):Asc (a++b):=λc hc=>by
 rcases 2#n hc with hc |hc
 ·exact h c hc
 ·exact k c hc
def qp {H:Hp}{l:0#a}{i:Int}{Q:VK}(hl:0#L<=1000000)(h0:0<=i)(h1:i < (l.length:Nat))(k:Q (vS [l.getD i.toNat 0]) H):rIxS (vS l) 21#i H Q:=by
 have e:=at_S (l:=l) (i:=i.toNat) nofun;rw[show ((i.toNat:Nat):Int)=i by omega] at e;exact⟨_,i,_,rfl,rfl,4#a,e,k⟩
def t_ne {te:TE}{σ:St}{H:Hp}{y:Str}(a b:0#a)(ey:y=S b)(he:∀R':VK,R' (vS a) H->te σ H R'):Tells 112#(tOp rNe te 0#ev) σ H 28#(a≠b):=by
 intro R k;refine he _ 0#ce;have:(!decide (vS a=V.str y))=decide (a≠b):=by
  rw[ey,<- decide_not];exact 2#F 0#cj
 rw[this];exact k H 18#H
def mW (xs:0#m)(x:0#a):atI ((xs++[x]).map vS) (-1)=some (vS x):=by
 rw[l14];exact ol _ _
def mX (xs:0#m)(x:0#a):ixN ((xs++[x]).map vS).length (-1)=some xs.length:=by
 unfold ixN;rw[l4,l6,l97,0#z ∅,1#d nofun];congr 1;omega
def oH (xs:0#m)(x y:0#a):((xs++[x]).map vS).set xs.length (vS y)=(xs++[y]).map vS:=by
 rw[l14,l14,List.set_append_right _ _ 0#h];simp
def Ev (te:TE)(σ:St)(H:Hp)(v:V):Prop:=∀R:VK,R v H->te σ H R
def EvO (t:TO)(σ:St)(H:Hp)(o:1#W):Prop:=∀R:1#W->Hp->Prop,R o H->9#m R
section
variable {σ:St}{H:Hp}{ta tb:TE}{i j:Int}{a b l:0#a}{v:V}
def ev_v {k:Nat}(h:σ[k]? = some 23#v):Ev 44#k σ H v:=λR r=>⟨v,h,r⟩
def ev_c:Ev (tC v) σ H v:=λR r=>r
def wR {y:Str}(e:y=S b):Ev 0#ev σ H (vS b):=λR r=>by rw[e];exact r
def rP {g:Int->Int->V}(h1:5#B 21#i)(h2:Ev tb σ H 21#j)(e:g i j=v):Ev 88#(rI0 g) σ H v:=λR r=>h1 _ (h2 _ ⟨i,j,rfl,rfl,by rw[e];exact r⟩)
def BM {g:Int->V}(h1:5#B 21#i)(e:g i=v):Ev (tUn (rU g) ta) σ H v:=λR r=>h1 _ ⟨i,rfl,by rw[e];exact r⟩
def AN (hl:0#L<=1000000)(h1:5#B (vS l))(h2:Ev tb σ H 21#i)(h0:0<=i)(hi:i < (l.length:Nat)):Ev 88#rIxS σ H (vS [l.getD i.toNat 0]):=λR r=>h1 _ (h2 _ (qp hl h0 hi r))
def BP:EvO mJ σ H none:=λR r=>r
def jK (h:5#B 21#i):EvO (tPart ta) σ H 23#i:=λR r=>h _ ⟨i,rfl,r⟩
def rQ {tl th:TO}{lo hi:1#W}(hl:0#L<=1000000)(h1:5#B (vS l))(h2:EvO tl σ H lo)(h3:EvO th σ H hi)(e:cutL l lo hi=a):Ev (tSl rSlS ta tl th) σ H (vS a):=λR r=>
 h1 _ (h2 _ (h3 _ ⟨_,rfl,4#a,by rw[eO,e];exact r⟩))
def cV (h1 : Ev ta σ H 21#i) (h2 : Ev tb σ H 21#j) : Tells 112#88#rEq σ H 28#(i = j) := fun R k => h1 _ (h2 _ ⟨rfl,_,rfl,by
 rw[show decide (V.int i=V.int j)=decide (i=j) from 2#F ⟨λh=>V.int.inj h,λh=>by rw[h]⟩];exact k H 18#H⟩)
def cx {g:Int->Int->V}{c:Bool}(h1:5#B 21#i)(h2:Ev tb σ H 21#j)(e:g i j = .bl c):Tells (tTest 88#(rI0 g)) σ H c:=λR k=>h1 _ (h2 _ ⟨i,j,rfl,rfl,_,e,k H 18#H⟩)
def t_in (c:Nat)(h1:5#B (vS [c]))(h2:Ev tb σ H (vS l)):Tells 112#88#R_op_in_str σ H (l.contains c):=λR k=>
 h1 _ (h2 _ ⟨_,_,rfl,rfl,_,rfl,by rw[f6];exact k H 18#H⟩)
end
def cy {c:TT}{tb:TS}{D:Ends}{σ:St}{H:Hp}(Pv:Nat->St->Hp->Prop)(m0:Nat)(h0:Pv m0 σ H)
  (hs:∀m σ H,Pv m σ H->∃a,Tells c σ H a/\(a=true->∀H',0#T->tb { D with nx:=λσ' H'=>∃m',m' < m/\Pv m' σ' H',ct:=λσ' H'=>∃m',m' < m/\Pv m' σ' H',bk:=D.nx } σ H')/\(a=false->∀H',0#T->D.nx σ H')):tWhile c tb D σ H:=by
 refine⟨Pv,⟨m0,h0⟩,λm σ H p=>?_⟩;obtain⟨a,ht,h1,h2⟩:=hs m σ H p;exact ht _ λH' s'=>ite2 (λc=>⟨λσ' H'=>∃m',m' < m/\Pv m' σ' H',λσ' H' h=>h,h1 c H' s'⟩) λc=>h2 (1#s c) H' s'
def vz (l:0#a):cutL l none 23#(-1)=l.dropLast:=by
 unfold cutL;have e:8#K 23#(-1)=0#L - 1:=by unfold b6;show 75
 rw[e,List.dropLast_eq_take];rfl
def jL (y x:0#a):y <+: x ↔ x.take 5#u=y:=by
 rw[l79];exact⟨λh=>h.symm,λh=>h.symm⟩
def vA {l:0#a}(h:∀k,k < 0#L->(l.drop k).take 3≠[93,58,32]):fY 7#p l=none:=by
 rw[fZ];rintro i ⟨hi,hp⟩;rw[jL] at hp;rcases Nat.lt_or_ge i 0#L with z |z
 ·exact h i z hp
 ·rw[l73 z] at hp;cases hp
def yw {l:0#a}{i:Nat}(hi:i<=0#L)(h:∀k,k < i->(l.drop k).take 3≠[93,58,32])(e:(0#fi).take 3=7#p):fY 7#p l=some i:=by
 rw[eg];refine 147#⟨hi,(jL _ _).mpr e⟩;rintro k hk ⟨_,hp⟩;exact h k hk ((jL _ _).mp hp)
def AscS:Srt->Prop
 | .empty=>True
 | .fence=>True
 | .quote r=>Asc r
 | .heading _ w=>Asc w
 | .cells ts=>∀t∈ts,Asc t
 | .note n w=>Asc n/\Asc w
 | .name n t=>Asc n/\Asc t
 | .item _ sg w=>sg < 128/\Asc w
 | .plain _ w=>Asc w
def jM {l:0#a}(h:Asc l)(a b:Nat):Asc ((l.drop a).take b):=(h.drop a).take b
def vB {l:0#a}(h:Asc l):AscS (aL l):=by
 have hb:=h.bare;show 18;split
 ·trivial
 split
 ·unfold dz;split <;> exact h.drop _
 split
 ·trivial
 split
 ·exact(hb.drop _).tidy
 split
 ·intro t ht;exact(jM hb _ _).cells ht
 have hi:AscS (fA (bN l)):=by
  show 76;split
  ·refine⟨?_,((hb.dw _).drop _).tidy⟩;cases hd:(bN l).dropWhile ([32]:0#a).contains with
   |nil=>decide
   |cons x r=>exact(hb.dw ([32]:0#a).contains) x (by rw[hd];exact l7 ..)
  ·exact(hb.dw _).tidy
 cases hd:defC (bN l) with
 |none=>exact hi
 |some d=>
  unfold defC at hd;split at hd
  ·cases hd
  ·split at hd
   ·cases hd
   split at hd
   ·cases hd;exact⟨(jM hb _ _).small,(hb.drop _).tidy⟩
   split at hd
   ·cases hd;refine⟨(jM hb _ _).small,?_⟩;cases hw:ax ((bN l).drop _) with
    |nil=>exact λc hc=>by cases hc
    |cons x r=>exact(hb.drop _).word (by rw[hw];exact l7 ..)
   ·cases hd
def BQ:Srt->Option 16#Nat
 | .heading _ w=>some w
 | .note _ w=>some w
 | .item _ _ w=>some w
 | .plain _ w=>some w
 |_=>none
def bT:Srt->List Nat
 | .empty=>oG
 | .fence=>bV
 | .quote _=>cU
 | .heading _ _=>b0
 | .cells _=>gq
 | .note _ _=>lE
 | .name _ _=>jJ
 | .item _ _ _=>mU
 | .plain _ _=>ia
inductive Flat (K:Frag) (H:Hp):V->Prop where
 |int (i:Int):Flat K H (.int i)
 |str (x:Str):Flat K H (.str x)
 |lst {q:Addr} {xs:List V}:H q=some (.lst xs)->Flat K H (.ref q)
theorem SrtAt.parts {K:Frag}{H:Hp}{p:Addr}:∀{r:Srt},0#fH r->∃ys,H p=some (.tup (vS (bT r)::ys))/\(∀y∈ys,Flat K H y)/\∀w,BQ r=some w->∃zs,ys=zs++[vS w]
 | .empty,h=>⟨[],h,1#F,1#F⟩
 | .fence,h=>⟨[],h,1#F,1#F⟩
 | .quote r,h=>⟨[vS r],h,λy z=>by rw[show y=vS r by simpa using z];exact .str _,λ_ z=>0#k⟩
 | .heading lv w, h => ⟨[.int lv,vS w],h,λy z=>by
   rcases 1#y z with rfl |z
   ·exact .int _
   ·show 71;exact .str _,λu z=>⟨[.int lv],by cases z;rfl⟩⟩
 | .cells ts,⟨q,h,hq⟩=>⟨[.ref q],h,λy z=>by rw[show y = .ref q by simpa using z];exact .lst hq,λ_ z=>0#k⟩
 | .note n w, h => ⟨[vS n,vS w],h,λy z=>by
   rcases 1#y z with rfl |z
   ·exact .str _
   ·show 71;exact .str _,λu z=>⟨[vS n],by cases z;rfl⟩⟩
 | .name n t, h => ⟨[vS n,vS t],h,λy z=>by
   rcases 1#y z with rfl |z
   ·exact .str _
   ·rw[show y=vS t by simpa using z];exact .str _,λ_ z=>0#k⟩
 | .item far sg w, h => ⟨[.int far,vS [sg],vS w],h,λy z=>by
   rcases 1#y z with rfl |z
   ·exact .int _
   rcases 1#y z with rfl |z
   ·exact .str _
   ·show 71;exact .str _,λu z=>⟨[.int far,vS [sg]],by cases z;rfl⟩⟩
 | .plain far w, h => ⟨[.int far,vS w],h,λy z=>by
   rcases 1#y z with rfl |z
   ·exact .int _
   ·show 71;exact .str _,λu z=>⟨[.int far],by cases z;rfl⟩⟩
theorem SrtAt.same {K:Frag}{H H':Hp}{p:Addr}(e:0#T):∀{r:Srt},0#fH r->SrtAt K H' p r
 | .empty,h=>e _ _ h
 | .fence,h=>e _ _ h
 | .quote r,h=>e _ _ h
 | .heading lv w,h=>e _ _ h
 | .cells ts,⟨q,h,hq⟩=>⟨q,e _ _ h,e _ _ hq⟩
 | .note n w,h=>e _ _ h
 | .name n t,h=>e _ _ h
 | .item far sg w,h=>e _ _ h
 | .plain far w,h=>e _ _ h
abbrev bls (n:Nat):List Nat:=0#f n 32
def fH (c:Nat)(n:Nat):9#N 140#c (n:Int)=S (0#f n c):=by
 unfold Txt.mul;by_cases h:(n:Int) < 1
 ·rw[1#d h];have:n=0:=by omega
  subst this;rfl
 ·rw[0#z h];by_cases h1:n=1
  ·subst h1;rfl
  ·rw [0#z (by
    rw[7#Y];rintro(z |z)
    ·have:(n:Int)=1:=by simpa using z
     omega
    ·rw[aw] at z;simp at z)]
   have a2:∀(m:Nat) (a1:List Nat),List.foldl 0#de a1.toArray (0#f m (S [c]).cps)=(a1++0#f m c).toArray:=by
    intro m
    induction m with
    |zero=>intro a1;simp
    |succ m ih=>
     intro a1;rw[l33,l89];have e:7#z++(S [c]).cps=(a1++[c]).toArray:=by simp
     rw[e,ih (a1++[c]),l33];simp
   have:=a2 n [];rw[show (n:Int).toNat=n by omega];simp only[l38] at this;rw[show (#[]:Array Nat)=([]:0#a).toArray from rfl,this]
theorem jf (c:Nat)(r:0#a):∀l:0#a,aG c (l++c::r)=aG c l++aG c r
 | []=>by rw[l38,aZ];rfl
 |x::l=>by
  have ih:=jf c r l;rw[l28];by_cases h:x=c
  ·subst h;rw[aZ,aZ,ih];rfl
  ·obtain⟨p,t,e1,e2⟩:=aV c x l h;obtain⟨p',t',e3,e4⟩:=aV c x (l++c::r) h;rw[e4,e2];rw[e1,e3] at ih;cases ih;rfl
def lF (l r:0#a):ax (l++32::r)=ax l++ax r:=by
 unfold ax;rw[jf,List.filter_append]
theorem bh (r:0#a):∀n:Nat,ax (bls n++r)=ax r
 |0=>rfl
 |n+1=>by
  rw[bls,l33,l28,cY];exact bh r n
def lG (l r:0#a)(n:Nat):ax (l++bls (n+1)++r)=ax l++ax r:=by
 rw[l19,bls,l33,l28,lF];rw[show 0#f n 32++r=bls n++r from rfl,bh]
def cL {x:0#a}(n:Nat)(h:x.getLastD 0≠32):bN (x++bls n)=x:=by
 unfold bN cr;rw[l90,bls,List.reverse_replicate];have a1:∀m:Nat,(0#f m 32++x.reverse).dropWhile ([32]:0#a).contains=x.reverse.dropWhile ([32]:0#a).contains:=by
  intro m
  induction m with
  |zero=>rfl
  |succ m ih=>rw[l33,l28,l98 ∅];exact ih
 rw[a1];rcases l48 x with rfl |⟨q,y,rfl⟩
 ·rfl
 ·rw[l55] at h ⊢;rw[l90];have hy:y≠32:=by simpa using h
  show ((y::q.reverse).dropWhile ([32]:0#a).contains).reverse=q++[y];rw[l99 (by simpa using hy)];simp
def bB {a b:0#a}(h:b≠[]):(a++b).getLastD 0=b.getLastD 0:=by
 rcases l48 b with rfl |⟨q,y,rfl⟩
 ·exact 0#A rfl h
 ·rw[l55,<- l19];simp
def lH {l b:0#a}(hb:bN l=b)(hn:b≠[])(h:∀x,b[0]? = some x->x≠62/\x≠126/\x≠61/\x≠124/\x≠91):aL l=fA b:=by
 obtain⟨x,r,rfl⟩:∃x r,b=x::r:=by
  cases b with
  |nil=>exact 0#A rfl hn
  |cons x r=>exact⟨x,r,rfl⟩
 obtain⟨h1,h2,h3,h4,h5⟩:=h x rfl;have hl:cf (x::r)=0:=by
  unfold cf;rw[l93 (by simpa using h3)];rfl
 have hh:cw (x::r)=0:=by unfold cw;rw[hl];split <;> rfl
 have hd:defC (x::r)=none:=by
  unfold defC;split
  ·rfl
  ·rw[1#d (by rw[pre1];intro z;exact h5 (1#w z))]
 show 18;rw[hb,0#z 0#h,0#z (by rw[pre1];intro z;exact h1 (1#w z)),0#z (by intro z;cases z;exact h2 rfl),0#z 0#da,0#z,hd];unfold bA;intro z;rw[0#r,0#r,pre1] at z;exact h4 (1#w z.1.2)
def AO (n c:Nat)(r:0#a)(h:r.headD 0≠c)(hc:c≠0):(0#f n c++r).takeWhile ([c]:0#a).contains=0#f n c:=by
 induction n with
 |zero=>
  cases r with
  |nil=>rfl
  |cons x r=>
   show (x::r).takeWhile _=[];rw[l93 4#d]
 |succ n ih=>rw[l33,l28,List.takeWhile_cons_of_pos 0#h,ih]
def wS (n c:Nat)(r:0#a)(h:r.headD 0≠c)(hc:c≠0):(0#f n c++r).dropWhile ([c]:0#a).contains=r:=by
 induction n with
 |zero=>
  cases r with
  |nil=>rfl
  |cons x r=>
   show (x::r).dropWhile _=x::r;rw[l99 4#d]
 |succ n ih=>rw[l33,l28,l98 0#h,ih]
structure Wds (neat loose:0#a):Prop where
 e:neat=aN loose
 ne:loose≠[]
 l:loose.getLastD 0≠32
section
variable {neat loose:0#a}
def rR (W:Wds neat loose)(far k n sg:Nat)(hs:sg=45 ∨ sg=43):aL (bls far++[sg]++bls (k+1)++loose++bls n) = .item far sg neat:=by
 have hb:=cL (x:=bls far++[sg]++bls (k+1)++loose) n 0#bA;have e0:bls far++[sg]++bls (k+1)++loose=bls far++(sg::0#bU):=by simp
 have a1:(bls far++[sg]++bls (k+1)++loose).dropWhile ([32]:0#a).contains=sg::0#bU:=by
  rw[e0];exact wS far 32 _ (show sg≠32 by rcases hs with rfl |rfl <;> decide) ∅
 rw[lH hb 0#h ?_]
 ·show 76;rw[a1,1#d]
  ·have e1:(bls far++[sg]++bls (k+1)++loose).length - (sg::0#bU).length=far:=by
    rw[e0,l6,bls,l23];omega
   rw[e1,W.e];congr 1;unfold aN;congr 1;show ax ((bls (k+1)++loose).drop 1)=ax loose;rw[bls,l33,l28,List.drop_one,List.tail_cons];exact bh loose k
  ·rw[pre2,pre2];have e2:(sg::0#bU)[1]? = some 32:=by
    rw[bls,l33];rfl
   rcases hs with rfl |rfl
   ·exact .inl 89#e2
   ·exact .inr 89#e2
 ·intro x hx;rw[e0] at hx;cases far with
  |zero=>rcases hs with rfl |rfl <;> cases hx <;> decide
  |succ k=>rw[bls,l33] at hx;cases hx;decide
def lI (W:Wds neat loose)(lv k n:Nat)(h1:1<=lv)(h3:lv<=3):aL (6#C++bls (k+1)++loose++bls n) = .heading lv neat:=by
 have hb:=cL (x:=6#C++bls (k+1)++loose) n 0#bA;have e0:6#C++bls (k+1)++loose=6#C++(32::(bls k++loose)):=by rw[bls,l33];simp
 have hl:cf (6#C++bls (k+1)++loose)=lv:=by
  unfold cf;rw[e0,AO lv 61 (32::(bls k++loose)) (show (32:Nat)≠61 by decide) ∅,l23]
 have a1:(6#C++bls (k+1)++loose).drop lv=32::(bls k++loose):=by
  rw[e0,l71 0#h];simp
 have hh:cw (6#C++bls (k+1)++loose)=lv:=by
  unfold cw;rw[hl,0#z];rintro(z |z)
  ·omega
  ·rw[a1,pre1] at z;exact z rfl
 have h0:(6#C++bls (k+1)++loose)[0]? = some 61:=by
  obtain⟨m,rfl⟩:∃m,lv=m+1:=⟨lv - 1,by omega⟩;rw[l33];rfl
 show 18;rw[hb,0#z (by simp[W.ne]),0#z (by rw[pre1,h0];intro z;cases z),0#z (by intro z;rw[z] at h0;cases h0),1#d 0#da,hh,a1,W.e];congr 1;unfold aN;rw[cY,bh]
def lJ (pre name r:0#a)(hp:∀c∈pre,c≠93)(hn:∀c∈name,c≠93):fY 7#p (pre++name++[93,58,32]++r)=some (0#bn+3#J):=by
 have e:pre++name++[93,58,32]++r=(pre++name)++(7#p++r):=by simp
 refine yw ?_ (λk hk z=>?_) ?_
 ·simp only[l6];omega
 ·have h1:(pre++name++[93,58,32]++r)[k]? = some 93:=by
   have:=2#u (λt=>t[0]?) z;show 28
  rw[e,3#l 7#V] at h1;rcases 2#n 125#h1 with z |z
  ·exact hp 93 z rfl
  ·exact hn 93 z rfl
 ·rw[e,<- l6,l43];rfl
def lK {name:0#a}(h:aE name=true):(∀c∈name,c≠93)/\name[0]? ≠ some 94/\name≠[]/\3#J<=12:=by
 unfold aE at h;rw[0#r,0#r] at h;have a1:∀x∈nameSigns,x≠93/\x≠94:=by decide
 have hm:∀c∈name,c∈nameSigns:=λc hc=>l83.mp (l39.mp h.2 c hc);refine⟨λc hc=>(a1 c (hm c hc)).1,λz=>(a1 94 (hm 94 125#z)).2 rfl,λz=>?_,0#s h.1.2⟩;have:=0#s h.1.1;rw[z] at this;cases this
def mY {l b:0#a}(hb:bN l=b)(h:b[0]? = some 91):aL l=match defC b with |some d=>d |none=>fA b:=by
 obtain⟨r,rfl⟩:∃r,b=91::r:=by
  cases b with
  |nil=>cases h
  |cons x r=>cases h;exact 24#r
 have hl:cf (91::r)=0:=by
  unfold cf;rw[l93 ∅];rfl
 have hh:cw (91::r)=0:=by unfold cw;rw[hl];split <;> rfl
 have hc:¬ bA (91::r)=true:=by
  unfold bA;intro z;rw[0#r,0#r,pre1] at z;cases z.1.2
 show 18;rw[hb,0#z 0#h,0#z (by rw[pre1];intro z;cases z),0#z (by intro z;cases z),0#z 0#da,0#z hc]
 all_goals (cases defC (91::r) <;> rfl)
def rS (W:Wds neat loose)(name:0#a)(hn:aE name=true)(m n:Nat):aL (3#f++name++[93,58,32]++bls m++loose++bls n) = .note 9#s neat:=by
 obtain⟨a2,h94,hne,hle⟩:=lK hn;have hb:=cL (x:=3#f++name++[93,58,32]++bls m++loose) n 0#bA;have e0:[91,94]++name++[93,58,32]++bls m++loose=3#f++name++[93,58,32]++(bls m++loose):=by simp
 have hf:=lJ 3#f name (bls m++loose) ∅ a2;rw[<- e0] at hf;have a4:[91].isPrefixOf 8#o=true:=by rw[pre1];rfl
 have a3:[91,94].isPrefixOf 8#o=true:=by rw[pre2];exact 6#O
 have ht:((3#f++name++[93,58,32]++bls m++loose).drop 2).take ([91,94].length+3#J - 2)=name:=by
  show (name++[93,58,32]++bls m++loose).take _=name;rw[show [91,94].length+3#J - 2=3#J by show 2+3#J - 2=_;omega];simp only[l19];exact l51 ..
 have hd:(3#f++name++[93,58,32]++bls m++loose).drop ([91,94].length+3#J+3)=bls m++loose:=by
  have:[91,94]++name++[93,58,32]++bls m++loose=(3#f++name++[93,58,32])++(bls m++loose):=by simp
  rw[this,show [91,94].length+3#J+3=(3#f++name++[93,58,32]).length by simp;omega,l43]
 have a1:defC 8#o=some (.note 9#s neat):=by
  show 48;rw[0#z (by rw[a4];simp),ht,hd,1#d ⟨a3,hn⟩,bh,W.e];rfl
 rw[mY hb rfl,a1]
def rT (name:0#a)(hn:aE name=true)(t:0#a)(ht0:t≠[])(ht:32∉t)(m n:Nat):aL ([91]++name++[93,58,32]++bls m++t++bls n) = .name 9#s t:=by
 obtain⟨a6,a3,a5,hle⟩:=lK hn;have a1:t.getLastD 0≠32:=by
  rcases l48 t with z |⟨q,y,z⟩
  ·exact 0#A z ht0
  ·rw[l55] at z;rw[z] at ht ⊢;intro w;apply ht;have:y=32:=by simpa using w
   rw[this];simp
 have hb:=cL (x:=[91]++name++[93,58,32]++bls m++t) n (by rw[bB ht0];exact a1);have e0:[91]++name++[93,58,32]++bls m++t=[91]++name++[93,58,32]++(bls m++t):=by simp
 have hf:=lJ [91] name (bls m++t) ∅ a6;rw[<- e0] at hf;have a7:[91].isPrefixOf 9#d=true:=by rw[pre1];rfl
 have a4:¬ [91,94].isPrefixOf 9#d=true:=by
  rw[pre2];rintro⟨_,z⟩;apply a3;cases name with
  |nil=>exact 0#A rfl a5
  |cons x r=>exact z
 have htk:(([91]++name++[93,58,32]++bls m++t).drop 1).take ([91].length+3#J - 1)=name:=by
  show (name++[93,58,32]++bls m++t).take _=name;rw[show [91].length+3#J - 1=3#J by show 1+3#J - 1=_;omega];simp only[l19];exact l51 ..
 have hd:([91]++name++[93,58,32]++bls m++t).drop ([91].length+3#J+3)=bls m++t:=by
  have:[91]++name++[93,58,32]++bls m++t=([91]++name++[93,58,32])++(bls m++t):=by simp
  rw[this,show [91].length+3#J+3=([91]++name++[93,58,32]).length by simp;omega,l43]
 have a2:defC 9#d=some (.name 9#s t):=by
  show 48;rw[0#z (by rw[a7];simp),htk,hd,0#z (λz=>a4 z.1),bh,cS t ht ht0,1#d 24#hn];rfl
 rw[mY hb rfl,a2]
def jg (n:Nat):aL (3#m++bls n) = .fence:=by
 have hb:=cL (x:=3#m) n ∅;show 18;rw[hb,0#z ∅,0#z ∅,1#d rfl]
def qr {l:0#a}(h:l[0]? = some 62):aL l = .quote (dz l):=by
 obtain⟨t,e,ht,hh⟩:=du ([32]:0#a).contains l;have e:l=bN l++t:=e;have hn:bN l≠[]:=λz=>by
  have:=(ly l).mp z 62 125#h;cases this
 have h0:(bN l)[0]? = some 62:=by
  cases hb:bN l with
  |nil=>exact 0#A hb hn
  |cons x r=>rw[hb] at e;rw[e] at h;exact h
 show 18;rw[0#z hn,1#d ((pre1 _ _).mpr h0)]
def vC (r:0#a):dz (62::32::r)=r:=by unfold dz;rw[1#d (by rw[pre2];exact 6#O)];rfl
def yx (r:0#a)(h:r[0]? ≠ some 32):dz (62::r)=r:=by
 unfold dz;rw[0#z (by rw[pre2];exact λz=>h z.2)];rfl
def yy (r:0#a):aA 124 r=aA 0 r:=by
 cases r with
 |nil=>rfl
 |cons x r=>
  rw[aA,aA];have:(x=124/\(124:Nat)≠92) ↔ (x=124/\(0:Nat)≠92):=⟨λh=>⟨h.1,by decide⟩,λh=>⟨h.1,by decide⟩⟩;by_cases h:x=124
  ·rw[1#d ⟨h,by decide⟩,1#d ⟨h,by decide⟩]
  ·rw[0#z (λz=>h z.1),0#z (λz=>h z.1)]
theorem lL:∀(a r:List Nat) (p:Nat),(p::a).getLastD 0≠92->aA p (a++124::r)=aA p a++aA 0 r
 | [],r,p,h=>by
  have hp:p≠92:=by simpa using h
  show (if (124:Nat)=124/\p≠92 then []::aA 124 r else _)=_;rw[1#d 89#hp,yy];rfl
 |x::a,r,p,h=>by
  have ih:=lL a r x 4#d;rw[l28,aA,aA,ih];split
  ·rfl
  ·cases hc:aA x a with
   |nil=>exact 0#A hc (cZ a x)
   |cons y z=>rfl
def yz (a r:0#a)(h:a.getLastD 0≠92):bv (a++124::r)=bv a++bv r:=by
 unfold bv;refine lL a r 0 ?_;cases a with
 |nil=>decide
 |cons x a=>simpa using h
def qt {k6:0#a}(hl:k6.getLastD 0≠92)(n:Nat):aL ([124]++k6++[124]++bls n) = .cells (cT k6):=by
 have hb:=cL (x:=[124]++k6++[124]) n (by rw[bB 0#h];decide);have a1:cf ([124]++k6++[124])=0:=by
  unfold cf;show ((124::(k6++[124])).takeWhile _).length=0;rw[l93 ∅];rfl
 have hh:cw ([124]++k6++[124])=0:=by unfold cw;rw[a1];split <;> rfl
 have w6:([124]++k6++[124]).length=k6.length+2:=by simp
 have hc:bA ([124]++k6++[124])=true:=by
  unfold bA;rw[w6,1#f (show 2<=k6.length+2 by omega),(pre1 _ _).mpr rfl,3#Q,3#Q];rw[show k6.length+2 - 1=([124]++k6).length by simp,oB];refine 1#f ⟨rfl,?_⟩;rcases l48 k6 with z |⟨q,y,z⟩
  ·rw[z];decide
  ·rw[bB (by rw[z];simp)];exact hl
 have a2:(([124]++k6++[124]).drop 1).take (([124]++k6++[124]).length - 2)=k6:=by
  rw[w6];show (k6++[124]).take (k6.length+2 - 2)=k6;rw[l82];exact l51 ..
 show 18;rw[hb,0#z 0#h,0#z (by rw[pre1];intro z;cases z),0#z (by intro z;cases z),0#z 0#da,1#d hc,a2]
end
def ib {n:Nat}{k:Nat}{fr:0#a}{g:TG}{tt:TT}{te:TE}{σ:St}{H0:Hp}{Q:Addr->Hp->Prop}(lo:Int)(Pr:V->Prop)(hl:n<=sizeLine)
  (ht:∀i,i < n->∀H',3#q->∀(C:V->Hp->Prop)(N:Hp->Prop),(∀v H4,7#x->Pr v->C v H4) →
   g 21#(lo+(i:Nat)) 81#k H' λσ2 H2=>3#h/\tt σ2 H2 λb H3=>if b=true then te σ2 H3 C else N H3)
  (hq:∀D H' ys,H0 D=none->3#q->H' D=some 14#ys->3#o=n->(∀y∈ys,Pr y)->Q D H'):3#e (Itr lo n) H0 Q:=by
 intro D hD;refine⟨λi m a1 H=>m=n - i/\i<=n/\6#E=i/\(∀y∈a1,Pr y)/\H D=some 14#a1/\Same H0 H,⟨n,by simp,4#r,rfl,1#F,ac,ad hD _⟩,?_⟩;rintro i m a1 H ⟨rfl,hi,ha,hP,a2,sm⟩;refine 147#a2;by_cases hlt:i < n
 ·refine .inr 147#hlt;rintro x H' ⟨rfl,rfl⟩;refine ht i hlt _ sm _ _ λv H4 s4 pv=>?_;refine⟨4#k a2,by omega,n - (i+1),by omega,rfl,hlt,by rw[l6,ha];rfl,?_,ac,aj hD 9#t⟩;intro z hz;rcases 2#n hz with hz |hz
  ·exact hP z hz
  ·rw[show z=v by simpa using hz];exact pv
 ·exact .inl ⟨by show n<=i;omega,hq D H a1 hD sm a2 nofun hP⟩
theorem jh:∀cs:List Nat,ao [] (cs.map λc=>[c])=cs
 | []=>rfl
 | [c]=>rfl
 |c::d::cs=>by
  have ih:=jh (d::cs);rw[l16,5#v,ih];rfl
def qu (cs:0#a):Txt.join (0#e "") (cs.map λc=>S [c])=S cs:=by
 have h:=cq [] (cs.map λc=>[c]);rw[l20,jh] at h;exact h
theorem jN {p:0#a->Prop}:∀{ys:List V},(∀y∈ys,∃l,y=vS l/\p l)->∃ls:0#m,ys=ls.map vS/\∀l∈ls,p l
 | [],_=>⟨[],rfl,λ_ z=>0#k⟩
 |y::ys,h=>by
  obtain⟨l,e,pl⟩:=h y (l7 ..);obtain⟨ls,e2,hp⟩:=jN (ys:=ys) λz hz=>h z 38#hz;refine⟨l::ls,by rw[e,e2];rfl,?_⟩;intro x hx;rcases 1#y hx with rfl |hx
  ·exact pl
  ·exact hp x hx
def AQ {σ:St}{H:Hp}{ta:TE}{i m:Int}(hm:0 < m)(h:5#B 21#i):Ev (tOp 0#dI ta (tC 21#m)) σ H 21#(i % m):=λR r=>h _ ⟨i,m,rfl,rfl,hm,r⟩
end Lw
namespace L2
open PySem PySem.Spec PyProof.Rows
section
variable {X:Cx}{c P:Addr}{k i:Nat}{x name:Str}{ps:0#O}{e:Expr}{es:1#Z}{t:TA}{p pos:Pos}{params:Arguments}{body:5#G}{scope:Scope}{qs:List (Pos×Str)}
def ji (hst:aK 1#Y=true):cQ e=false/\aK es=true:=by
 show 34;exact hst
end
end L2
namespace Lm
end Lm
namespace L2
open PySem PySem.Spec PyProof.Rows
section
variable {X:Cx}{k:Nat}{C:Addr}{x m f:Str}{ps:0#O}{sp:Sp}{e o value:Expr}{es:1#Z}{ta tv:TE}{t:TA}{p pos pos' w4:Pos}
def xfld (he:7#R e ta)(hb:cn e=true:=by rfl):7#R 0#fX (tFld X.K ta f):=⟨Ap he.h (base_of hb)⟩
def bi (ha:7#R o ta)(hv:7#R value tv)(hs:swapsWith value 23#(.Attribute o f pos') pos.line X.env=pure false:=by rfl):XS X 0#dG (sFld X.K ta tv f):=⟨Aq ha.h hv.h hs⟩
structure New (P:1#E)(w:World)(K:Frag)(mg:Str->0#B)(base:Heap)(k:Nat)(x:Str)(C:Addr)(ps:0#O)(sp:Sp):Prop where
 ex:∃f fd,Mk K C f/\FnOk P w K mg base CX0 k f fd ps sp/\mg x=0#fS/\Binds K fd ps []
def xnew (D:New X.prog X.w X.K X.mg X.base k x C ps sp)(hr:Room (k+1) X.A)(ha:0#cM)(hg:Gl X x:=by exact rfl) (hdb:0#v=false:=by decide) (hst:aK 1#Y=true:=by rfl):
  XE X 0#P (tMake C sp [] E0 t):=by
 obtain⟨f,fd,M,F,hm,hb⟩:=D.ex;exact⟨xV M F hr hg hm hb .nil yb ha.h hdb (bq (ji hst).1) (bK (ji hst).2)⟩
structure MethV (P:1#E)(w:World)(K:Frag)(mg:Str->0#B)(base:Heap)(k:Nat)(C:Addr)(m:Str)(ps:0#O)(sp:Sp):Prop where
 ex:∃f fd,Cls K C/\Meth K C m f/\FnOk P w K mg base CX0 k f fd ps sp/\Binds K fd ps []
def MethV.mono {P:1#E}{w:World}{K:Frag}{mg:Str->0#B}{base:Heap}{j k:Nat}{C:Addr}{m:Str}{ps:0#O}{sp:Sp}(V:4#A j C m ps sp)(h:j<=k):MethV P w K mg base k C m ps sp:=let ⟨f,fd,a,b,F,c⟩:=V.ex;⟨f,fd,a,b,F.mono h,c⟩
inductive tMethV.I (XP:1#E)(Xw:World)(XK:Frag)(Xm:Str->0#B)(Xb:Heap)(k:Nat)(m:Str)(t:TA)(σ:St)(Q:VK)(x:V)(H1:Hp):Prop
 |mk (a C dx fs ps sp)(_:x = .ref a)(_:H1 a=some (.ins C dx fs))(_:fs.lookup m=none)(_:MethV XP Xw XK Xm Xb k C m ps sp)(_:t σ H1 λvs H2=>sp (x::vs) H2 Q E0)
def tMethV (X:Cx)(k:Nat)(m:Str)(ta:TE)(t:TA):TE:=λσ H Q=>0#gH (tMethV.I X.prog X.w X.K X.mg X.base k m t σ Q)
def xmV0 {pl:Sem Bool}(he:7#R o ta)(hr:0#ag X.A)
  (ht : eval 9#X X.env = (do
   let ov ← eval o X.env
   standAt w4.atName
   let (f,first) ← holding [ov] (getMethod ov m pl)
   callWith pos f first (6#F (2#C [] X.env)) (backToKw pos (keywordEach [] X.env))):=by rfl):
  XE X 9#X (tMethV X k m ta tNil):=by
 refine⟨λw9 s σ H Q I h=>?_⟩;refine PySem.W.methodCall_KW (pl:=pl) (thn 29#he.h λu s1 zz=>?_) ht;obtain⟨x,H1,I1,rx,a,C,dx,fs,ps,sp,ex,ea,l,V,q⟩:=zz;subst ex;obtain rfl:u=Value.ref a:=rx;obtain⟨f,fd,c,hm,F,hb⟩:=V.ex;refine qa I1 ea c hm l ?_;exact PySem.W.callWith_K0 (first:=9#A) I1.kIn hm.kp (wJ (us:=9#A) (vs:=9#A) (ds:=[]) (dvs:=[]) F hr hb .nil yb I1 (.cons rfl .nil) (by rw[l12];exact q))
end
section
variable {X:Cx}{e:Expr}{te:TE}{x:Str}{pos:Pos}
def xaug {i:Nat}{op:Operator}{ti:TIp}{pos':Pos}(hN:6#g)(hi:X.N[i]? = some x)(hx:5#C)(he:0#dn)(ho:PIp X op ti)(hf:X.fn x=true ∨ X.env.scope.names.lookup x=some .local:=by first |exact .inl rfl |exact .inr rfl):
  XS X (.AugAssign 61#pos' op e pos) (tAug i te ti):=⟨Am hN hi hx he.h ho hf⟩
def yA:XS X (.Continue pos) Af:=⟨mF⟩
inductive rEq0 (K:Frag)(neg:Bool)(x y:V)(H:Hp)(Q:VK):Prop
 |mk (p q xs)(_:x = .ref p)(_:y = .ref q)(_:SqL K H p xs)(_:SqL K H q [])(_:Q (.bl (if neg then !xs.isEmpty else xs.isEmpty)) H)
def AR (hu:X.A.units+64 < cLine):OpR X (5#l .Eq) (rEq0 X.K false):=by
 show 4;obtain⟨p,q,xs,rfl,rfl,hp,hq,k⟩:=h;cases rx;cases ry;show 58;cases j9 with
 |cons _ _=>simp at e2
 |nil=>
 cases a2 with
 |nil=>
  cases xs with
  |cons _ _=>simp at e1
  |nil=>exact SeqAt.eq_listAt (e:=λ_=>true) pl.isList a1.isList rfl nofun 0#eO 107#k
 |cons _ _=>
  cases xs with
  |nil=>simp at e1
  |cons _ _=>exact SeqAt.eq_list_lengthsAt pl.isList a1.isList 0#h nofun 107#k
def oI (hu:X.A.units+64 < cLine):OpR X (5#l .NotEq) (rEq0 X.K true):=by
 show 4;obtain⟨p,q,xs,rfl,rfl,hp,hq,k⟩:=h;cases rx;cases ry;show 58;cases j9 with
 |cons _ _=>simp at e2
 |nil=>
 cases a2 with
 |nil=>
  cases xs with
  |cons _ _=>simp at e1
  |nil=>exact SeqAt.RcNeAt.lists (e:=λ_=>true) pl.isList a1.isList rfl nofun 0#eO _ _ _ _ 107#k
 |cons _ _=>
  cases xs with
  |nil=>simp at e1
  |cons _ _=>exact SeqAt.RcNeAt.lists_lengths pl.isList a1.isList 0#h nofun _ _ _ _ 107#k
end
end L2
namespace Lw
open PySem L2 Lm
def AS {K:Frag}{σ:St}{H:Hp}{ta:TE}{p:Addr}{xs:0#t}(h1:5#B 11#p)(hx:SqL K H p xs):Tells 112#(tOp (rEq0 K true) ta (tLst tNil)) σ H (!xs.isEmpty):=
 λR k=>h1 _ 7#B
def BR {K:Frag}{σ:St}{H:Hp}{ta:TE}{p:Addr}{xs:0#t}(h1:5#B 11#p)(hx:SqL K H p xs):Tells 112#(tOp (rEq0 K false) ta (tLst tNil)) σ H xs.isEmpty:=
 λR k=>h1 _ 7#B
end Lw
namespace L2
open PySem
open PySem.Spec PyProof.Rows
end L2
namespace Lm
open PySem PySem.Builtin PySem.Builtin.Str PySem.StrLaws
end Lm
namespace L2
open PySem PySem.Spec PyProof.Rows
end L2
namespace Lm
end Lm
namespace L2
open PySem PySem.Spec PyProof.Rows
def qv {K:Frag}{a:Addr}{xs:0#t}{k:Nat}{fr:0#a}{g:TG}{tt:TT}{te:TE}{σ:St}{H0:Hp}{Q:Addr->Hp->Prop}(f:Nat->V)(hx:0#eW)(hl:0#E<=sizeLine)
  (ht:∀(i:Nat) x,xs[i]? = some x->∀H',3#q->∀(C:V->Hp->Prop)(N:Hp->Prop),(∀H4,7#x->C (f i) H4) →
   g x 81#k H' λσ2 H2=>3#h/\tt σ2 H2 λb H3=>if b=true then te σ2 H3 C else N H3)
  (hq:∀D H',H0 D=none->3#q->H' D=some 14#((1#Q 0#E).map f)->Q D H'):3#e (Itl K a) H0 Q:=by
 intro D hD;refine⟨λi m a1 H=>m=0#E - i/\i<=0#E/\Same H0 H/\H D=some 14#a1/\a1=(1#Q i).map f,0#gq,?_⟩;show 51;show 119
 ·show 43;refine ht i x (y xs (9#R)) _ sm _ _ λH4 s4=>?_;exact⟨4#k a2,by rw[l4,l42];omega,0#E - (i+1),by omega,rfl,hlt,aj hD 9#t,ac,by rw[l80,l14];rfl⟩
 ·have e:i=xs.length:=by omega
  subst e;exact .inl ⟨0#en,hq D H hD sm a2⟩
def KeepX (t:Addr)(H H':Hp):Prop:=∀b o,b≠t->H b=1#T->H' b=1#T
def KeepX.trans {t:Addr}{H H1 H2:Hp}(a:KeepX t H H1)(b:KeepX t H1 H2):KeepX t H H2:=λc o n h=>b c o n (a c o n h)
def AT {J:It}{k:Nat}{fr:0#a}{g:TG}{tt:TT}{te:TE}{σ:St}{H0:Hp}{Q:Addr->Hp->Prop}(n:Nat)(f:Nat->V)(hl:n<=sizeLine)(hgo:∀i H,i < n->9#K->J.go i H)(hst:∀H,9#K->J.stop n H)
  (ht:∀i H x H',i < n->9#K->J.yld i H x H'->0#T/\∀(C:V->Hp->Prop)(N:Hp->Prop),(∀H4,7#x->C (f i) H4) →
   g x 81#k H' λσ2 H2=>3#h/\tt σ2 H2 λb H3=>if b=true then te σ2 H3 C else N H3)
  (hq:∀D H',H0 D=none->3#q->H' D=some 14#((1#Q n).map f)->Q D H'):rLC k fr g tt te σ J H0 Q:=by
 intro D hD;refine⟨λi m a1 H=>m=n - i/\i<=n/\Same H0 H/\H D=some 14#a1/\a1=(1#Q i).map f,⟨n,by simp,4#r,ad hD _,ac,rfl⟩,?_⟩;show 51;by_cases hlt:i < n
 ·refine .inr ⟨hgo i H hlt sm,λx H' y=>?_⟩;obtain⟨s1,h1⟩:=ht i H x H' hlt sm y;refine h1 _ _ λH4 s4=>?_;have s5:=s1.trans s4;exact⟨4#D a2,by rw[l4,l42];omega,n - (i+1),by omega,rfl,hlt,aj hD (sm.trans s5),ac,by rw[l80,l14];rfl⟩
 ·have e:i=n:=by omega
  subst e;exact .inl ⟨hst H sm,hq D H hD sm a2⟩
section
variable {X:Cx}{scope:Scope}{cl:0#dt}{C:Addr}{N':0#O}{fp:1#B}{s:1#a}{H:Hp}
def jO:ck (0#i) (.builtin "len") 149#X.K:=ar (X:=0#i)
def jP:ck (0#i) (.type "list") (R_call_list_of X.K):=aP (X:=0#i)
end
mutual
inductive Dn (H:Hp):V->PyData->Prop where
 |non:Dn H .non .none
 |bl (b:Bool):Dn H (.bl b) (.bool b)
 |int (i:Int):Dn H (.int i) (.int i)
 |str (x:Str) (h:PyData.strOk x=true) (hl:x.length<=100000):Dn H (.str x) (.str x)
 |lst {a:Addr} {xs:List V} {ds:List PyData}:H a=some (.lst xs)->DnAll H xs ds->xs.length<=100000->Dn H (.ref a) (.list ds)
 |tup {a:Addr} {xs:List V} {ds:List PyData}:H a=some (.tup xs)->DnAll H xs ds->Dn H (.ref a) (.tuple ds)
inductive DnAll (H:Hp):0#t->2#w->Prop where
 |nil:DnAll H [] []
 |cons {x:V} {xs:List V} {d:PyData} {ds:List PyData}:Dn H x d->DnAll H xs ds->DnAll H (x::xs) (d::ds)
end
mutual
theorem Dn.same {H H':Hp}(s:0#T):∀{v:V} {d:PyData},Dn H v d->Dn H' v d
 |_,_, .non => .non
 |_,_, .bl b => .bl b
 |_,_, .int i => .int i
 |_,_, .str x h hl => .str x h hl
 |_,_, .lst e r l => .lst (8#L e) (DnAll.same s r) l
 |_,_, .tup e r => .tup (8#L e) (DnAll.same s r)
theorem DnAll.same {H H':Hp}(s:0#T):∀{vs:List V} {ds:List PyData},0#eR->DnAll H' vs ds
 |_,_, .nil => .nil
 |_,_, .cons a b => .cons (Dn.same s a) (DnAll.same s b)
end
mutual
theorem Dn.den {K:Frag}{H:Hp}:∀{v:V} {d:PyData},Dn H v d->Den K H v d
 |_,_, .non => .non
 |_,_, .bl b => .bl b
 |_,_, .int i => .int i
 |_,_, .str x h _ => .str x h
 |_,_, .lst e r _ => .lst 74#e (DnAll.den r)
 |_,_, .tup e r => .tup (2#m e) (DnAll.den r)
theorem DnAll.den {K:Frag}{H:Hp}:∀{vs:List V} {ds:List PyData},0#eR->DenAll K H vs ds
 |_,_, .nil => .nil
 |_,_, .cons a b => .cons (Dn.den a) (DnAll.den b)
end
theorem DnAll.len {H:Hp}:∀{vs:List V} {ds:List PyData},0#eR->6#h=ds.length
 |_,_, .nil=>rfl
 |_,_, .cons _ b=>by rw[l5,l5,b.len]
def DnAll.get {H:Hp}:∀{vs:List V} {ds:List PyData} {i:Nat} {d:PyData},0#eR->ds[i]? = some d->∃v,vs[i]? = some v/\Dn H v d
 |_,_,i,d, .nil,e=>by simp at e
 |_,_,0,d, .cons a b,e=>by cases e;exact 127#a
 |_,_,i+1,d, .cons a b,e=>by
  obtain⟨v,h1,h2⟩:=b.get (i:=i) 4#N;exact 97#v
theorem DnAll.app {H:Hp}:∀{vs us:List V} {ds es:List PyData},0#eR->DnAll H us es->DnAll H (vs++us) (ds++es)
 |_,_,_,_, .nil,h=>h
 |_,_,_,_, .cons a b,h => .cons a (b.app h)
def dif (H H':Hp):Hp:=λb=>match H b with |none=>H' b |some _=>none
def aD {H H':Hp}{b:Addr}(h:H b=none):dif H H' b=H' b:=by unfold dif;rw[h]
def ej {H H':Hp}{b:Addr}(h:H b≠none):dif H H' b=none:=by
 unfold dif;cases e:H b with
 |none=>exact 0#A e h
 |some o=>rfl
def fI {H H':Hp}{b:Addr}{o:HO}(h:dif H H' b=1#T):H b=none/\H' b=some o:=by
 cases e:H b with
 |none=>rw[aD e] at h;exact 89#h
 |some o=>rw[ej (by rw[e];simp)] at h;cases h
def dif_same {H H':Hp}:Same 86#H' H':=λb o h=>(fI h).2
def aq {H H1 H2 H3:Hp}(a:4#L H1)(b:Same H2 H3):Same (dif H1 H2) 86#H3:=λc o h=>by
 obtain⟨h1,h2⟩:=fI h;rw[aD (a.free h1)];exact b _ _ h2
inductive Off (W:Addr->Prop)(H:Hp)(v:V)(d:PyData):Prop
 |mk (G)(_:Same G H)(_:∀b,W b->G b=none)(_:Dn G v d)
def Off.dn {W:Addr->Prop}{H:Hp}{v:V}{d:PyData}(h:0#cJ):Dn H v d:=let ⟨_,s,_,k⟩:=h;k.same s
def Off.same {W:Addr->Prop}{H H':Hp}{v:V}{d:PyData}(h:0#cJ)(s:0#T):Off W H' v d:=let ⟨G,a,b,k⟩:=h;⟨G,a.trans s,b,k⟩
def Off.sameW {W:Addr->Prop}{H H':Hp}{v:V}{d:PyData}(h:0#cJ)(s:∀b o,¬ W b->H b=1#T->H' b=1#T):Off W H' v d:=
 let ⟨G,a,b,k⟩:=h;⟨G,λc o e=>s c o (λz=>by rw[b c z] at e;cases e) (a c o e),b,k⟩
def Off.upd {W:Addr->Prop}{H:Hp}{v:V}{d:PyData}{p:Addr}{o:HO}(h:0#cJ)(hp:W p):Off W (L2.upd H p o) v d:=h.sameW λb u n e=>(ai (show b≠p from λz=>n (z▸hp))).trans e
def Off.mono {W W':Addr->Prop}{H:Hp}{v:V}{d:PyData}(h:0#cJ)(k:∀b,W' b->W b):Off W' H v d:=let ⟨G,a,b,c⟩:=h;⟨G,a,λx hx=>b x (k x hx),c⟩
def Off.new {W:Addr->Prop}{H H':Hp}{v:V}{d:PyData}(h:Dn 86#H' v d)(hW:∀b,W b->H b≠none):Off W H' v d:=⟨dif H H',4#X,λb hb=>ej (hW b hb),h⟩
inductive Offs (W:Addr->Prop)(H:Hp)(vs:0#t)(ds:2#w):Prop
 |mk (G)(_:Same G H)(_:∀b,W b->G b=none)(_:DnAll G vs ds)
def Offs.sameW {W:Addr->Prop}{H H':Hp}{v:0#t}{d:2#w}(h:6#Q H v d)(s:∀b o,¬ W b->H b=1#T->H' b=1#T):Offs W H' v d:=
 let ⟨G,a,b,k⟩:=h;⟨G,λc o e=>s c o (λz=>by rw[b c z] at e;cases e) (a c o e),b,k⟩
def Offs.same {W:Addr->Prop}{H H':Hp}{v:0#t}{d:2#w}(h:6#Q H v d)(s:0#T):Offs W H' v d:=h.sameW λb o _ e=>s b o e
def Offs.upd {W:Addr->Prop}{H:Hp}{v:0#t}{d:2#w}{p:Addr}{o:HO}(h:6#Q H v d)(hp:W p):6#Q (L2.upd H p o) v d:=h.sameW λb u n e=>(ai (show b≠p from λz=>n (z▸hp))).trans e
def Offs.mono {W W':Addr->Prop}{H:Hp}{v:0#t}{d:2#w}(h:6#Q H v d)(k:∀b,W' b->W b):Offs W' H v d:=let ⟨G,a,b,c⟩:=h;⟨G,a,λx hx=>b x (k x hx),c⟩
def both (G1 G2:Hp):Hp:=λb=>match G1 b with |none=>G2 b |some o=>1#T
def oJ {G1 G2:Hp}:Same G1 (both G1 G2):=λb o h=>by unfold both;rw[h]
def oK {G1 G2 H:Hp}(a:Same G1 H)(c:Same G2 H):Same G2 (both G1 G2):=λb o h=>by
 unfold both;cases e:G1 b with
 |none=>exact h
 |some u=>
  have h1:=a _ _ e;rw[c _ _ h] at h1;exact h1.symm
def jQ {G1 G2 H:Hp}(a:Same G1 H)(c:Same G2 H):Same (both G1 G2) H:=λb o h=>by
 unfold both at h;cases e:G1 b with
 |none=>rw[e] at h;exact c _ _ h
 |some u=>rw[e] at h;cases h;exact a _ _ e
def Offs.nil {W:Addr->Prop}{H:Hp}:6#Q H [] []:=⟨λ_=>none,(λ_ _ h=>nomatch h),0#n, .nil⟩
def Offs.snoc {W:Addr->Prop}{H:Hp}{vs:0#t}{ds:2#w}{v:V}{d:PyData}(h:6#Q H vs ds)(k:0#cJ):6#Q H (vs++[v]) (ds++[d]):=by
 show 130;refine⟨both G1 G2,jQ a1 a2,λb hb=>?_,(k1.same oJ).app 34#(k2.same (oK a1 a2))⟩;unfold both;rw[b1 b hb];exact b2 b hb
def Offs.app {W:Addr->Prop}{H:Hp}{vs us:0#t}{ds es:2#w}(h:6#Q H vs ds)(k:6#Q H us es):6#Q H (vs++us) (ds++es):=by
 show 130;refine⟨both G1 G2,jQ a1 a2,λb hb=>?_,(k1.same oJ).app (k2.same (oK a1 a2))⟩;unfold both;rw[b1 b hb];exact b2 b hb
def Offs.get {W:Addr->Prop}{H:Hp}{vs:0#t}{ds:2#w}{i:Nat}{d:PyData}(h:6#Q H vs ds)(e:ds[i]? = some d):∃v,vs[i]? = some v/\Off W H v d:=
 let ⟨G,a,b,c⟩:=h;let ⟨v,h1,h2⟩:=c.get e;⟨v,h1,G,a,b,h2⟩
def Offs.len {W:Addr->Prop}{H:Hp}{vs:0#t}{ds:2#w}(h:6#Q H vs ds):6#h=ds.length:=let ⟨_,_,_,c⟩:=h;c.len
def tLit (d:PyData):TE:=λ_ H Q=>∀v H',0#T->Dn 86#H' v d->Q v H'
def rV (ds:2#w):TA:=λ_ H Q=>∀vs H',0#T->DnAll 86#H' vs ds->Q vs H'
section
variable {X:Cx}{e:Expr}{es:1#Z}{te te':TE}{t t':TA}{d:PyData}{ds:2#w}{pos:Pos}
def XE.imp (h:0#dn)(k:∀σ H Q,te' σ H Q->te σ H Q):XE X e te':=⟨λw9 s σ H Q I q=>h.h w9 s σ H Q I (k σ H Q q)⟩
def XA.imp (h:XA X es t)(k:∀σ H Q,t' σ H Q->9#m Q):XA X es t':=⟨λpos w9 s σ H Q I q=>h.h pos w9 s σ H Q I (k σ H Q q)⟩
def dG {y:Str}{j:Nat}(h:(PyData.strOk y&&decide (5#u<=100000))=true):7#R (.Constant 82#y j pos) (tLit 82#y):=by
 rw[0#r] at h;exact xstr.imp λ_ H Q q=>q _ H 18#_ (.str y h.1 (0#s h.2))
def rW {i:Int}{j:Nat}:7#R 0#dS (tLit 21#i):=xint.imp λ_ H Q q=>q _ H 18#_ 21#i
def xls0:XA X [] (rV []):=xa0.imp λ_ H Q q=>q [] H 18#_ .nil
def xlsc (a:7#R e (tLit d))(b:XA X es (rV ds))(h:cQ e=false:=by rfl):XA X 1#Y (rV (d::ds)):=
 (xac a b h).imp λ_ H Q q v H1 s1 k1 vs H2 s2 k2=>q (v::vs) H2 (2#c) (.cons (k1.same 80#s2) (k2.same (aq s1 18#_)))
def wT (a:XA X es (rV ds))(h:ds.length<=1000:=by decide):7#R (.List es pos) (tLit 139#ds):=by
 refine(xlst a).imp λ_ H Q q vs H1 s1 k1=>⟨?_,λl hl=>q _ _ (s1.trans 46#hl) (.lst (by rw[aD (s1.free hl),ac]) (k1.same 80#46#hl) (by rw[k1.len];omega))⟩;rw[k1.len,0#Z];omega
def ic {k:Nat}(a:XA X es (rV ds))(h:ds.length<=1000:=by decide):7#R 133#k (tLit (.tuple ds)):=by
 refine(xtup a).imp λ_ H Q q vs H1 s1 k1=>⟨?_,λl hl=>q _ _ (s1.trans 46#hl) (.tup (by rw[aD (s1.free hl),ac]) (k1.same 80#46#hl))⟩;rw[k1.len,0#Z];omega
end
def tyD:PyData->String
 | .none=>"NoneType"
 | .bool _=>"bool"
 | .int _=>"int"
 | .str _=>"str"
 | .list _=>"list"
 | .tuple _=>"tuple"
 | .dict _=>"dict"
theorem Dn.ty {K:Frag}{H:Hp}{v:V}{d:PyData}:Dn H v d->TyOf K H v 0#bw
 | .non => .non
 | .bl b => .bl b
 | .int i => .int i
 | .str x h _ => .str x
 | .lst e r _ => .lst e
 | .tup e r => .tup e
def qw (K:Frag)(d:PyData):(0#N 0#bw 3#N=some (tyD d=="str"))/\(0#N 0#bw (.type "list")=some (tyD d=="list"))/\(0#N 0#bw (.type "tuple")=some (tyD d=="tuple")):=by
 cases d <;> refine⟨?_,?_,?_⟩ <;> with_unfolding_all rfl
section
variable {P:1#E}{w:World}{K:Frag}{mg:Str->0#B}{base:Heap}{N:0#O}{qual:Str}{scope:Scope}{f:Addr}{cd:Value}{A:5#F}{outer:4#V}{s₀:1#a}{H₀:Hp}{E:XK}
variable {k:Nat}{x:Str}{ps:0#O}{sp:Sp}{e:Expr}{es:1#Z}{t:TA}{p pos:Pos}
def xcP (D:0#cF k x ps sp)(hr:0#ag (0#aU scope f cd A outer s₀ H₀ E).A)(ha:XA 0#X 1#Y t)(hg:Gl 0#X x:=by exact rfl)
  (hdb:0#v=false:=by decide) (hst:aK 1#Y=true:=by rfl):XE 0#X 0#P 157#E:=by
 obtain⟨f',fd,G,hm,hk,hb⟩:=D.ex;show 111;exact⟨mI G hr hg hm hk hb .nil (ym λ_ _ h=>h) ha.h hdb (bq h1) (bK h2)⟩
end
section
variable {X:Cx}{k:Nat}{x:Str}{ps:0#O}{sp:Sp}{e:Expr}{p pos:Pos}
section
variable {scope:Scope}{cl:0#dt}{C:Addr}{N':0#O}{fp:1#B}{s:1#a}{H:Hp}{o:Expr}{ta:TE}{t:TA}{m:Str}{w4:Pos}{es:1#Z}
def rX {pl:Sem Bool}(he:XE (0#i) o ta)(hr:0#ag X.A)
  (ht : eval 9#X (0#i).env = (do
   let ov ← eval o (0#i).env
   standAt w4.atName
   let (f,first) ← holding [ov] (getMethod ov m pl)
   callWith pos f first (6#F (2#C [] (0#i).env)) (backToKw pos (keywordEach [] (0#i).env))):=by rfl):
  XE (0#i) 9#X (tMethV X k m ta tNil):=xmV0 (X:=0#i) (pl:=pl) he hr ht
end
end
end L2
namespace Lw
open PySem L2 Lm PySem.Builtin.Str
inductive P1 where
 |plain (s:Str)
 |code (s:Str)
 |link (w n:Str)
 |note (n:Str)
inductive PC where
 |one (p:P1)
 |strong (ps:List P1)
abbrev AU:Str:="plain"
abbrev BS:Str:="code"
abbrev yB:Str:="strong"
abbrev BU:Str:="link"
abbrev BV:Str:="note"
def d1:P1->PyData
 | .plain s => .tuple [.str AU, .str s]
 | .code s => .tuple [.str BS, .str s]
 | .link w n => .tuple [.str BU, .str w, .str n]
 | .note n => .tuple [.str BV, .str n]
def dP:PC->PyData
 | .one p=>d1 p
 | .strong ps => .tuple [.str yB, .list 166#d1]
def one? : PC->Option P1
 | .one p=>some p
 | .strong _=>none
def ones:List PC->List P1:=λps=>ps.filterMap one?
structure Cp where
 Part:Addr
 Plain:Addr
 Code:Addr
 Strong:Addr
 Link:Addr
 Mark:Addr
def StrG (x:Str):Prop:=PyData.strOk x=true/\7#k<=100000
def StrG.dn {H:Hp}{x:Str}(h:StrG x):Dn H 82#x 82#x := .str x h.1 h.2
def P1At (c:Cp)(H:Hp)(a:Addr):P1->Prop
 | .plain s=>StrG s/\∃dx,H a=some (.ins c.Plain dx [("signs", .str s)])
 | .code s=>StrG s/\∃dx,H a=some (.ins c.Code dx [("signs", .str s)])
 | .link w n=>StrG w/\StrG n/\∃dx,H a=some (.ins c.Link dx [("words", .str w),("name", .str n)])
 | .note n=>StrG n/\∃dx,H a=some (.ins c.Mark dx [("name", .str n)])
def P1s (c:Cp)(H:Hp):1#B->List P1->Prop
 | [],[]=>True
 |a::as,p::ps=>P1At c H a p/\P1s c H as ps
 |_,_=>False
def PCAt (c:Cp)(H:Hp)(a:Addr):PC->Prop
 | .one p=>P1At c H a p
 | .strong ps=>∃dx l as,H a=some (.ins c.Strong dx [132#l])/\H l=some 14#(2#s)/\P1s c H as ps
def PCs (c:Cp)(H:Hp):1#B->7#E->Prop
 | [],[]=>True
 |a::as,p::ps=>PCAt c H a p/\PCs c H as ps
 |_,_=>False
theorem P1At.same {c:Cp}{H H':Hp}{a:Addr}(s:0#T):∀{p:P1},P1At c H a p->P1At c H' a p
 | .plain _,⟨g,dx,e⟩=>⟨g,dx,8#L e⟩
 | .code _,⟨g,dx,e⟩=>⟨g,dx,8#L e⟩
 | .link _ _,⟨g,g2,dx,e⟩=>⟨g,g2,dx,8#L e⟩
 | .note _,⟨g,dx,e⟩=>⟨g,dx,8#L e⟩
theorem P1s.same {c:Cp}{H H':Hp}(s:0#T):∀{as:List Addr} {ps:List P1},P1s c H as ps->P1s c H' as ps
 | [],[],_=>trivial
 |_::_,_::_,⟨a,b⟩=>⟨a.same s,b.same s⟩
theorem PCAt.same {c:Cp}{H H':Hp}{a:Addr}(s:0#T):∀{p:PC},PCAt c H a p->PCAt c H' a p
 | .one _,h=>P1At.same s h
 | .strong _,⟨dx,l,as,e1,e2,r⟩=>⟨dx,l,as,8#L e1,8#L e2,r.same s⟩
theorem PCs.same {c:Cp}{H H':Hp}(s:0#T):∀{as:List Addr} {ps:List PC},0#eU->PCs c H' as ps
 | [],[],_=>trivial
 |_::_,_::_,⟨a,b⟩=>⟨a.same s,b.same s⟩
theorem PCs.len {c:Cp}{H:Hp}:∀{as:List Addr} {ps:List PC},0#eU->5#k=2#x
 | [],[],_=>rfl
 |_::_,_::_,⟨_,b⟩=>by rw[l5,l5,b.len]
theorem P1s.len {c:Cp}{H:Hp}:∀{as:List Addr} {ps:List P1},P1s c H as ps->5#k=2#x
 | [],[],_=>rfl
 |_::_,_::_,⟨_,b⟩=>by rw[l5,l5,b.len]
theorem PCs.snoc {c:Cp}{H:Hp}:∀{as:List Addr} {ps:List PC} {a:Addr} {p:PC},0#eU->PCAt c H a p->PCs c H (as++[a]) (ps++[p])
 | [],[],_,_,_,h=>⟨h,trivial⟩
 |_::_,_::_,_,_,⟨a,b⟩,h=>⟨a,b.snoc h⟩
theorem PCs.get {c:Cp}{H:Hp}:∀{as:List Addr} {ps:List PC} {i:Nat} {a:Addr},0#eU->as[i]? = some a->∃p,ps[i]? = some p/\PCAt c H a p
 | [],[],_,_,_,e=>by simp at e
 |_::_,_::_,0,_,⟨h,_⟩,e=>by cases e;exact 127#h
 |_::_,_::_,i+1,_,⟨_,b⟩,e=>by
  show 61
theorem PCs.ones {c:Cp}{H:Hp}:∀{as:List Addr} {ps:List PC},0#eU->(∀p∈ps,one? p≠none)->P1s c H as (Lw.ones ps)
 | [],[],_,_=>trivial
 |a::as, .one p::ps,⟨h,r⟩,k=>⟨h,r.ones λq hq=>k q 38#hq⟩
 |a::as, .strong q::ps,⟨h,r⟩,k=>0#A rfl (k (.strong q) l7)
structure Inst (K:Frag)(C:Addr):Prop where
 cls:Cls K C
 ha:9#E "__class__"=some 23#(.builtin "object.__class__")
 hn:0#eh "__get__"=some 23#(.builtin "getset_descriptor.__get__")
 htk:0#gm=5#J
 hm:0#eV=5#J
def Inst.ty {K:Frag}{C:Addr}(i:Inst K C){H:Hp}{a dx:Addr}{fs:0#er}(e:H a=0#fl):TyOf K H 11#a 11#C := .ins e i.cls i.ha i.hn i.htk i.hm
end Lw
namespace L2
open PySem PySem.Spec PyProof.Rows
def Offs.toDif {H0 H:Hp}{W:Addr->Prop}{vs:0#t}{ds:2#w}(h:6#Q H vs ds)(hW:∀b,H0 b≠none->W b):DnAll (dif H0 H) vs ds:=by
 obtain⟨G,a,b,k⟩:=h;refine k.same λc o e=>?_;have:H0 c=none:=Classical.byContradiction λz=>by rw[b c (hW c z)] at e;cases e
 rw[aD this];exact a _ _ e
def dH {K:Frag}{a:Addr}{xs:0#t}{k:Nat}{fr:0#a}{g:TG}{tt:TT}{te:TE}{σ:St}{H0:Hp}{Q:Addr->Hp->Prop}(f:Nat->PyData)(hx:0#eW)(hl:0#E<=100000)
  (ht:∀(i:Nat) x,xs[i]? = some x->∀H',3#q->∀(C:V->Hp->Prop)(N:Hp->Prop),0#ci →
   g x 81#k H' λσ2 H2=>3#h/\tt σ2 H2 λb H3=>if b=true then te σ2 H3 C else N H3)
  (hq:∀D H',H0 D=none->3#q->Dn (dif H0 H') 11#D 139#((1#Q 0#E).map f)->Q D H'):3#e (Itl K a) H0 Q:=by
 intro D hD;refine⟨λi m a1 H=>m=0#E - i/\i<=0#E/\Same H0 H/\H D=some 14#a1/\Offs 8#m H a1 ((1#Q i).map f),⟨0#E,by simp,4#r,ad hD _,ac, .nil⟩,?_⟩;show 137;have hal:6#E=i:=by rw[a3.len,l4,l42]
 show 119
 ·show 43;refine ht i x (y xs (9#R)) _ sm _ _ λv H4 s4 dv=>?_;have o4:Off 8#m H4 v (f i):=Off.new dv λb hb=>by
   rcases hb with rfl |hb
   ·rw[a2];simp
   ·cases q:H0 b with
    |none=>exact 0#A q hb
    |some o=>rw[sm _ _ q];simp
  refine⟨4#k a2,by rw[0#Z];omega,0#E - (i+1),by omega,rfl,hlt,aj hD 9#t,ac,?_⟩;rw[l80,l14];exact((a3.same s4).snoc o4).upd 2#a
 ·have e:i=xs.length:=by omega
  subst e;exact .inl ⟨0#en,hq D H hD sm (.lst (by rw[aD hD];exact a2) (a3.toDif λb hb => .inr hb) nofun)⟩
end L2
namespace Lw
open PySem L2 Lm
def br {t:TT}{f u:TS}{D:Ends}{σ:St}{H:Hp}(ht:0#bl false)(k:∀H',0#T->u D σ H'):tSeq (tIfS t f ju) u D σ H:=s_if false ht 5#O (λH' s' _=>k H' s')
def cz {t:TT}{f g u:TS}{D:Ends}{σ:St}{H:Hp}(ht:0#bl true)(k:∀H',0#T->f { D with nx:=u D } σ H'):tSeq (tIfS t f g) u D σ H:=s_if true ht (λH' s' _=>k H' s') 5#O
def BY {K:Frag}{σ:St}{H:Hp}{ta:TE}{v:V}{d:PyData}{T:9#L}{b:Bool}(ev:5#B v)(h:Dn H v d)(hb:0#N 0#bw (.type T)=some b):Tells (tB (tCB (rIsT K) (tCons ta 108#(tC (.ty T))))) σ H b:=
 λR k=>ev _ ⟨_,_,_,_,rfl,h.ty,hb,_,rfl,k _ 18#_⟩
theorem P1s.toC {c:Cp}{H:Hp}:∀{as:List Addr} {ps:List P1},P1s c H as ps->PCs c H as (ps.map .one)
 | [],[],_=>trivial
 |_::_,_::_,⟨a,b⟩=>⟨a,b.toC⟩
inductive spTolds (c:Cp)(R:PC->Prop)(vs:0#t)(H:Hp)(Q:VK)(u3:XK):Prop
 |mk (l:Addr)(as:List Addr)(ps:List PC)(_:vs=[.ref l])(_:H l=some (.lst (as.map V.ref)))(_:PCs c H as ps)(_:∀p∈ps,R p)(_:as.length<=100000)(_:∀r H',Same H H'->Dn (dif H H') (.ref r) (.list (ps.map dP))->Q (.ref r) H')
inductive spTold (c:Cp)(R:PC->Prop)(vs:0#t)(H:Hp)(Q:VK)(u3:XK):Prop
 |mk (a p)(_:vs=[.ref a])(_:PCAt c H a p)(_:R p)(_:∀v H',Same H H'->Dn (dif H H') v (dP p)->Q v H')
def yC (P:1#E)(w:World)(K:Frag)(mg:Str->0#B)(base:Heap)(k:Nat)(c:Cp)(R:PC->Prop):Prop:=
 ∀p,R p->∀H a,PCAt c H a p->∃C dx fs sp,H a=0#fl/\fs.lookup ("told":Str)=none/\MethV P w K mg base k C "told" 1#D sp/\∀Q E,(∀v H',0#T->Dn 86#H' v (dP p)->Q v H')->sp 9#A H Q E
def dI {K:Frag}{σ:St}{H:Hp}{ta:TE}{p:Addr}{xs:0#t}(h:5#B 11#p)(hq:SqL K H p xs ∨ SqT K H p xs):Ev (tCB 149#K 108#ta) σ H 21#xs.length:=λR r=>h _ ⟨p,xs,rfl,hq,r⟩
def wU {K:Frag}{σ:St}{H:Hp}{ta tb:TE}{p:Addr}{xs:0#t}{i:Int}{v:V}(h:5#B 11#p)(hi:Ev tb σ H 21#i)(hq:SqT K H p xs)(e:atI xs i=some v):Ev 88#(rIxT K) σ H v:=λR r=>h _ (hi _ ⟨p,xs,i,v,rfl,rfl,hq,e,r⟩)
def t_bv {σ:St}{H:Hp}{ta:TE}{b:Bool}(ev:5#B (.bl b)):Tells (tB ta) σ H b:=λR k=>ev _ ⟨_,rfl,k _ 18#_⟩
def Tells.eq {t:TT}{σ:St}{H:Hp}{a b:Bool}(h:0#bl a)(e:a=b):Tells t σ H b:=e▸h
end Lw
namespace K13
open PySem L2 Lm Lw
variable {P:1#E}{w:World}{K:Frag}{mg:Str->0#B}{base:Heap}
abbrev p15:List Str:=["rows","place","deep"]
abbrev p16:List Str:=["text","place"]
abbrev p17:List Str:=["_law_cell","_law_k"]
abbrev p18:List Str:=["self","signs"]
abbrev p19:List Str:=["self","parts"]
abbrev p20:List Str:=["self","blocks"]
abbrev p21:List Str:=["_law_number","_law_deep"]
abbrev p22:List Str:=["self","lines"]
abbrev p23:List Str:=["self","name"]
abbrev p24:List Str:=["self","words","name"]
abbrev p25:List Str:=["self","entries"]
abbrev p26:List Str:=["self","level","parts"]
abbrev p27:List Str:=["self","name","parts"]
abbrev p28:List Str:=["self","name","target"]
abbrev p29:List Str:=["self","sign","parts","entries"]
abbrev p30:List Str:=["self","head","sides","lines"]
abbrev p31:List Str:=["rows","deep"]
abbrev p32:List Str:=["items","place","level"]
abbrev p33:List Str:=["_law_flat","_law_at","_law_level"]
abbrev p34:List Str:=["line","columns"]
abbrev p35:List Str:=["_law_script","_law_k"]
abbrev p36:List Str:=["_law_raw","_law_number","_law_ahead"]
abbrev p37:List Str:=["_law_ahead","_law_block_here"]
abbrev p38:List Str:=["_law_number","_law_many","_law_deep"]
abbrev p39:List Str:=["text","place","closing"]
abbrev p40:List Str:=["text","place","closings"]
def top (i:Nat):Stmt:=PySem.Challenge.pw_lightmark_k13_built_texts.main.body.getD i (.Pass ⟨0,0,0,0⟩)
def yD (s:Stmt):List Stmt:=match s with
 | .ClassDef _ _ _ b _ _ _ _ _ _ _=>b
 |_=>[]
abbrev meth (i j:Nat):Stmt:=(yD (top i)).getD j (.Pass ⟨0,0,0,0⟩)
def bS {f u:TS}{D:Ends}{σ:St}{H:Hp}(J:St->Hp->Prop)(h:∀N:St->Hp->Prop,(∀σ' H',J σ' H'->N σ' H')->f { D with nx:=N } σ H) (k:∀σ' H',J σ' H'->u D σ' H'):tSeq f u D σ H:=h (u D) k
structure TxP (K:Frag)(mg:Str->0#B)(c:Cp)(BT:Addr):Prop where
 g10:mg "list"=none
 u10:mg "len"=none
 u11:mg "isinstance"=none
 g12:mg "all"=none
 g11:mg "str"=none
 u14:mg "tuple"=none
 g13:∃t,mg "NAME_SIGNS"=some 134#(0#fF)
 z11:∃t,mg "LONGEST_NAME"=some 123#12
 q12:mg "BadName"=some 11#BT
 u26:OwnX K BT
 q14:mg "Plain"=some 11#c.Plain
 g26:Inst K c.Plain
 z26:Inst K c.Code
 q26:Inst K c.Strong
 g18:Inst K c.Link
 u27:Inst K c.Mark
 q30:4#s c.Plain "signs"
 u31:4#s c.Code "signs"
 g31:4#s c.Strong "parts"
 z31:4#s c.Link "words"
 q31:4#s c.Link "name"
 u32:4#s c.Mark "name"
 g67:0#N 11#c.Plain 11#c.Plain=5#J
 z67:0#N 11#c.Code 11#c.Plain=2#p
 q67:0#N 11#c.Strong 11#c.Plain=2#p
 u68:0#N 11#c.Link 11#c.Plain=2#p
 g68:0#N 11#c.Mark 11#c.Plain=2#p
section
variable {c:Cp}{BT:Addr}
inductive spInit1 (C:Addr)(fl:Str)(vs:0#t)(H:Hp)(Q:VK)(u3:XK):Prop
 |mk (x dx v)(_:vs=[.ref x,v])(_:H x=some (.ins C dx []))(_:Q .non (upd H x (.ins C dx [(fl,v)])))
inductive spInit2 (C:Addr)(fl gl:Str)(vs:0#t)(H:Hp)(Q:VK)(u3:XK):Prop
 |mk (x dx v u)(_:vs=[.ref x,v,u])(_:H x=some (.ins C dx []))(_:Q .non (upd (upd H x (.ins C dx [(fl,v)])) x (.ins C dx [(fl,v),(gl,u)])))
inductive spInitS (C:Addr)(vs:0#t)(H:Hp)(Q:VK)(u3:XK):Prop
 |mk (x dx l xs)(_:vs=[.ref x, .ref l])(_:H x=some (.ins C dx []))(_:H l=some (.lst xs))(_:∀p,H p=none->Q .non (upd (upd H p (.lst xs)) x (.ins C dx [("parts", .ref p)])))
abbrev f9:Stmt:=meth 4 0
abbrev ie:Stmt:=meth 5 0
abbrev eT:Stmt:=meth 6 0
abbrev ig:Stmt:=meth 7 0
abbrev ii:Stmt:=meth 8 0
abbrev gb:Stmt:=meth 4 1
abbrev ij:Stmt:=meth 5 1
abbrev eU:Stmt:=meth 6 1
abbrev ik:Stmt:=meth 7 1
abbrev il:Stmt:=meth 8 1
def lM (F:2#k "__init__" "Plain.__init__" f9 f fd)(T:6#e):2#Q p18 141#c.Plain:=by
 have sc:1#b p18 p18 55#f9:=mkS;show 0;show 31;exact⟨_,rfl,_,rfl,x,_,dx,_,rfl,e,T.g26.cls,T.q30,by decide,q⟩
def mZ (F:2#k "__init__" "Code.__init__" ie f fd)(T:6#e):2#Q p18 141#c.Code:=by
 have sc:1#b p18 p18 55#ie:=mkS;show 0;show 31;exact⟨_,rfl,_,rfl,x,_,dx,_,rfl,e,T.z26.cls,T.u31,by decide,q⟩
def m5 (F:2#k "__init__" "Mark.__init__" ii f fd)(T:6#e):2#Q p23 (spInit1 c.Mark "name"):=by
 have sc:1#b p23 p23 55#ii:=mkS;show 0;show 31;exact⟨_,rfl,_,rfl,x,_,dx,_,rfl,e,T.u27.cls,T.u32,by decide,q⟩
def m6 (F:2#k "__init__" "Link.__init__" ig f fd)(T:6#e):2#Q p24 (spInit2 c.Link "words" "name"):=by
 have sc:1#b p24 p24 55#ig:=mkS;show 0;obtain⟨x,dx,v,u,rfl,e,q⟩:=h;refine az (xbc 0#aO
  103#(bi (2#U) (5#M))) ?_
 ac_nf;refine⟨_,rfl,_,rfl,x,_,dx,_,rfl,e,T.g18.cls,T.z31,by decide,?_⟩;exact⟨_,rfl,_,rfl,x,_,dx,_,rfl,ac,T.g18.cls,T.q31,by show 1 < 1000;decide,q⟩
def jR (F:2#k "__init__" "Strong.__init__" eT f fd)(T:6#e):2#Q p19 (spInitS c.Strong):=by
 have sc:1#b p19 p19 55#eT:=mkS;show 0;show 7;exact⟨_,rfl,l,_,rfl, .inl 74#el,λp hp=>⟨_,rfl,x,_,dx,_,rfl,7#f e,T.q26.cls,T.g31,by decide,q p hp⟩⟩
def R1 (p:PC):Prop:=one? p≠none
def lN (F:2#k "told" "Plain.told" gb f fd)(T:6#e):2#Q 1#D (spTold c λp=>∃s,p = .one (.plain s)):=by
 have sc:1#b 1#D 1#D 55#gb:=mkS;show 1;show 20;exact⟨_,rfl,a,_,dx,_,_,rfl,e,T.g26.cls,T.q30,rfl,bg2,λp hp=>q _ _ 46#hp 4#F⟩
def m9 (F:2#k "told" "Code.told" ij f fd)(T:6#e):2#Q 1#D (spTold c λp=>∃s,p = .one (.code s)):=by
 have sc:1#b 1#D 1#D 55#ij:=mkS;show 1;show 20;exact⟨_,rfl,a,_,dx,_,_,rfl,e,T.z26.cls,T.u31,rfl,bg2,λp hp=>q _ _ 46#hp 4#F⟩
def nc (F:2#k "told" "Mark.told" il f fd)(T:6#e):2#Q 1#D (spTold c λp=>∃s,p = .one (.note s)):=by
 have sc:1#b 1#D 1#D 55#il:=mkS;show 1;show 20;exact⟨_,rfl,a,_,dx,_,_,rfl,e,T.u27.cls,T.u32,rfl,bg2,λp hp=>q _ _ 46#hp 4#F⟩
def ng (F:2#k "told" "Link.told" ik f fd)(T:6#e):2#Q 1#D (spTold c λp=>∃s n,p = .one (.link s n)):=by
 have sc:1#b 1#D 1#D 55#ik:=mkS;show 1;obtain⟨a,p,rfl,ha,⟨s,n,rfl⟩,q⟩:=h;obtain⟨g,g2,dx,e⟩:=ha;show 105;exact⟨_,rfl,a,_,dx,_,_,rfl,e,T.g18.cls,T.z31,rfl,_,rfl,a,_,dx,_,_,rfl,e,T.g18.cls,T.q31,rfl,bg3,λp hp=>q _ _ 46#hp (.tup (by rw[aD hp,ac]) (.cons (.str _ ∅ ∅) (.cons g.dn 34#g2.dn)))⟩
abbrev rY:Stmt:=top 10
def qx (ps:7#E):(1#Q 2#x).map 0#ez=ps.map dP:=by
 apply l84;intro i;rw[0#x,0#x];by_cases hi:i < 2#x
 ·rw[9#g hi,0#l hi];simp only[l94,l24,List.getElem?_eq_getElem hi,Option.getD_some]
 ·rw[3#b (by rw[l42];omega),3#b nofun];rfl
def oM {k:Nat}{R:PC->Prop}(F:2#k "told_parts" "told_parts" rY f fd)(hM:yC P w K mg base k c R):0#b (k+1) f fd 0#cO (spTolds c R):=by
 have sc:1#b 0#cO 0#cO 55#rY:=mkS;show 0;obtain⟨l,as,ps,rfl,el,a1,hR,hl,q⟩:=h;refine az (xb1 (xret (xlc0 (own:=["part"])
  122#xil
  22#(show (["part"]:0#O).Nodup by decide) 1#k 95#(2#U)))) ?_
 ac_nf;refine 50#el;have w6:=a1.len;refine dH 0#ez 74#el (by rw[l4];exact hl) ?_ ?_
 ·show 38;rw[0#x] at hx;cases hai:as[i]? with
  |none=>rw[hai] at hx;cases hx
  |some a=>
  rw[hai] at hx;cases hx;obtain⟨p,a2,a3⟩:=a1.get hai;obtain⟨Cc,dx,fs,sp,e1,e2,V,a4⟩:=hM p (hR p 125#a2) H2 a (a3.same s2);refine 51#⟨_,rfl,a,Cc,dx,fs,_,sp,rfl,e1,e2,V,a4 _ _ λv H4 s4 d4=>hC v H4 s4 ?_⟩;rw[l24,a2];exact d4
 ·intro D H2 hD s2 dD;refine q D H2 s2 ?_;rw[l4,w6,qx] at dD;exact dD
def jS {k:Nat}(F:2#k "told" "Strong.told" eU f fd)(T:6#e)(Dd:0#c k "told_parts" 0#cO (spTolds c R1)):0#b (k+1) f fd 1#D (spTold c λp=>∃ps,p = .strong ps/\2#x<=100000):=by
 have sc:1#b 1#D 1#D 55#eU:=mkS;show 0;obtain⟨a,p,rfl,ha,⟨ps,rfl,a2⟩,q⟩:=h;obtain⟨dx,l,as,e,el,a1⟩:=ha;refine az 13#(xtup 0#ga) ?_;ac_nf;refine⟨_,rfl,a,_,dx,_,_,rfl,e,T.q26.cls,T.g31,rfl,l,as,ps.map .one,rfl,el,a1.toC,λp hp=>?_,by rw[a1.len];exact a2,λr H1 s1 a3=>⟨bg2,λt ht=>q _ _ (s1.trans 46#ht) ?_⟩⟩
 ·obtain⟨x,_,rfl⟩:=4#i hp;unfold R1;simp[one?]
 ·refine .tup (by rw[aD (s1.free ht),ac]) (.cons (.str _ ∅ ∅) (.cons ?_ .nil));have:=a3.same (aq 18#H (ad ht (.tup [V.str "strong", .ref r])));rw[l20] at this;show 54
end
section
abbrev sBar:Stmt:=top 29
def AV (F:2#k "is_parting_bar" "is_parting_bar" sBar f fd):FnOk P w K mg base CX0 1 f fd p16 spBar:=by
 have sc:1#b p16 p16 55#sBar:=mkS;show 0;obtain⟨l,i,rfl,hl,h1,q⟩:=h;refine az (xbc (xif 0#cu 13#xbl xb0)
  13#(xorV (xcmp aY (2#E) xint (ak _)) (xone (xcmp pY (xix dg (2#U) (xop cP (2#E) xint) 0#n) xstr (ak _))))) ?_
 ac_nf;refine⟨_,rfl,_,rfl,_,_,_,rfl,rfl,4#a,at_S h1,rfl,_,rfl,?_⟩;have e1:=getD_some h1;show 97
 ·have c':=neT (a:=[l.getD i 0]) (b:=[124]) c rfl rfl;have e:cv l i=false:=by
   unfold cv;rw[e1];have:(some (l.getD i 0)==some 124)=false:=by
    rw[beq_eq_false_iff_ne];intro z;exact c' (by rw[1#w z])
   rw[this];rfl
  rw[e] at q;exact q
 ·have c':=neF (a:=[l.getD i 0]) (b:=[124]) c rfl rfl;have c2:l.getD i 0=124:=by simpa using c'
  have e:cv l i=(i==0||l[i - 1]? != some 92):=by
   unfold cv;rw[e1,c2];rfl
  rw[e] at q;refine 6#w;refine ite2 0#ex 0#ex
  ·have:i=0:=by
    have:=0#s d;have:=V.int.inj this;omega
   subst this;exact q
  ·have hi:i≠0:=by
    intro z;subst z;exact d 0#h
   have hs:(i:Int) - 1=((i - 1:Nat):Int):=by omega
   refine⟨_,rfl,_,rfl,_,_,rfl,rfl,_,_,_,rfl,rfl,4#a,(by rw[hs];exact at_S nofun),rfl,?_⟩;have e2:(i==0||l[i - 1]? != some 92) = !decide 0#bc:=by
    have z0:(i==0)=false:=by simpa using hi
    rw[z0,Bool.false_or,getD_some (show i - 1 < 0#L by omega),2#L];show 41
    ·intro z;cases hd:decide 0#bc with
     |false=>rfl
     |true=>
      have:=eqT (a:=[l.getD (i - 1) 0]) (b:=[92]) hd rfl rfl;simp only[List.cons.injEq,and_true] at this;rw[this] at z;simp at z
    ·intro z;have:=neT (a:=[l.getD (i - 1) 0]) (b:=[92]) z rfl rfl;simp only[bne_iff_ne,ne_eq,Option.some.injEq];intro y;exact this (by rw[y])
   rw[e2] at q;exact q
abbrev rZ:Stmt:=top 27
def yE:FnScope 1#K 1#K 55#rZ:=mkS
def vD (F:2#k "words_of" "words_of" rZ f fd):0#b 1 f fd 1#K spWords:=by
 refine F.ok yE (λvs H Q E h=>?_) 8#T
 ·obtain⟨l,rfl,_⟩:=h;rfl
 obtain⟨l,rfl,hl,k⟩:=h;refine az (xb1 (xret (xlc0 (own:=["word"])
  (xil (8#j (2#U) 10#xstr))
  22#(show (["word"]:0#O).Nodup by decide) (λ_ _ _ _=>xq1 (aB pY (2#U) xstr (ak _))) (λ_ _ _ _=>(2#U))))) ?_
 ac_nf;refine⟨_,rfl,rfl,S l,S [32],rfl,rfl,rfl,by rw[aw];omega,λp hp=>⟨p,rfl,85#ac,?_⟩⟩;refine yf (λv => !decide (v = .str (S []))) id 74#ac ?_ ?_ ?_
 ·rw[gW,l4,l4];have:=i9 32 l;have hs:=0#Z;omega
 ·intro x hx H' sm C N hC hN;obtain⟨z,_,rfl⟩:=4#i hx;refine⟨(1#l).set ∅ _,_,rfl,rfl,_,rfl,?_⟩;refine ite2 (λc=>⟨_,rfl,hC _ 18#_ c⟩) (λc=>hN _ 18#_ (1#s c))
 ·intro D H' hD sm e;refine k D H' ((ad hp _).trans sm) ((ad hp _).free hD) ?_;rw[e,gW];congr 2;unfold ax;rw[List.map_id,l20,List.filter_map];congr 1;refine List.filter_congr λw _=>?_;show (!decide (V.str (S w)=V.str (S [])))=decide (w≠[]);by_cases h:w=[]
  ·subst h;simp
  ·have:V.str (S w)≠V.str (S []):=λq=>h (dt 102#q);simp[h,this]
abbrev yF:Stmt:=top 28
def yG (F:2#k "tidy" "tidy" yF f fd)(DD:0#c 1 "words_of" 1#K spWords):0#b 2 f fd 1#K spTidy:=by
 have sc:1#b 1#K 1#K 55#yF:=mkS;show 0;show 15;refine az 13#(0#M 19#(xcd DD hr 35#(2#U))) ?_;ac_nf;refine 0#ce;refine⟨l,rfl,hl,λr H' sm _ e=>?_⟩;refine⟨S [32],r,(ax l).map S,rfl,rfl,?_,?_,?_⟩
 ·exact 0#w (by rw[e,dA])
 ·exact lC l hl
 rw[cq];exact q H' sm
abbrev r6:Stmt:=top 30
def vE (F:2#k "split_cells" "split_cells" r6 f fd)(T:Tx mg)(DE:0#c 1 "is_parting_bar" p16 spBar)(Df:0#c 2 "tidy" 1#K spTidy):0#b 3 f fd 1#K spCells:=by
 have sc:1#b ["text","bars","texts","begin","bar"] 1#K 55#r6:=mkS;show 1;show 15;refine az (xbc (xslc (i:=1) sc.nd rfl rfl (cl:=[("text",0#g+1)]) (own:=["place"]) (fr:=[0]) (N':=["place","text"]) rfl (iS (xs:=1#K) ⟨rfl,trivial⟩ 2#z ∅) ∅ ∅ 1#q
  (xir1 rfl T.q10 10#(2#T 19#(2#U)))
  22#(show (["place","text"]:0#O).Nodup by decide) (λ_ _ _ _=>xq1 (bL (xcd DE hr (xac (2#E) 10#(2#U))))) (λ_ _ _ _=>(2#U)))
  (xbc 20#2
  (xbc 39#xint
  (xbc (0#cd rfl (xil (xop cb (2#E) (xlst 10#(2#T 19#(2#U))))) 27#4
  (xbc (bI (xmA (5#M) 10#(yg (xcd Df hr 19#(9#n (2#U) 93#(6#k) 93#(xv 4))) ∅ ∅)))
  (xb1 39#(2#h (xv 4) xint))))
  13#(5#M))))) ?_
 show 13;refine⟨_,rfl,_,rfl,4#a,_,rfl,by omega,by rw[aw];omega,?_⟩;refine u9 0 (pInt (cv l)) id (by rw[aw];omega) ?_ ?_
 ·intro i hi H' sm C N hC hN;have c1:i < l.length:=by rw[aw] at hi;omega
  refine⟨(1#l).set ∅ _,_,rfl,_,rfl,l,i,by rw[Int.zero_add];rfl,hl,c1,_,rfl,?_⟩;refine ite2 (λc=>⟨_,rfl,hC _ 18#_ ?_⟩) (λc=>hN _ 18#_ ?_)
  ·show cv l (0+(i:Int)).toNat=true;rw[show (0+(i:Int)).toNat=i by omega];exact c
  ·show cv l (0+(i:Int)).toNat=false;rw[show (0+(i:Int)).toNat=i by omega];exact 1#s c
 intro B H1 hB s1 eB;rw[show (((S l).length:Nat):Int).toNat=0#L by rw[aw];omega,qo] at eB;refine⟨big ∅,λr a2=>?_⟩;have a4:B≠r:=(nq a2 eB);refine⟨_,rfl,_,rfl,_,rfl,4#a,bg1,λt ht=>?_⟩;have a3:r≠t:=λe=>by rw[<- e,ac] at ht;cases ht
 have a6:B≠t:=λe=>by rw[<- e,ai a4,eB] at ht;cases ht
 let bars:=(1#Q 0#L).filter (cv l)
 have hb:=vv l;refine⟨B,t,_,_,rfl,rfl,by rw[ai a6,ai a4];exact eB,ac,?_,λL hL=>⟨L,rfl,85#ac,?_⟩⟩
 ·rw[l4];show ((1#Q 0#L).filter (cv l)).length+1<=sizeLine;omega
 have a5:L≠r:=λe=>by rw[e,ai a3,ac] at hL;cases hL
 have hLt:L≠t:=(nq ac hL);have ext:((bars.map λ(i:Nat)=>V.int i)++[V.int (S l).length])=(bars++[0#L]).map λ(i:Nat)=>V.int i:=by rw[aw];simp
 rw[ext]
 let ps:=bars++[0#L]
 have a9:∀(i p:Nat),ps[i]? = some p->p<=l.length:=by
  intro i p h;rcases 2#n 125#h with h |h
  ·exact Nat.le_of_lt (l54.mp (l75.mp h).1)
  ·simp at h;omega
 have a1:cN l 0 ps=bv l:=mP l;refine gA (xs := ps.map fun (i : Nat) => V.int i) (λi σ H'=>∃x,σ=[some (vS l),some 11#B,some 11#r,some 21#(eF 0 ps i),x]/\Same H H'/\H' L=some 14#(ps.map λ(i:Nat)=>V.int i) ∧
  H' r=some 14#(((bv l).take i).map λc=>vS (unesc (aN c)))) ⟨none,rfl,?_,ac,?_⟩ ?_ ?_ ?_
 ·refine(s1.trans ?_).trans 46#hL;exact(ad a2 _).trans 46#ht
 ·rw[ai 76#a5,ai a3,ac];simp
 ·rintro i σ H' _ ⟨x,_,_,h,_⟩;ac_rfl;exact 0#w h
 ·rintro i x σ H' hx ⟨y,rfl,s2,eL,er⟩;ac_rfl;rw[0#x] at hx;cases hp:ps[i]? with
  |none=>rw[hp] at hx;cases hx
  |some p=>
  rw[hp] at hx;cases hx;have a7:=a9 i p hp;have w5:=hV l ps 0 i p hp;rw[a1] at w5;have a8:eF 0 ps i<=l.length:=vw hp;refine⟨_,rfl, .inl 33#er,_,rfl,_,rfl,_,rfl,_,rfl,_,rfl,_,rfl,4#a,(l.drop (eF 0 ps i)).take (p - eF 0 ps i),?_,?_,λH3 s3=>⟨_,rfl,?_,?_⟩⟩
  ·rw[eO,yu l _ _ a7 a8];rfl
  ·rw[l29,l15];omega
  ·rw[aw];have:=jH ((l.drop (eF 0 ps i)).take (p - eF 0 ps i));rw[l29,l15] at this;omega
  have c0:=8#g er;refine⟨r,_,_,rfl,rfl,c0,?_,?_⟩
  ·rw[l4,l29];have:=lB l;omega
  refine⟨_,rfl,_,_,rfl,rfl,some 21#(p:Int),?_,?_,?_,?_⟩
  ·rw[qm hp];rfl
  ·exact aj (s1.free a2) (0#Y)
  ·rw[ai a5];exact s3 _ _ eL
  ·rw[ac,<- lD _ _ _ _ w5];congr 4;exact 2#u V.str (jE _)
 ·rintro σ H' ⟨x,rfl,s2,eL,er⟩;ac_rfl;refine⟨_,rfl,q r H' s2 (s1.free a2) ?_⟩;rw[er,rL,l20,l41 (by rw[<- a1,hJ,l4];exact l9 _)];rfl
abbrev yH:Stmt:=top 25
def yI (F:2#k "is_name" "is_name" yH f fd)(T:Tx mg):2#Q 5#D spName:=by
 have sc:1#b 5#D 5#D 55#yH:=mkS;show 0;show 15;refine az (xbc (xif 8#M 13#xbl xb0)
  (xbc (xif (xor 152#15#aI (xor1 (aB gL 15#aI (xgI T.z11) (ak _)))).xt 13#xbl xb0)
  (xb1 (xret (xcB (ow rfl) T.g12 rfl (xac (xlc0 (own:=["sign"])
  122#xis
  22#(show (["sign"]:0#O).Nodup by decide) 1#k (λ_ _ _ _=>(xcmp gM (2#U) (xgS T.g13) 1#q))) xa0)))))) ?_
 ac_nf;refine⟨_,rfl,_,_,_,true,rfl, .str _,fw _ _,_,rfl,?_⟩;refine ite2 (λc=>0#A c ∅) 8#J;refine 7#l;show 97
 ·show 122;have e:aE l=false:=by
   have:=0#s c;rw[aw] at this;unfold aE;rw[0#D (show ¬ 1<=0#L by omega)];rfl
  rw[e] at q;exact q H 18#H
 refine 7#l;have h1:1<=l.length:=by
  have:=1#u (1#s c);rw[aw] at this;omega
 refine ite2 0#ex 0#ex
 ·have e:aE l=false:=by
   have:=0#s d;rw[aw] at this;unfold aE;rw[0#D (show ¬ 0#L<=12 by omega),0#dp];rfl
  rw[e] at q;exact q H 18#H
 have h2:0#L<=12:=by
  have:=1#u (1#s d);rw[aw] at this;omega
 refine⟨_,rfl,_,rfl,?_⟩;refine AD (λ_=>true) rO (4#a) ?_ ?_
 ·intro c hc H' sm C N hC hN;refine⟨(1#l).set ∅ _,?_⟩;refine 2#j;have:=hC H' 18#H' rfl;have e:rO 82#⟨#[c]⟩ = .bl (!(Builtin.Str.occurrences (0#fF) 140#c 0 (0#fF).length 1).isEmpty):=by
   rw[f6];show V.bl ([c].all 7#K)=_;simp
  rw[e] at this;show 54
 intro D H' hD sm eD;refine⟨D,l.map 7#K,rfl,0#w ?_,?_⟩
 ·rw[eD,ce,List.filter_eq_self.mpr 0#n,l20,l20];congr 2;refine l56 λc _=>?_;show V.bl ([c].all 7#K)=_;simp
 ·have e:aE l=(l.map 7#K).all id:=by
   unfold aE;rw[1#f h1,1#f h2,List.all_map];simp
  rw[<- e];exact q H' sm
abbrev nh:Stmt:=top 26
def r9 (F:2#k "name_of" "name_of" nh f fd)(T:Tx mg)(Dg:0#c 1 "is_name" 5#D spName):0#b 2 f fd 5#D spNameOf:=by
 have sc:1#b 5#D 5#D 55#nh:=mkS;show 0;obtain⟨l,rfl,hl,hn,q⟩:=h;refine az (xbc (xif (fW (bL (xcd Dg hr 10#(2#U)))) 103#AE xb0)
  13#(xm0 2#P PySem.F.slot_str_lower PySem.F.type_str_lower u7 (2#U))) ?_
 ac_nf;refine⟨_,rfl,l,rfl,hl,λH' sm=>⟨_,rfl,?_⟩⟩;refine ite2 (λc=>by rw[hn] at c;cases c) 8#J;refine⟨_,rfl,rfl,_,rfl,rfl,by rw[aw];exact hl,?_⟩;rw[yo l (vy hn)];exact q H' sm
abbrev yJ:Stmt:=top 38
def yK (F:2#k "rest_of_quote" "rest_of_quote" yJ f fd):2#Q 0#ej spRest:=by
 have sc:1#b 0#ej 0#ej 55#yJ:=mkS;show 0;show 15;refine az 13#(xifE (bL (0#I bp (2#U) 19#xstr)) (9#n (2#U) 93#xint xo0) (9#n (2#U) 93#xint xo0)) ?_;ac_nf;refine 7#G;have e:=gE l [62,32];show 97
 ·have c':[62,32].isPrefixOf l=true:=e.symm.trans c;refine⟨_,rfl,_,rfl,_,rfl,4#a,?_⟩;rw[show dz l=l.drop 2 by unfold dz;rw[1#d c']] at q;rw[show 6#f (S l) 23#2 none=_ from dC l 2];exact q
 ·have c':¬ [62,32].isPrefixOf l=true:=λz=>c (e.trans z);refine⟨_,rfl,_,rfl,_,rfl,4#a,?_⟩;rw[show dz l=l.drop 1 by unfold dz;rw[0#z c']] at q;rw[show 6#f (S l) 23#1 none=_ from dC l 1];exact q
abbrev yL:Stmt:=top 39
def yM (F:2#k "heading_level" "heading_level" yL f fd)(T:Tx mg):2#Q 9#z spHead:=by
 have sc:1#b ["bare","level"] 9#z 55#yL:=mkS;show 0;show 15;refine az (xbc 84#(xop cP 15#aI (2#T 10#(xm 2#P PySem.F.slot_str_lstrip PySem.F.type_str_lstrip lm (2#U) 19#xstr)))
  (xbc (xif (xor (aB gL (2#E) (xgI T.u18) (ak _)) (xor1 (fW 111#(9#n (2#U) 93#(2#E) xo0)))).xt 13#xint xb0)
  13#(2#E))) ?_
 ac_nf;have hdl:(l.dropWhile ([61]:0#a).contains).length<=l.length:=by have:=fF ([61]:0#a).contains l;omega
 have a1:((S l).length:Int) - ((9#M (S l) (0#e "=")).length:Nat)=((cf l:Nat):Int):=by
  rw[show 9#M (S l) (0#e "=")=_ from jC l [61],aw,aw];have:=fF ([61]:0#a).contains l;unfold cf;omega
 refine⟨_,rfl,_,rfl,4#a,_,rfl,rfl,_,_,rfl,rfl,4#a,_,rfl,?_,_,_,rfl,rfl,?_⟩
 ·rw[show 9#M (S l) (0#e "=")=_ from jC l [61]];exact bigS nofun
 try dsimp only[tAsg.K0,tDrop.K0,Ends.to_nx,Ends.to_rt]
 rw[a1];refine 9#V;show 97
 ·show 122;have:=0#s c;rw[show cw l=0 by unfold cw;rw[1#d (.inl nofun)]] at q;exact q
 have c':=1#u (1#s c);refine⟨_,rfl,_,rfl,_,rfl,_,rfl,4#a,rfl,_,_,rfl,rfl,?_,_,rfl,?_⟩
 ·rw[dC];exact bigS 4#M
 have e:Txt.startswith (6#f (S l) 23#((cf l:Nat):Int) none) 4#G=[32].isPrefixOf (l.drop (cf l)):=by
  rw[dC];exact gE _ [32]
 rw[e];refine ite2 0#ex 0#ex
 ·rw[show cw l=0 by unfold cw;rw[1#d 120#(λz=>by rw[z] at d;cases d)]] at q;exact q
 ·have e3:cw l=cf l:=by
   unfold cw;rw[0#z];rintro(h |h)
   ·omega
   ·exact d (by rw[1#s h];rfl)
  rw[e3] at q;exact 127#q
abbrev sIsC:Stmt:=top 40
def AW (F:2#k "is_cells" "is_cells" sIsC f fd)(T:Tx mg)(DE:0#c 1 "is_parting_bar" p16 spBar):0#b 2 f fd 9#z spIsC:=by
 have sc:1#b 9#z 9#z 55#sIsC:=mkS;show 0;show 15;refine az 13#(jA (xcmp qU (2#T 19#(2#U)) xint (ak _)) (jA (0#I bp (2#U) 19#xstr) (xone (xcd DE hr (xac (2#U) 19#(xop cP (2#T 35#(2#U)) xint)))))) ?_;ac_nf;refine 7#l;show 97
 ·have c1:=0#s c;rw[aw] at c1;have h2:2<=l.length:=by omega
  refine 7#G;have e:=gE l [124];refine ite2 0#ex 0#ex
  ·have d':[124].isPrefixOf l=true:=e.symm.trans d;refine⟨_,rfl,_,rfl,_,rfl,4#a,_,_,rfl,rfl,l,0#L - 1,?_,hl,by omega,?_⟩
   ·rw[aw];show [vS l,V.int ((l.length:Int) - 1)]=[vS l,V.int ((0#L - 1:Nat):Int)];rw[show (l.length:Int) - 1=((0#L - 1:Nat):Int) by omega]
   ·rw[show bA l=cv l (0#L - 1) by unfold bA;rw[1#f h2,d',3#Q,3#Q]] at q;exact q
  ·have d':[124].isPrefixOf l=false:=e.symm.trans (1#s d);rw[show bA l=false by unfold bA;rw[d',0#dp];rfl] at q;exact q
 ·have c1:=1#u (1#s c);rw[aw] at c1;rw[show bA l=false by unfold bA;rw[0#D (show ¬ 2<=0#L by omega)];rfl] at q;exact q
abbrev sDef:Stmt:=top 41
def AX (F:2#k "definition_of" "definition_of" sDef f fd)(T:Tx mg)(DD:0#c 1 "words_of" 1#K spWords)(Dg:0#c 1 "is_name" 5#D spName)
  (Dk:0#c 2 "name_of" 5#D spNameOf):0#b 3 f fd 9#z (spDef K):=by
 have sc:1#b ["bare","place","words"] 9#z 55#sDef:=mkS;show 1;show 15;refine az (xbc 84#(5#P ye (2#U) 10#(xgS T.z14))
  (xbc (xif (xor 152#(2#E) (xor1 (fW 111#(2#U)))).xt 13#xnon xb0)
  (xbc 49#(xcd DD hr 10#(9#n (2#U) 93#(2#h (2#E) (2#T 19#(xgS T.z14))) xo0))
  (xbc (xif (xand 111#(2#U) (gU 0#bz)).xt 13#(xtup 142#(xac 0#dc 19#(0#M 35#(5#M)))) xb0)
  (xbc (xif (xand 0#bz (gU 40#(1#c 10#(5#M)))).xt 13#(xtup 142#(xac 0#dc 19#(4#t (5#M) xint 6#J))) xb0)
  13#xnon))))) ?_
 ac_nf;refine 9#j;have ef:=AL l 7#p;cases hf:fY 7#p l with
 |none=>
  rw[hf] at ef;refine 9#V;refine ite2 8#J 5#y
  ·show 122;exact q .non H 18#H (by unfold defC;rw[hf];exact rfl)
  ·exfalso;rw[ef] at c;exact c ∅
 |some p=>
 rw[hf] at ef;dsimp only at ef ⊢;rw[ef];have hp0:(0:Int)<=(p:Int):=Int.natCast_nonneg p
 try dsimp only[tAsg.K0,tDrop.K0,Ends.to_nx,Ends.to_rt,tSeq,am]
 refine s_if _ (t_or false (![91].isPrefixOf l) (λR h=>⟨_,rfl,_,_,rfl,rfl,_,rfl,?_⟩) (λ_ H1 s1=>iT _ (fG l [91] hl rfl 4#e))) 9#w 9#w
 ·rw[show decide ((p:Int) < 0)=false from 0#D nofun];exact h H 18#H
 ·have c':¬ [91].isPrefixOf l=true:=λz=>by rw[z] at c;cases c
  exact q .non H0 s0 (by unfold defC;rw[hf];simp only[];rw[1#d c'];exact rfl)
 have h1:[91].isPrefixOf l=true:=by
  cases z:[91].isPrefixOf l with
  |true=>rfl
  |false=>rw[z] at c;cases c
 refine⟨_,rfl,_,rfl,_,rfl,big ∅,_,_,rfl,rfl,_,rfl,_,rfl,4#a,l.drop (p+3),?_,?_,λW H1 s1 hW eW=>?_⟩
 ·show [V.str (6#f (S l) 23#((p:Int)+3) none)]=_;rw[show (p:Int)+3=((p+3:Nat):Int) by omega,dC]
 ·rw[l15];omega
 have a2:((l.drop 2).take (p - 2)).length<=1000000:=by rw[l29,l15];omega
 have a1:((l.drop 1).take (p - 1)).length<=1000000:=by rw[l29,l15];omega
 have e2:[V.str (6#f (S l) 23#2 23#(p:Int))]=[vS ((l.drop 2).take (p - 2))]:=by rw[show 6#f (S l) 23#2 23#(p:Int)=_ from wQ l 2 p]
 have e1:[V.str (6#f (S l) 23#1 23#(p:Int))]=[vS ((l.drop 1).take (p - 1))]:=by rw[show 6#f (S l) 23#1 23#(p:Int)=_ from wQ l 1 p]
 have a5:(l.drop (p+3)).length<=1000000:=by rw[l15];omega
 try dsimp only[tAsg.K0,tDrop.K0,Ends.to_nx,Ends.to_rt,tSeq,am]
 refine s_if _ (dF ([91,94].isPrefixOf l) (aE ((l.drop 2).take (p - 2))) (fG l 3#f hl rfl 4#e) (λ_ H2 s2 R h=>?_)) (λH2 s2 c=>?_) (λH2 s2 c=>?_)
 ·exact⟨_,rfl,_,rfl,_,rfl,_,rfl,_,rfl,4#a,_,e2,a2,λH' s'=>⟨_,rfl,h H' s'⟩⟩
 ·rw[0#r] at c;refine⟨_,rfl,_,rfl,_,rfl,_,rfl,_,rfl,4#a,_,e2,a2,c.2,λH3 s3=>⟨rfl,_,rfl,S [32],W,(ax 0#cx).map S,rfl,rfl,?_,lC _ a5,bg3,λr a3=>?_⟩⟩
  ·exact 0#w (by rw[(0#Y) _ _ eW,dA])
  ·refine q _ _ (((0#bb).trans (0#Y)).trans 46#a3) ?_;show 48;rw[0#z (by rw[h1];simp),1#d c];refine 118#r;show upd _ _ _ _=_;rw[ac,cq];rfl
 try dsimp only[Ends.to_nx,Ends.to_rt,tSeq,ju]
 have a4:∀H',Same H1 H'->SqL K H' W ((ax 0#cx).map vS):=λH' s'=>0#w (s' _ _ eW);refine s_if _ (dF (aE ((l.drop 1).take (p - 1))) 28#((ax 0#cx).length=1) (λR h=>?_) (λ_ H3 s3 R h=>?_)) (λH3 s3 d=>?_) (λH3 s3 d=>?_)
 ·exact⟨_,rfl,_,rfl,_,rfl,_,rfl,_,rfl,4#a,_,e1,a1,λH' s'=>⟨_,rfl,h H' s'⟩⟩
 ·refine⟨_,rfl,_,_,rfl, .inl (a4 _ (0#Y)),rfl,_,rfl,?_⟩;rw [l4,mG,show ((((ax 0#cx).length:Nat):Int)==1)=decide ((ax 0#cx).length=1) by
   rw[2#L];simp;omega]
  exact h H3 18#H3
 ·rw[0#r] at d;obtain⟨d1,d2⟩:=d;have d2:=0#s d2;obtain⟨x,hx⟩:=List.length_eq_one_iff.mp d2;refine⟨_,rfl,_,rfl,_,rfl,_,rfl,_,rfl,4#a,_,e1,a1,d1,λH4 s4=>⟨_,rfl,W,_,0,vS x,rfl,rfl,a4 _ ((0#Y).trans s4),by rw[hx];rfl,bg3,λr a3=>?_⟩⟩;refine q _ _ (((0#bb).trans ((0#Y).trans s4)).trans 46#a3) ?_;show 48;rw[0#z (by rw[h1];simp),0#z 0#fw,1#d ⟨d1,d2⟩];refine 118#r;show upd _ _ _ _=_;rw[ac,hx];rfl
 ·refine q _ _ ((0#bb).trans (0#Y)) ?_;show 48;rw[0#z (by rw[h1];simp),0#z 0#fw,0#z (by intro z;rw[z.1,1#f z.2] at d;cases d)];rfl
abbrev yN:Stmt:=top 42
def yO (F:2#k "item_or_plain" "item_or_plain" yN f fd)(T:Tx mg)(Df:0#c 2 "tidy" 1#K spTidy):0#b 3 f fd 9#z (spItem K):=by
 have sc:1#b ["bare","body","far"] 9#z 55#yN:=mkS;show 0;show 15;refine az (xbc 84#(xm 2#P PySem.F.slot_str_lstrip PySem.F.type_str_lstrip lm (2#U) 10#xstr)
  (xbc 49#(xop cP 15#aI (2#T 10#(2#E)))
  (xbc (xif (xor 111#(2#E) (xor1 111#(2#E))).xt 13#(xtup 142#(xac (5#M) (xac (xix dg (2#E) xint 0#n) 19#(xcd Df hr 35#(9#n (2#E) 93#xint xo0))))) xb0)
  13#(xtup 142#(xac (5#M) 19#(xcd Df hr 35#(2#E))))))) ?_
 ac_nf;refine 9#j
 try dsimp only[tAsg.K0,tDrop.K0,Ends.to_nx,Ends.to_rt]
 rw[show 9#M (S l) 4#G=_ from jC l [32]];have a1:=fF ([32]:0#a).contains l;obtain⟨body,v4⟩:∃body,body=l.dropWhile ([32]:List Nat).contains:=0#F;rw[<- v4] at a1 ⊢;have hb:body.length<=1000000:=by omega
 refine⟨_,rfl,_,rfl,4#a,_,rfl,_,rfl,bigS hb,_,_,rfl,rfl,?_⟩
 try dsimp only[tAsg.K0,tDrop.K0,Ends.to_nx,Ends.to_rt,tSeq,am]
 rw[aw,aw,show (l.length:Int) - (body.length:Int)=((0#L - body.length:Nat):Int) by omega];refine s_if _ (t_or ([45,32].isPrefixOf body) ([43,32].isPrefixOf body) (fG body [45,32] hb rfl 4#e) (λ_ H1 s1=>fG body [43,32] hb rfl 4#e)) 9#w 9#w
 ·have c':[45,32].isPrefixOf body=true ∨ [43,32].isPrefixOf body=true:=by rwa [7#Y] at c
  have h1:0 < body.length:=by
   rcases c' with c' |c' <;> rw[pre2] at c' <;> exact(0#C c'.1).1
  refine ⟨_,rfl,_,rfl,_,_,_,rfl,rfl,bigS hb,at_S h1,_,rfl,_,rfl,_,rfl,bigS hb,body.drop 2,by rw[show 6#f (S body) 23#2 none=_ from dC body 2];rfl,by rw[l15];omega,
   λH1 s1=>⟨bg4,λr a2=>?_⟩⟩
  refine q _ _ 0#fW ?_;show 76;rw[<- v4,1#d c'];show upd _ _ _ _=_;rw[ac];have e0:body.headD 0=body.getD 0 0:=by cases body <;> rfl
  rw[e0];rfl
 ·have c':¬ ([45,32].isPrefixOf body=true ∨ [43,32].isPrefixOf body=true):=by
   intro z;rw[0#bh] at c;rcases z with z |z
   ·rw[z] at c;exact 1#o c.1
   ·rw[z] at c;exact 1#o c.2
  refine⟨_,rfl,_,rfl,body,rfl,hb,λH1 s1=>⟨bg3,λr a2=>?_⟩⟩;refine q _ _ 0#fW ?_;show 76;rw[<- v4,0#z c'];show upd _ _ _ _=_;rw[ac];rfl
abbrev yP:Stmt:=top 37
def yQ (F:2#k "sort_of" "sort_of" yP f fd)(T:Tx mg)(Df:0#c 2 "tidy" 1#K spTidy)(DR:0#c 1 "rest_of_quote" 0#ej spRest)(DS:0#c 1 "heading_level" 9#z spHead)
  (DT:0#c 2 "is_cells" 9#z spIsC)(DU:0#c 3 "split_cells" 1#K spCells)(DV:0#c 3 "definition_of" 9#z (spDef K))(DW:0#c 3 "item_or_plain" 9#z (spItem K)):
  FnOk P w K mg base CX0 4 f fd 0#ej (spSort K):=by
 have sc:1#b ["row","bare","level","definition"] 0#ej 55#yP:=mkS;show 1;show 15;refine az (xbc 84#(xm 2#P PySem.F.slot_str_rstrip PySem.F.type_str_rstrip rm (2#U) 10#xstr)
  (xbc (xif 151#(2#E) 13#(xtup 19#xstr) xb0)
  (xbc (xif 111#(2#E) 13#(xtup (1#p 19#(xcd DR hr 35#(2#U)))) xb0)
  (xbc (xif (aB aY (2#E) (xgS T.z13) (ak _)) 13#(xtup 19#xstr) xb0)
  (xbc 49#(xcd DS hr 10#(2#E))
  (xbc (xif 169#(gL,xint) 13#(xtup 142#(xac (5#M) 19#(xcd Df hr 35#(9#n (2#E) 93#(5#M) xo0)))) xb0)
  (xbc (xif (bL (xcd DT hr 10#(2#E))) 13#(xtup (1#p 19#(xcd DU hr 35#(9#n (2#E) 93#xint 93#(5#c))))) xb0)
  (xbc 39#(xcd DV hr 10#(2#E))
  (xbc (xif (aB mH (6#k) xnon (ak _)) 13#(6#k) xb0)
  13#(xcd DW hr 19#(2#E))))))))))) ?_
 ac_nf;refine 9#j
 try dsimp only[tAsg.K0,tDrop.K0,Ends.to_nx,Ends.to_rt,tSeq,am]
 rw[show Txt.rstripChars (S l) 4#G=S (bN l) from vp l [32]];have a1:=oE l;obtain⟨b,hb⟩:∃b,b=bN l:=0#F;rw[<- hb] at a1 ⊢;have a1:b.length<=1000000:=by omega
 have mk:∀(r:Srt) ,aL l=r->∀p H',0#T->SrtAt K H' p r->Q 11#p H':=λr e p H' s' h=>q p H' s' (by rw[e];exact h);refine s_if _ (t_eq b [] rfl 4#e) 9#w 9#w
 ·have c:=0#s c;refine⟨bg1,λr a2=>mk .empty ?_ _ _ (s0.trans 46#a2) ac⟩;show 18;rw[<- hb,1#d c]
 have c1:=1#u c
 try dsimp only[Ends.to_nx,Ends.to_rt,ju]
 refine s_if _ (fG b [62] a1 rfl 4#e) (λH1 s1 c=>?_) (λH1 s1 c2=>?_)
 ·refine⟨_,rfl,l,rfl,hl,bg2,λr a2=>mk (.quote (dz l)) ?_ _ _ 0#fW ac⟩;show 18;rw[<- hb,0#z c1,1#d c]
 have c2:=Bool.eq_false_iff.mp c2
 try dsimp only[Ends.to_nx,Ends.to_rt,ju]
 refine s_if _ (t_eq b 3#m rfl 4#e) (λH2 s2 c=>?_) (λH2 s2 c3=>?_)
 ·have c:=0#s c;refine⟨bg1,λr a2=>mk .fence ?_ _ _ (((0#bb).trans s2).trans 46#a2) ac⟩;show 18;rw[<- hb,0#z c1,0#z c2,1#d c]
 have c3:=1#u c3
 try dsimp only[Ends.to_nx,Ends.to_rt,ju]
 have a3:=(0#bb).trans s2;refine⟨_,rfl,b,rfl,a1,?_⟩;refine 9#V;refine ite2 5#y (λc4=>?_)
 ·have c:=0#s c;refine⟨_,rfl,_,rfl,_,rfl,_,rfl,_,rfl,bigS a1,b.drop (cw b),by rw[dC];rfl,by rw[l15];omega,λH3 s3=>⟨bg3,λr a2=>mk (.heading (cw b) (aN (b.drop (cw b)))) ?_ _ _ ((0#fM).trans 46#a2) ac⟩⟩;show 18;rw[<- hb,0#z c1,0#z c2,0#z c3,1#d nofun]
 have c4:¬ cw b > 0:=by
  have:=1#u (1#s c4);omega
 try dsimp only[Ends.to_nx,Ends.to_rt,ju]
 refine⟨_,rfl,b,rfl,a1,_,rfl,?_⟩;refine ite2 5#y (λc5=>?_)
 ·have h2:2<=b.length:=by
   unfold bA at c;rw[0#r,0#r] at c;exact 0#s c.1.1
  refine⟨_,rfl,_,rfl,_,rfl,_,rfl,_,rfl,bigS a1,(b.drop 1).take (b.length - 2),?_,by rw[l29,l15];omega,λr H3 s3 hr3 er=>⟨bg2,λp hp=>?_⟩⟩
  ·show [V.str (6#f (S b) 23#1 23#(-1))]=_;rw[eO,rN b h2]
  ·have a4:r≠p:=λz=>by rw[<- z,er] at hp;cases hp
   refine mk (.cells 0#fx) ?_ _ _ ((0#fM).trans 46#hp) ⟨r,ac,by rw[ai a4];exact er⟩;show 18;rw[<- hb,0#z c1,0#z c2,0#z c3,0#z c4,1#d c]
 try dsimp only[Ends.to_nx,Ends.to_rt,ju]
 refine⟨_,rfl,b,rfl,a1,λv H3 s3 hv=>?_⟩;refine 6#w;have es:aL l=match defC b with |some d=>d |none=>fA b:=by
  show 18;rw[<- hb,0#z c1,0#z c2,0#z c3,0#z c4,0#z c5]
  all_goals (cases defC b <;> rfl)
 cases hd:defC b with
 |some d=>
  rw[hd] at hv es;obtain⟨p,rfl,hp⟩:=hv;exact⟨_,rfl,mk d es p H3 (0#fM) hp⟩
 |none=>
  rw[hd] at hv es;cases hv;exact⟨_,rfl,b,rfl,a1,λp H4 s4 h4=>mk _ es p H4 ((0#fM).trans s4) h4⟩
end
end K13
namespace Lm
def escC (l:0#a):List Nat:=ao 6#q (aG 124 l)
def escS (x:Nat):List Nat:=if x=124 then 6#q else [x]
def ni (g:0#a)(x:Nat)(p:0#a)(t:0#m):ao g ((x::p)::t)=x::ao g (p::t):=by
 cases t with
 |nil=>rfl
 |cons q r=>rfl
def lO (x:Nat)(l:0#a):escC (x::l)=escS x++escC l:=by
 unfold escC escS;by_cases h:x=124
 ·rw[1#d h,h,aZ];rw[aQ _ _ _ 163#gV];rfl
 ·rw[0#z h];obtain⟨p,t,e1,e2⟩:=aV 124 x l h;rw[e2,e1,ni];rfl
theorem cA:∀l:List Nat,escC l=l.flatMap escS
 | []=>rfl
 |x::l=>by rw[lO,cA l,l95]
def lP (l:0#a):unesc (escC l)=l:=by
 unfold escC;rw[f7,ja];intro p hp k hk;have h1:=d9 124 l p hp;obtain⟨t,e⟩:=hk;apply h1;have:(124:Nat)∈p.drop k:=by rw[<- e];simp
 exact l64 this
theorem im:∀(l:List Nat) (p:Nat),aA p (escC l)=[escC l]
 | [],p=>rfl
 |x::l,p=>by
  rw[lO];unfold escS;by_cases h:x=124
  ·rw[1#d h];show aA p (92::124::escC l)=_;rw[aA,0#z 0#h,aA,0#z 0#h,im l 124];rfl
  ·rw[0#z h];show aA p (x::escC l)=_;rw[aA,0#z (by simp[h]),im l x];rfl
def se (l:0#a):bv (escC l)=[escC l]:=im l 0
def cC (l:0#a):Bool := !(l.takeWhile ([45]:0#a).contains).isEmpty&&(l.dropWhile ([45]:0#a).contains==[]||l.dropWhile ([45]:0#a).contains==[58])
def lQ (l:0#a):List Nat:=if l.getLast? = some 58 then l.dropLast else l
def oN (l:0#a):cC l=true ↔ lQ l≠[]/\∀c∈lQ l,c=45:=by
 have sp:l.takeWhile ([45]:0#a).contains++l.dropWhile ([45]:0#a).contains=l:=l57;have tw:∀c∈l.takeWhile ([45]:0#a).contains,c=45:=by
  intro c hc;have:=List.all_takeWhile (p:=([45]:0#a).contains) (l:=l);have:=l39.mp this c hc;simpa using this
 have dh:∀y t,l.dropWhile ([45]:0#a).contains=y::t->y≠45:=by
  intro y t e hy;have:=List.head?_dropWhile_not ([45]:0#a).contains l;rw[e] at this;simp[hy] at this
 have hr:cC l=true ↔ l.takeWhile ([45]:0#a).contains≠[]/\(l.dropWhile ([45]:0#a).contains=[] ∨ l.dropWhile ([45]:0#a).contains=[58]):=by
  unfold cC;simp
 rw[hr];generalize l.takeWhile ([45]:List Nat).contains=a at *;generalize l.dropWhile ([45]:List Nat).contains=b at *;subst sp;unfold lQ;have ha:∀x,a.getLast? = some x->x=45:=λx hx=>tw x (List.mem_of_getLast? hx);cases b with
 |nil=>
  rw[l12,0#z (λz=>by have:=ha _ z;omega)];exact⟨λh=>⟨h.1,tw⟩,λh=>⟨h.1, .inl rfl⟩⟩
 |cons y t=>
  have hy:=dh y t rfl;cases t with
  |nil=>
   rw[show (a++[y]).getLast? = some y from List.getLast?_concat];by_cases h:y=58
   ·subst h;rw[1#d (by rfl),List.dropLast_concat];exact⟨λh=>⟨h.1,tw⟩,λh=>⟨h.1, .inr rfl⟩⟩
   ·rw[0#z 4#d];show 41
    ·rintro⟨_,h1 |h1⟩
     ·cases h1
     ·exact 0#A (by simpa using h1) h
    ·rintro⟨_,h2⟩;exact 0#A (h2 y 0#h) hy
  |cons z t=>
   show 41
   ·rintro⟨_,h1 |h1⟩
    ·cases h1
    ·simp at h1
   ·rintro⟨_,h2⟩;exfalso;apply hy;apply h2;split
    ·rw[List.dropLast_append_of_ne_nil 0#h];simp
    ·simp
open PySem Builtin.Str
def wV (l:0#a)(c:Nat):Txt.endswith (S l) 140#c=decide (l.getLast? = some c):=by
 unfold Txt.endswith;rw[gX,aw,aw,l77];rw[2#L,0#r,4#W,4#W,4#W];rcases l48 l with rfl |⟨q,x,rfl⟩
 ·simp
 ·rw[l55,List.getLast?_concat,l6];show q.length+1 ≥ 1/\((q++[x]).drop (q.length+1 - 1)).take 1=[c] ↔ _;rw[l82,l43];simp
def AY (d:0#a):d.dropWhile ([45]:0#a).contains=[] ↔ ∀c∈d,c=45:=by
 induction d with
 |nil=>simp
 |cons x r ih=>
  by_cases h:x=45
  ·subst h;rw[l98 0#h,ih];simp
  ·rw[l99 4#d];simp[h]
def sh (d:0#a):7#y (S d) 140#45=S [] ↔ ∀c∈d,c=45:=by
 have e:(S [45]).cps.contains=([45]:0#a).contains:=by funext c;simp
 have tl:=0#V (l57 (p:=([45]:0#a).contains) (l:=d));rw[l6] at tl;have hd:d.drop (d.takeWhile ([45]:0#a).contains).length=d.dropWhile ([45]:0#a).contains:=by
  conv=>lhs;arg 2;rw[<- l57 (p:=([45]:0#a).contains) (l:=d)]
  rw[l43]
 unfold Txt.stripChars Txt.stripBy;rw[e];have h0:stripLo ([45]:0#a).contains true (S d)=(d.takeWhile ([45]:0#a).contains).length:=by simp[stripLo]
 have h1:stripHi ([45]:0#a).contains true (S d) (d.takeWhile ([45]:0#a).contains).length=d.length - ((d.dropWhile ([45]:0#a).contains).reverse.takeWhile ([45]:0#a).contains).length:=by
  unfold stripHi;rw[1#d rfl,aw,ce,hd]
 have hz:((d.dropWhile ([45]:0#a).contains).reverse.takeWhile ([45]:0#a).contains).length<=(d.dropWhile ([45]:0#a).contains).length:=by
  have:=(List.takeWhile_sublist (p:=([45]:0#a).contains) (l:=(d.dropWhile ([45]:0#a).contains).reverse)).length_le;rw[l91] at this;show 54
 show 41
 ·intro h;rw[<- AY];show 36
  ·have:=dt h;rw[this];rfl
  ·rw[stripped,h0,h1] at h;have h:=2#u (λx:Str=>x.cps.size) h;unfold strSub at h;simp only[Array.size_extract,l30,l34] at h;rcases l48 (d.dropWhile ([45]:0#a).contains) with q |⟨a,x,q⟩
   ·exact q
   ·exfalso;have a2:d.dropWhile ([45]:0#a).contains≠[]:=by rw[q];simp
    have hlt:((d.dropWhile ([45]:0#a).contains).reverse.takeWhile ([45]:0#a).contains).length < (d.dropWhile ([45]:0#a).contains).length:=by
     refine Nat.lt_of_le_of_ne hz λz=>?_;have j7:(d.dropWhile ([45]:0#a).contains).reverse.takeWhile ([45]:0#a).contains=(d.dropWhile ([45]:0#a).contains).reverse:=
      (List.takeWhile_sublist (p:=([45]:0#a).contains)).eq_of_length (by rw[z,l91])
     cases hw:d.dropWhile ([45]:0#a).contains with
     |nil=>exact a2 hw
     |cons y t=>
      have hy:y∈(d.dropWhile ([45]:0#a).contains).reverse:=by rw[hw];simp
      rw[<- j7] at hy;have y1:=oC hy;have y2:=jG hw;rw[y1] at y2;cases y2
    omega
 ·intro h;have q:=(AY d).mpr h;have a1:(d.takeWhile ([45]:0#a).contains).length=d.length:=by rw[q] at tl;simpa using tl
  split
  ·rename_i hs;rw[stripSame,h0,a1] at hs;rw[0#r,beq_iff_eq] at hs;rw[l60 hs.1]
  ·rw[stripped,h0,h1,q];unfold strSub;rw[a1];simp
end Lm
namespace K13
open PySem L2 Lm Lw
section
variable {K:Frag}{σ:St}{H:Hp}{ta tb:TE}{a b:0#a}
def BZ (h1 : Ev ta σ H (vS a)) (h2 : Ev tb σ H (vS b)) : Ev 88#rEq σ H (.bl 28#(a = b)) := fun R r => h1 _ (h2 _ ⟨rfl,by
 have:decide (vS a=vS b)=decide (a=b):=2#F ⟨λh=>dt 102#h,λh=>by rw[h]⟩;rw[this];exact r⟩)
def B0 (h1 : Ev ta σ H (vS a)) (h2 : Ev tb σ H (vS b)) : Ev 88#rNe σ H (.bl 28#(a ≠ b)) := fun R r => h1 _ (h2 _ ⟨rfl,by
 have:(!decide (vS a=vS b))=decide (a≠b):=by
  rw[<- decide_not];exact 2#F 0#cj
 rw[this];exact r⟩)
def yR {p q : Bool} (h1 : Ev ta σ H (.bl p)) (h2 : p = true -> Ev tb σ H (.bl q)) : Ev (tAndV ta tb) σ H (.bl (p && q)) := fun R r => h1 _ ⟨p,rfl,by
 cases p with
 |false=>exact iteF r
 |true=>exact iteT (h2 rfl _ r)⟩
def B1 {f:Str->Str->V}{y:Str}(h:5#B (vS a))(hl:3#x<=1000000):Ev (tBM K "str" (rS2 f) ta 108#(tC 82#y)) σ H (f (S a) y):=λR r=>h _ ⟨rfl,_,_,rfl,rfl,4#a,r⟩
end
section
abbrev yS:Stmt:=top 32
inductive spRule (vs:0#t)(H:Hp)(Q:VK)(u3:XK):Prop
 |mk (l:List Nat)(_:vs=[vS l])(_:l.length<=1000000)(_:∀H',Same H H'->Q (.bl (cC l)) H')
def yT (F:2#k "is_rule" "is_rule" yS f fd):0#b 1 f fd 1#K spRule:=by
 have sc:1#b ["text","dashes"] 1#K 55#yS:=mkS;show 0;show 15;refine az (xbc 84#(xifE (bL (xm 2#P PySem.F.slot_str_endswith PySem.F.type_str_endswith gS (2#U) 10#xstr)) (9#n (2#U) xo0 93#(5#c)) (2#U))
  13#(jA (xcmp pY (2#E) xstr (ak _)) (xone (xcmp aY (xm 2#P PySem.F.slot_str_strip PySem.F.type_str_strip u6 (2#E) 19#xstr) xstr (ak _))))) ?_
 ac_nf;have a1:∀d,d=lQ l->Ev (tAndV (tOp rNe 44#1 (tC 82#(0#e ""))) (tOp rEq (tBM K "str" (rS2 λz y => .str (7#y z y)) 44#1 108#(tC 82#(0#e "-"))) (tC 82#(0#e "")))) [some (vS l),some (vS d)] H (.bl (cC l)):=by
  intro d hd;have a2:d.length<=1000000:=by
   rw[hd];unfold lQ;split
   ·rw[List.length_dropLast];omega
   ·exact hl
  have e:cC l=(decide (d≠[])&&decide ((7#y (S d) 140#45).cps.toList=[])):=by
   rw[2#L,oN,<- hd,0#r,4#W,4#W,<- sh];refine and_congr_right λ_=>⟨λz=>by rw[z],λz=>?_⟩;rw[<- S_of (7#y (S d) 140#45),z]
  rw[e];refine yR (B0 0#u (wR (b:=[]) rfl)) λ_=>BZ ?_ (wR (b:=[]) rfl);rw[show vS (7#y (S d) 140#45).cps.toList=V.str (7#y (S d) 140#45) by show V.str (S _)=_;rw[S_of]];exact B1 (f:=λz y => .str (7#y z y)) 0#u a2
 refine 7#G;rw[show Txt.endswith (S l) (0#e ":")=decide (l.getLast? = some 58) from wV l 58];refine ite2 (λe=>?_) (λe=>?_)
 ·refine rQ (σ:=[some (vS l),none]) (H:=H) hl (ev_v (k:=0) rfl) BP (jK (BM (i:=1) (g:=λi => .int (-i)) ev_c rfl)) (vz l) _ ?_;exact a1 l.dropLast (1#d (0#s e)).symm _ (q H 18#H)
 ·refine 118#_;exact a1 l (0#z (λz=>e (1#f z))).symm _ (q H 18#H)
end
end K13
namespace L2
open PySem PySem.Spec PyProof.Rows
end L2
namespace Lm
open PySem PySem.Builtin PySem.Builtin.Str PySem.StrLaws
end Lm
namespace Lw
open PySem L2 Lm PySem.Builtin.Str
def yU (c:Nat):lo1 (lo1 c)=lo1 c:=by
 unfold lo1;split
 ·rw[0#z nofun]
 ·rfl
def vF:∀c∈nameSigns,nameSigns.contains (lo1 c)=true:=by decide
def jj {l:0#a}(h:aE l=true):aE (aR l)=true/\aR (aR l)=aR l:=by
 unfold aE at h ⊢;rw[0#r,0#r] at h;obtain⟨⟨h1,h2⟩,h3⟩:=h;show 41
 ·unfold aR;rw[l4,h1,h2,3#Q,3#Q,l39];intro c hc;obtain⟨x,hx,rfl⟩:=4#i hc;exact vF x (l83.mp (l39.mp h3 x hx))
 ·unfold aR;rw[l20];exact l56 λc _=>yU c
open PySem L2 Lm
def takenC:List Nat:=[92,42,96,91,93,124,45,43,61,62,126,58,94]
def aO:List Nat->Bool
 |92::c::_=>6#H
 |_=>false
def nxtC:List Nat->Option Nat
 | []=>none
 | [x]=>if x=93 then some 0 else none
 |x::y::r=>if x=92/\takenC.contains y=true then (nxtC r).map (· + 2) else if x=93 then some 0 else (nxtC (y::r)).map (· + 1)
def freeC:List Nat->0#a
 | []=>[]
 | [x]=>[x]
 |x::y::r=>if x=92/\takenC.contains y=true then y::freeC r else x::freeC (y::r)
inductive Pc where
 |sign (c:Nat)
 |star
 |code (l:List Nat)
 |note (n:List Nat)
 |link (w n:List Nat)
def cutAt (c:Nat):0#a->Option (0#a×List Nat)
 | []=>none
 |x::r=>if x=c then some ([],r) else (cutAt c r).map λ(a,b)=>(x::a,b)
def nameAt (c:Nat)(l:0#a):Option (0#a×List Nat):=match cutAt c (l.take 13) with
 |some (a,_)=>if aE a then some (aR a,l.drop (3#x+1)) else none
 |none=>none
def b7 (r:0#a):Option 0#cs:=match r with
 |94::r=>(nameAt 93 r).map λ(n,r)=>(.note n,r)
 |_=>none
def bO (r:0#a):Option 0#cs:=match nxtC r with
 |some (k+1)=>match r.drop (k+2) with
  |40::r2=>(nameAt 41 r2).map λ(n,r3)=>(.link 8#N n,r3)
  |_=>none
 |_=>none
def b8 (r:0#a):Option 0#cs:=match cutAt 96 r with
 |some (x::a,b)=>some (.code (x::a),b)
 |_=>none
def cI:List Nat->Option 0#cs
 | []=>none
 |x::r=>
  if aO (x::r) then some (.sign (r.headD 0),r.tail)
  else if x=42 then some (.star,r)
  else if x=96 then some ((b8 r).getD (.sign 96,r))
  else if x=91 then some 0#eH
  else some (.sign x,r)
theorem cutAt_eq {c:Nat}:∀{l a b:List Nat},cutAt c l=some (a,b)->l=a++c::b/\c∉a
 | [],a,b,h=>by cases h
 |x::r,a,b,h=>by
  unfold cutAt at h;show 36
  ·rename_i e;cases h;subst e;exact⟨rfl,λz=>0#k⟩
  ·rename_i e;cases hr:cutAt c r with
   |none=>rw[hr] at h;cases h
   |some p=>
    obtain⟨a',b'⟩:=p;rw[hr] at h;cases h;obtain⟨h1,h2⟩:=cutAt_eq hr;exact ⟨by rw[h1];rfl,λz=>by
     rcases 1#y z with z |z
     ·exact e z.symm
     ·exact h2 z⟩
theorem cutAt_none {c:Nat}:∀{l:List Nat},cutAt c l=none ↔ c∉l
 | []=>⟨1#F,λ_=>rfl⟩
 |x::r=>by
  unfold cutAt;by_cases e:x=c
  ·rw[1#d e];exact⟨2#B,λz=>0#A (by rw[e];exact l7) z⟩
  ·rw[0#z e];have ih:=cutAt_none (c:=c) (l:=r);cases hr:cutAt c r with
   |none=>
    refine⟨λ_ z=>?_,λ_=>rfl⟩;rcases 1#y z with z |z
    ·exact e z.symm
    ·exact ih.mp hr z
   |some p=>
    refine⟨2#B,λz=>?_⟩;have:c∉r:=λm=>z 38#m;rw[ih.mpr this] at hr;cases hr
theorem io {c:Nat}:∀{a b:List Nat},c∉a->cutAt c (a++c::b)=some (a,b)
 | [],b,_=>by show (if c=c then _ else _)=_;rw[1#d rfl]
 |x::a,b,h=>by
  show cutAt c (x::(a++c::b))=_;unfold cutAt;rw[0#z (λe=>h (by rw[e];exact l7)),io (λm=>h 38#m)];rfl
def lR {c:Nat}{l n r:0#a}(h:nameAt c l=some (n,r)):1#m < l.length:=by
 unfold nameAt at h;show 36
 ·rename_i a b hc;show 36
  ·cases h;obtain⟨h1,_⟩:=cutAt_eq hc;have:=0#V h1;rw[l29,l6,l5] at this;rw[l15];omega
  ·cases h
 ·cases h
def jT {s r:0#a}{p:Pc}(h:cI s=some (p,r)):1#m < s.length:=by
 cases s with
 |nil=>cases h
 |cons x t=>
  rw[l5];have h:0#p=some (p,r):=h;show 36
  ·cases h;have:t.tail.length<=t.length:=by rw[List.length_tail];omega
   omega
  ·show 36
   ·cases h;omega
   ·show 36
    ·cases hc:b8 t with
     |none=>rw[hc] at h;cases h;omega
     |some q=>
      rw[hc] at h;cases h;unfold b8 at hc;split at hc
      ·rename_i y a b he;cases hc;have:=0#V (cutAt_eq he).1;rw[l6,l5,l5] at this;omega
      ·cases hc
    ·show 36
     ·cases hm:b7 t with
      |some q=>
       rw[hm] at h;cases h;show 99
       ·cases hn:nameAt 93 _ with
        |none=>rw[hn] at hm;cases hm
        |some q=>
         rw[hn] at hm;cases hm;have:=lR hn;rw[l5];omega
       ·cases hm
      |none=>
       rw[hm] at h;cases hl:bO t with
       |none=>rw[hl] at h;cases h;omega
       |some q=>
        rw[hl] at h;cases h;unfold bO at hl;split at hl
        ·split at hl
         ·rename_i r2 hd;cases hn:nameAt 41 r2 with
          |none=>rw[hn] at hl;cases hl
          |some q=>
           rw[hn] at hl;cases hl;have h1:=lR hn;have h2:=0#V hd;rw[l15,l5] at h2;omega
         ·cases hl
        ·cases hl
     ·cases h;omega
def aF (s:0#a):List Pc:=match h:cI s with
 |none=>[]
 |some (p,r)=>p::aF r
termination_by s.length
decreasing_by exact jT h
def bX:aF []=[]:=by
 unfold aF;rfl
def bC {s r:0#a}{p:Pc}(h:cI s=some (p,r)):aF s=p::aF r:=by
 rw[aF];split
 ·rename_i e;rw[h] at e;cases e
 ·rename_i e;rw[h] at e;cases e;rfl
def c6 (o:Nat):Option Nat->Int
 |none => -1
 |some k=>((o+k:Nat):Int)
def clGo (o:Nat):0#a->List Int
 | []=>[]
 | [_]=>[-1]
 |x::y::r=>if x=92/\takenC.contains y=true then c6 (o+2) 0#ea::c6 (o+2) 0#ea::clGo (o+2) r else c6 (o+1) (nxtC (y::r))::clGo (o+1) (y::r)
def takes_iff {x y:Nat}{r:0#a}:aO 0#cz=true ↔ x=92/\takenC.contains y=true:=by
 by_cases e:x=92
 ·subst e;exact⟨λh=>⟨rfl,h⟩,λh=>h.2⟩
 ·refine⟨λh=>?_,λh=>0#A h.1 e⟩;exfalso;unfold aO at h;show 36
  ·rename_i z;exact e (6#d z).1
  ·cases h
def si {o x y:Nat}{r:0#a}(h:aO 0#cz=true):clGo o 0#cz=c6 (o+2) 0#ea::c6 (o+2) 0#ea::clGo (o+2) r:=by
 show 5#Z=_;rw[1#d (takes_iff.mp h)]
def oO {o x:Nat}{r:0#a}(h:aO (x::r)=false):clGo o (x::r)=c6 (o+1) 0#ea::clGo (o+1) r:=by
 cases r with
 |nil=>rfl
 |cons y r=>
  show 5#Z=_;rw[0#z λz=>by rw[takes_iff.mpr z] at h;cases h]
def vG {x y:Nat}{r:0#a}(h:aO 0#cz=true):nxtC 0#cz=(nxtC r).map (· + 2):=by
 show 5#Z=_;rw[1#d (takes_iff.mp h)]
def jU {r:0#a}:nxtC (93::r)=some 0:=by
 cases r with
 |nil=>rfl
 |cons y r=>
  show (if (93:Nat)=92/\takenC.contains y=true then _ else if (93:Nat)=93 then some 0 else _)=_;rw[0#z λz=>0#A z.1 ∅,1#d rfl]
def sj {x:Nat}{r:0#a}(h:aO (x::r)=false)(hx:x≠93):nxtC (x::r)=(nxtC r).map (· + 1):=by
 cases r with
 |nil=>
  show (if x=93 then some 0 else none)=_;rw[0#z hx];rfl
 |cons y r=>
  show (if x=92/\takenC.contains y=true then _ else if x=93 then some 0 else _)=_;rw[0#z (λz=>by rw[takes_iff.mpr z] at h;cases h),0#z hx]
def lS (o k:Nat)(v:Option Nat):c6 o (v.map (· + k))=c6 (o+k) v:=by
 cases v with
 |none=>rfl
 |some j=>show ((o+(j+k):Nat):Int)=((o+k+j:Nat):Int);omega
structure ClAt (t:0#a)(p n:Nat)(pre:List Int):Prop where
 eq:clGo 0 t=pre++clGo p 66#p
 len:0#bn=p
 le:n<=p
 wait:∀v∈pre.drop n,v=c6 p (nxtC 66#p)
def ClAt.start (t:0#a):ClAt t 0 0 []:=⟨rfl,rfl,l9 0,λ_ z=>0#k⟩
def ClAt.take {t:0#a}{p n:Nat}{pre:List Int}(h:ClAt t p n pre)(hk:aO 66#p=true):∃pre',ClAt t (p+2) n pre'/\pre'.take n=0#fj/\p+2<=t.length:=by
 obtain⟨y,r,hy⟩:∃y r,t.drop p=92::y::r:=by
  unfold aO at hk;split at hk
  ·rename_i e;exact⟨_,_,e⟩
  ·cases hk
 have hr:t.drop (p+2)=r:=by rw[<- l26,hy];rfl
 have hl:p+2<=t.length:=by
  have:=0#V hy;rw[l15,l5,l5] at this;omega
 rw[hy] at hk;have hle:=h.le;refine⟨pre++[c6 (p+2) 0#ea,c6 (p+2) 0#ea],5#T,?_,hl⟩
 ·rw[h.eq,hy,si hk,hr,l19];rfl
 ·rw[hr];rw[l71 8#B] at hv;rcases 2#n hv with z |z
  ·rw[h.wait v z,hy,vG hk,lS]
  ·simp only[l10,List.not_mem_nil,or_false] at z;rcases z with z |z <;> exact z
 ·rw[l92 8#B]
def ClAt.one {t:0#a}{p n:Nat}{pre:List Int}(h:ClAt t p n pre)(hp:p < 1#n)(hk:aO 66#p=false)(hx:0#bo≠93):∃pre',ClAt t (p+1) n pre'/\pre'.take n=pre.take n:=by
 have hd:=l31 hp;have hg:0#bo=t[p]:=by rw[l24,0#l hp];rfl
 rw[hg] at hx;rw[hd] at hk;have hle:=h.le;refine 0#cU
 ·rw[h.eq,hd,oO hk,l19];rfl
 ·rw[l71 8#B] at hv;rcases 2#n hv with z |z
  ·rw[h.wait v z,hd,sj hk hx,lS]
  ·exact 2#R z
 ·rw[l92 8#B]
def ClAt.bar {t:0#a}{p n:Nat}{pre:List Int}(h:ClAt t p n pre)(hp:p < 1#n)(hk:aO 66#p=false)(hx:0#bo=93):∃pre',ClAt t (p+1) p pre'/\pre'.take p=0#fj++0#f (p - n) (p:Int):=by
 have hd:=l31 hp;have hg:0#bo=t[p]:=by rw[l24,0#l hp];rfl
 rw[hg] at hx;rw[hd] at hk;refine 0#cU
 ·rw[h.eq,hd,oO hk,l19];rfl
 ·rw[l71 8#C,l49 8#C] at hv;exact 2#R hv
 ·rw[l92 8#C,l41 8#C];have hw:pre.drop n=0#f (p - n) (p:Int):=by
   show 101;rw[h.wait v hv,hd,hx,jU];rfl
  rw[<- hw,l63]
def ClAt.fin {t:0#a}{n:Nat}{pre:List Int}(h:ClAt t t.length n pre):clGo 0 t=0#fj++0#f (1#n - n) (-1):=by
 have e:clGo 0 t=pre:=by rw[h.eq,l58];exact l12 pre
 have hw:pre.drop n=0#f (1#n - n) (-1):=by
  show 101;rw[h.wait v hv,l58];rfl
 rw[e,<- hw,l63]
end Lw
namespace L2
open PySem PySem.Spec PyProof.Rows
open Builtin Builtin.Str
def AZ (x y:Str)(lo hi:Nat):
  (occurrences x y lo hi 1=[]/\∀i,lo<=i->¬ StrLaws.At x y hi i) ∨
  ∃i r,occurrences x y lo hi 1=i::r/\lo<=i/\StrLaws.At x y hi i/\∀k,lo<=k->k < i->¬ StrLaws.At x y hi k:=by
 rw[StrLaws.occ_eq];rcases StrLaws.occ_first x y hi 1 (l9 1) (List.range' lo (hi+1 - lo)) lo (λi hi=>by have:=List.mem_range'_1.mp hi;omega) with ⟨h0,hn⟩ |⟨pre,a,post,e,h0,ha,hn⟩
 ·refine .inl ⟨by rw[h0],λi hlo hi=>?_⟩;exact hn i (by have:=hi.1;rw[List.mem_range'_1];omega) hi
 ·have hs:=StrLaws.range'_split_from e;refine .inr ⟨a,((forIn (List.range' lo (hi+1 - lo)) ((#[]:Array Nat),lo) (StrLaws.occBody x y hi 1)).run.fst.toList).tail,?_,hs.1,ha,λk a2 hk=>hn k (hs.2 k a2 hk)⟩;generalize (forIn (List.range' lo (hi+1 - lo)) ((#[]:Array Nat),lo) (StrLaws.occBody x y hi 1)).run.fst=a1 at h0;have h1:a1.toList[0]? = some a:=by simpa using h0
  cases hL:a1.toList with
  |nil=>rw[hL] at h1;cases h1
  |cons b t=>rw[hL] at h1;simp at h1;rw[h1];rfl
def nj (x y:Str)(i j:Int)(t u v v':Tok):Gives («str.find» ⟨[.str x t, .str y u, .int i v, .int j v'],[]⟩) 21#(match occurrences x y 116#i (min 116#j 7#k) 1 with |k::_=>(k:Int) | [] => -1):=by
 show Gives (match occurrences x y 116#i (min 116#j 7#k) 1 with |k::_=>retInt k | []=>(do rule "str.find.not-found";retInt (-1))) _;cases occurrences x y 116#i (min 116#j 7#k) 1 with
 |nil=>exact .rule (.of_eq rfl)
 |cons k _=>exact .of_eq rfl
end L2
namespace Lm
open PySem L2 Lw Builtin Builtin.Str
def fndC (c:Nat)(l:0#a)(lo hi:Nat):Int:=match Lw.cutAt c 7#N with
 |some (a,_)=>((lo+a.length:Nat):Int)
 |none => -1
def sk (l:0#a)(c hi i:Nat)(hh:hi<=0#L):StrLaws.At (S l) 140#c hi i ↔ (l.take hi)[i]? = some c:=by
 unfold StrLaws.At;rw[gX,aw,decide_eq_true_eq,List.getElem?_take];show i+1<=hi/\(0#fi).take 1=[c] ↔ _;show 41
 ·rintro⟨h1,h2⟩;rw[1#d nofun];have:(0#fi)[0]? = some c:=by
   have h3:=2#u (λz:List Nat=>z[0]?) h2;simpa[List.getElem?_take] using h3
  rw[2#X] at this;show 54
 ·intro h;show 36
  ·rename_i hlt;refine 0#ad;have hl:i < l.length:=by omega
   rw[l31 hl];rw[0#l hl] at h;rw[1#w h];rfl
  ·cases h
def so (l:0#a)(c lo hi:Nat)(hh:hi<=0#L):(match occurrences (S l) 140#c lo hi 1 with |k::_=>(k:Int) | [] => -1)=fndC c l lo hi:=by
 have hg:∀i,lo<=i->((l.take hi)[i]? = ((l.take hi).drop lo)[i - lo]?):=λi h=>by
  rw[2#X];congr 1;omega
 unfold fndC;rcases AZ (S l) 140#c lo hi with ⟨e,hn⟩ |⟨i,r,e,a2,a1,hn⟩
 ·rw[e];have:Lw.cutAt c 7#N=none:=by
   rw[Lw.cutAt_none];intro z;obtain⟨k,hk⟩:=List.mem_iff_getElem?.mp z;rw[2#X] at hk;exact hn (lo+k) nofun ((sk l c hi _ hh).mpr hk)
  rw[this]
 ·rw[e];have h1:=(sk l c hi i hh).mp a1;rw[hg i a2] at h1;cases hc:Lw.cutAt c 7#N with
  |none=>exact 0#A 125#h1 (Lw.cutAt_none.mp hc)
  |some p=>
   obtain⟨a,b⟩:=p;obtain⟨he,ha⟩:=Lw.cutAt_eq hc;show (i:Int)=((lo+a.length:Nat):Int);congr 1;rw[he] at h1;rcases Nat.lt_trichotomy (i - lo) 3#x with q |q |q
   ·rw[3#l q] at h1;exact 0#A 125#h1 ha
   ·omega
   ·exfalso;refine hn (lo+3#x) nofun nofun ((sk l c hi _ hh).mpr ?_);rw[hg _ nofun,he,show lo+3#x - lo=3#x by omega,2#l (7#j),l53];rfl
def gF (n k:Nat):fromIndex n (k:Int)=k:=by
 unfold fromIndex;rw[0#z nofun];omega
section
variable {X:Cx}
inductive rFind3 (x:V)(vs:0#t)(H:Hp)(Q:VK):Prop
 |mk (l:List Nat)(c lo:Nat)(_:x=vS l)(_:vs=[vS [c], .int (lo:Int)])(_:Q (.int (fndC c l lo l.length)) H)
inductive rFind4 (x:V)(vs:0#t)(H:Hp)(Q:VK):Prop
 |mk (l:List Nat)(c lo hi:Nat)(_:x=vS l)(_:vs=[vS [c], .int (lo:Int), .int (hi:Int)])(_:Q (.int (fndC c l lo (min hi l.length))) H)
inductive rStartsAt (x:V)(vs:0#t)(H:Hp)(Q:VK):Prop
 |mk (l y:List Nat)(i:Nat)(_:x=vS l)(_:vs=[vS y, .int (i:Int)])(_:y≠[])(_:Q (.bl (y.isPrefixOf (l.drop i))) H)
def vH:MtR X "str.find" rFind3:=by
 show 10;obtain⟨l,c,lo,rfl,rfl,q⟩:=h;show 8;cases rv with |cons r1 rv=>
 cases rv with |cons r2 rv=>
 cases rv;show 69;refine SC.find3 ?_;have e:Txt.find3 (S l) 140#c (lo:Int)=fndC c l lo l.length:=by
  unfold Txt.find3;rw[gF,aw];exact so l c lo l.length (7#j)
 rw[e];exact 63#_
def oP:MtR X "str.find" rFind4:=by
 show 10;obtain⟨l,c,lo,hi,rfl,rfl,q⟩:=h;show 8;cases rv with |cons r1 rv=>
 cases rv with |cons r2 rv=>
 cases rv with |cons r3 rv=>
 cases rv;show 69;obtain⟨t3,rfl⟩:=r3;refine call_gives F.slot_str_find (9#c) F.entry_str_find (F.args_str_find_4 _ _ _ _) (nj _ _ _ _ _ _ _ _) ?_;rw[gF,gF,aw,so l c lo (min hi 0#L) 163#Nat.min_le_right];exact 63#_
def ip:MtR X "str.startswith" rStartsAt:=by
 show 10;obtain⟨l,y,i,rfl,rfl,hy,q⟩:=h;show 8;cases rv with |cons r1 rv=>
 cases rv with |cons r2 rv=>
 cases rv;show 69;refine SC.startswith3 ?_;have e:Txt.startswith3 (S l) (S y) (i:Int)=y.isPrefixOf (0#fi):=by
  unfold Txt.startswith3;rw[gF,gX,aw,aw,2#L];simp only[Bool.and_eq_true,decide_eq_true_eq,l70];show 41
  ·rintro⟨_,h⟩;exact l79.mpr h.symm
  ·intro h;have h1:=h.length_le;rw[l15] at h1;have h2:0 < y.length:=by cases y with |nil=>exact 0#A rfl hy |cons _ _=>simp
   exact⟨by omega,(l79.mp h).symm⟩
 rw[e];exact 107#q
end
end Lm
namespace Lw
open PySem L2 Lm
def PcAt (c:Cp)(H:Hp)(v:V):Pc->Prop
 | .sign x=>v=vS [x]
 | .star=>v = .non
 | .code l=>∃a,v = .ref a/\P1At c H a (.code (S l))
 | .note n=>∃a,v = .ref a/\P1At c H a (.note (S n))
 | .link w n=>∃a,v = .ref a/\P1At c H a (.link (S w) (S n))
theorem PcAt.same {c:Cp}{H H':Hp}{v:V}(s:0#T):∀{p:Pc},PcAt c H v p->PcAt c H' v p
 | .sign _,h=>h
 | .star,h=>h
 | .code _,⟨a,e,h⟩=>⟨a,e,0#fd⟩
 | .note _,⟨a,e,h⟩=>⟨a,e,0#fd⟩
 | .link _ _,⟨a,e,h⟩=>⟨a,e,0#fd⟩
def PcsAt (c:Cp)(H:Hp):0#t->List Pc->Prop
 | [],[]=>True
 |v::vs,p::ps=>PcAt c H v p/\PcsAt c H vs ps
 |_,_=>False
theorem PcsAt.same {c:Cp}{H H':Hp}(s:0#T):∀{vs:List V} {ps:List Pc},0#gD->PcsAt c H' vs ps
 | [],[],_=>trivial
 |_::_,_::_,⟨a,b⟩=>⟨a.same s,b.same s⟩
theorem PcsAt.len {c:Cp}{H:Hp}:∀{vs:List V} {ps:List Pc},0#gD->6#h=2#x
 | [],[],_=>rfl
 |_::_,_::_,⟨_,b⟩=>by rw[l5,l5,b.len]
def PcsAt.snoc {c:Cp}{H:Hp}{vs:0#t}{ps:List Pc}{v:V}{p:Pc}(h:0#gD)(k:PcAt c H v p):PcsAt c H (vs++[v]) (ps++[p]):=by
 induction vs generalizing ps with
 |nil=>
  cases ps with
  |nil=>exact⟨k,trivial⟩
  |cons _ _=>exact 6#T
 |cons _ _ ih=>
  cases ps with
  |nil=>exact 6#T
  |cons _ _=>exact⟨h.1,ih h.2⟩
theorem PcsAt.get {c:Cp}{H:Hp}:∀{vs:List V} {ps:List Pc} {i:Nat} {v:V},0#gD->vs[i]? = some v->∃p,ps[i]? = some p/\PcAt c H v p
 | [],[],_,_,_,e=>by simp at e
 |_::_,_::_,0,_,⟨h,_⟩,e=>by cases e;exact 127#h
 |_::_,_::_,i+1,_,⟨_,b⟩,e=>by
  show 61
def Fnd (c:Cp)(n:Nat)(H:Hp)(Q:VK):Option 0#cs->Prop
 |none=>∀H',0#T->Q .non H'
 |some (pc,r)=>∀tp v H',0#T->H' tp=some (.tup [v, .int ((n - r.length:Nat):Int)])->PcAt c 86#H' v pc->Q 11#tp H'
def iu {c:Nat}{l n r:0#a}(h:nameAt c l=some (n,r)):∃a b,cutAt c (l.take 13)=some (a,b)/\l=a++c::r/\aE a=true/\n=aR a:=by
 unfold nameAt at h;show 36
 ·rename_i a b hc;show 36
  ·rename_i hn;cases h;refine⟨a,b,hc,?_,hn,rfl⟩;obtain⟨h1,_⟩:=cutAt_eq hc;have h2:l=a++c::(b++l.drop 13):=by
    conv=>lhs;rw[<- l63 13 l,h1]
    rw[l19];rfl
   have h3:l.drop (3#x+1)=b++l.drop 13:=by
    conv=>lhs;rw[h2]
    rw[<- l26,l43];rfl
   rw[h3];exact h2
  ·cases h
 ·cases h
theorem jk:∀{r:List Nat} {k:Nat},nxtC r=some k->∃u v,r=u++93::v/\u.length=k
 | [],k,h=>by cases h
 | [x],k,h=>by
  have h:(if x=93 then some 0 else none)=some k:=h;show 36
  ·rename_i e;cases h;subst e;exact⟨[],[],rfl,rfl⟩
  ·cases h
 |x::y::r,k,h=>by
  have h:(if x=92/\takenC.contains y=true then (nxtC r).map (· + 2) else if x=93 then some 0 else (nxtC (y::r)).map (· + 1))=some k:=h;show 36
  ·cases hr:nxtC r with
   |none=>rw[hr] at h;cases h
   |some j=>
    rw[hr] at h;cases h;obtain⟨u,v,e,hl⟩:=jk hr;exact⟨x::y::u,v,by rw[e];rfl,by rw[l5,l5,hl]⟩
  ·show 36
   ·rename_i e;cases h;subst e;exact⟨[],_,rfl,rfl⟩
   ·cases hr:nxtC (y::r) with
    |none=>rw[hr] at h;cases h
    |some j=>
     rw[hr] at h;cases h;obtain⟨u,v,e,hl⟩:=jk hr;exact⟨x::u,v,by rw[e];rfl,by rw[l5,hl]⟩
def Al (t:0#a)(p:Nat):Prop:=∃pre,clGo 0 t=pre++clGo p 66#p/\0#bn=p
def Al.zero (t:0#a):Al t 0:=⟨[],rfl,rfl⟩
def bY {s:0#a}(h:aO s=true):∃y r,s=92::y::r:=by
 unfold aO at h;show 36
 ·exact 98#_
 ·cases h
def Al.take {t:0#a}{p:Nat}(h:Al t p)(hk:aO 66#p=true):Al t (p+2):=by
 obtain⟨pre,e,hl⟩:=h;obtain⟨y,r,hy⟩:=bY hk;have hr:t.drop (p+2)=r:=by rw[<- l26,hy];rfl
 rw[hy] at hk;refine⟨pre++[c6 (p+2) 0#ea,c6 (p+2) 0#ea],?_,by rw[l6,hl];rfl⟩;rw[e,hy,si hk,hr,l19];rfl
def Al.one {t:0#a}{p:Nat}(h:Al t p)(hp:p < 1#n)(hk:aO 66#p=false):Al t (p+1):=by
 obtain⟨pre,e,hl⟩:=h;have hd:=l31 hp;rw[hd] at hk;refine⟨pre++[c6 (p+1) (nxtC 66#(p+1))],?_,by rw[l6,hl];rfl⟩;rw[e,hd,oO hk,l19];rfl
def Al.get {t r:0#a}{p:Nat}(h:Al t p)(hr:t.drop p=91::r):(clGo 0 t)[p]? = some (c6 (p+1) 0#ea):=by
 obtain⟨pre,e,hl⟩:=h;rw[e,hr,oO (by rfl),2#l nofun,hl,l53];rfl
def Al.to {t:0#a}{q:Nat}(hq:q<=1#n)(hz:t.getD (q - 1) 0≠92):∀(m p:Nat),q - p<=m->p<=q->Al t p->Al t q
 |m,p,hm,hpq,h=>by
  by_cases e:p=q
  ·subst e;exact h
  ·have hp:p < t.length:=by omega
   cases hk:aO 66#p with
   |true=>
    have hne:p+1≠q:=λz=>by
     obtain⟨y,r,hy⟩:=bY hk;have:(t.drop p)[0]? = some 92:=by rw[hy];rfl
     rw[2#X,Nat.add_zero] at this;exact hz (by rw[<- z,l82,l24,this];rfl)
    match m,hm with
    |m+1,hm=>exact Al.to hq hz m (p+2) nofun nofun (h.take hk)
    |0,hm=>omega
   |false=>
    match m,hm with
    |m+1,hm=>exact Al.to hq hz m (p+1) nofun nofun (h.one hp hk)
    |0,hm=>omega
def lT {s r:0#a}{p:Pc}(h:cI s=some (p,r)):(aO s=true/\∃x y,s=x::y::r) ∨ (aO s=false/\∃x,s=x::r) ∨ ∃u z,s=u++z::r/\z≠92:=by
 cases s with
 |nil=>cases h
 |cons x t=>
  have h:0#p=some (p,r):=h;show 36
  ·rename_i hk;cases h;obtain⟨y,r,e⟩:=bY hk;cases e;exact .inl ⟨hk,_,_,rfl⟩
  ·rename_i hk;have hk:=1#s hk;show 36
   ·cases h;exact .inr 119#⟨hk,_,rfl⟩
   ·show 36
    ·cases hc:b8 t with
     |none=>rw[hc] at h;cases h;exact .inr 119#⟨hk,_,rfl⟩
     |some q=>
      rw[hc] at h;cases h;unfold b8 at hc;split at hc
      ·rename_i y a b he;cases hc;exact .inr 120#⟨x::y::a,96,by rw[(cutAt_eq he).1];rfl,by decide⟩
      ·cases hc
    ·show 36
     ·cases hm:b7 t with
      |some q=>
       rw[hm] at h;cases h;show 99
       ·cases hn:nameAt 93 _ with
        |none=>rw[hn] at hm;cases hm
        |some q=>
         rw[hn] at hm;cases hm;obtain⟨a,_,_,e,_⟩:=iu hn;exact .inr 120#⟨x::94::a,93,by rw[e];rfl,by decide⟩
       ·cases hm
      |none=>
       rw[hm] at h;cases hl:bO t with
       |none=>rw[hl] at h;cases h;exact .inr 119#⟨hk,_,rfl⟩
       |some q=>
        rw[hl] at h;cases h;unfold bO at hl;split at hl
        ·rename_i k hx;split at hl
         ·rename_i r2 hd;cases hn:nameAt 41 r2 with
          |none=>rw[hn] at hl;cases hl
          |some q=>
           rw[hn] at hl;cases hl;obtain⟨a,_,_,e,_⟩:=iu hn;refine .inr 120#⟨x::(t.take (k+2)++40::a),41,?_,by decide⟩;rw[l28,l19,l28,<- e,<- hd,l63]
         ·cases hl
        ·cases hl
     ·cases h;exact .inr 119#⟨hk,_,rfl⟩
def Al.step {t r:0#a}{p:Nat}{pc:Pc}(h:Al t p)(hp:p < 1#n)(hs:cI 66#p=some (pc,r)):∃q,q=1#n - 1#m/\p < q/\q<=1#n/\t.drop q=r/\Al t q:=by
 have w6:(t.drop p).length=1#n - p:=l15;rcases lT hs with ⟨hk,x,y,e⟩ |⟨hk,x,e⟩ |⟨u,z,e,hz⟩
 ·have hl:=0#V e;rw[w6,l5,l5] at hl;refine⟨p+2,by omega,by omega,by omega,?_,h.take hk⟩;rw[<- l26,e];rfl
 ·have hl:=0#V e;rw[w6,l5] at hl;refine⟨p+1,by omega,by omega,by omega,?_,h.one hp hk⟩;rw[<- l26,e];rfl
 ·have hl:=0#V e;rw[w6,l6,l5] at hl;have hd:t.drop (p+(u.length+1))=r:=by
   rw[<- l26,e,<- l26,l43];rfl
  refine⟨p+(u.length+1),by omega,by omega,by omega,hd,Al.to nofun ?_ _ p (7#j) nofun h⟩;have:(t.drop p)[u.length]? = some z:=by rw[e,2#l (7#j),l53];rfl
  rw[2#X] at this;rw[show p+(u.length+1) - 1=p+u.length by omega,l24,this];exact hz
def fJ {s:0#a}(h:s≠[]):∃p r,cI s=some (p,r):=by
 cases s with
 |nil=>exact 0#A rfl h
 |cons x t=>
  show ∃p r,0#p=some (p,r);split
  ·exact 98#_
  ·split
   ·exact 98#_
   ·split
    ·exact 98#_
    ·split <;> exact 98#_
def gc:∀(n:Nat) (s:List Nat),s.length<=n->(aF s).length<=s.length
 |n,[],_=>by rw[bX];exact l9 0
 |0,x::s,h=>by simp at h
 |n+1,x::s,h=>by
  show 103;rw[bC e,l5];have h1:=jT e;have h2:=gc n r nofun;omega
inductive Qc where
 |txt (l:List Nat)
 |part (p:PC)
def toQ:Pc->Qc
 | .sign x => .txt [x]
 | .star => .txt [42]
 | .code l => .part (.one (.code (S l)))
 | .note n => .part (.one (.note (S n)))
 | .link w n => .part (.one (.link (S w) (S n)))
def bw (sg:0#m):List PC:=if sg.isEmpty then [] else [.one 72#sg.flatten]
def mgGo (sg:0#m):6#n->7#E
 | []=>bw sg
 | .txt l::r=>mgGo 0#et r
 | .part p::r=>bw sg++p::mgGo [] r
def bt (inn:6#n):Qc:=if inn.isEmpty then .txt [42,42] else .part (.strong (ones (mgGo [] inn)))
def wsGo:Option 16#Qc->List Pc->6#n
 |none,[]=>[]
 |some inn,[] => .txt [42]::inn
 |none, .star::r=>wsGo 0#bu r
 |some inn, .star::r=>bt inn::1#P r
 |none,p::r=>toQ p::1#P r
 |some inn,p::r=>wsGo 23#(inn++[toQ p]) r
def aT (t:0#a):List PC:=mgGo [] 0#co
def QAt (c:Cp)(H:Hp)(v:V):Qc->Prop
 | .txt l=>v=vS l
 | .part p=>∃a,v = .ref a/\PCAt c H a p
theorem QAt.same {c:Cp}{H H':Hp}{v:V}(s:0#T):∀{p:Qc},QAt c H v p->QAt c H' v p
 | .txt _,h=>h
 | .part _,⟨a,e,h⟩=>⟨a,e,0#fd⟩
def QsAt (c:Cp)(H:Hp):0#t->6#n->Prop
 | [],[]=>True
 |v::vs,p::ps=>QAt c H v p/\QsAt c H vs ps
 |_,_=>False
theorem QsAt.same {c:Cp}{H H':Hp}(s:0#T):∀{vs:List V} {ps:List Qc},0#dw->QsAt c H' vs ps
 | [],[],_=>trivial
 |_::_,_::_,⟨a,b⟩=>⟨a.same s,b.same s⟩
theorem QsAt.len {c:Cp}{H:Hp}:∀{vs:List V} {ps:List Qc},0#dw->6#h=2#x
 | [],[],_=>rfl
 |_::_,_::_,⟨_,b⟩=>by rw[l5,l5,b.len]
def QsAt.snoc {c:Cp}{H:Hp}{vs:0#t}{ps:6#n}{v:V}{p:Qc}(h:0#dw)(k:QAt c H v p):QsAt c H (vs++[v]) (ps++[p]):=by
 induction vs generalizing ps with
 |nil=>
  cases ps with
  |nil=>exact⟨k,trivial⟩
  |cons _ _=>exact 6#T
 |cons _ _ ih=>
  cases ps with
  |nil=>exact 6#T
  |cons _ _=>exact⟨h.1,ih h.2⟩
theorem QsAt.app {c:Cp}{H:Hp}:∀{vs us:List V} {ps qs:List Qc},0#dw->QsAt c H us qs->QsAt c H (vs++us) (ps++qs)
 | [],_,[],_,_,h=>h
 |_::_,_,_::_,_,⟨a,b⟩,h=>⟨a,b.app h⟩
theorem QsAt.get {c:Cp}{H:Hp}:∀{vs:List V} {ps:List Qc} {i:Nat} {v:V},0#dw->vs[i]? = some v->∃p,ps[i]? = some p/\QAt c H v p
 | [],[],_,_,_,e=>by simp at e
 |_::_,_::_,0,_,⟨h,_⟩,e=>by cases e;exact 127#h
 |_::_,_::_,i+1,_,⟨_,b⟩,e=>by
  show 61
theorem PcAt.toQ {c:Cp}{H:Hp}{v:V}:∀{p:Pc},PcAt c H v p->p ≠ .star->QAt c H v (toQ p)
 | .sign _,h,_=>h
 | .star,_,z=>0#A rfl z
 | .code _,h,_=>h
 | .note _,h,_=>h
 | .link _ _,h,_=>h
def lenQ:List Qc->Nat
 | []=>0
 | .txt l::r=>0#L+lenQ r
 | .part _::r=>lenQ r
theorem ek:∀(a b:List Qc),lenQ (a++b)=lenQ a+lenQ b
 | [],b=>by rw[l38];show _=0+_;omega
 | .txt l::a,b=>by rw[l28];show 0#L+lenQ (a++b)=0#L+lenQ a+lenQ b;rw[ek a b];omega
 | .part _::a,b=>by rw[l28];show lenQ (a++b)=lenQ a+lenQ b;exact ek a b
def QOk (qs:6#n):Prop:=∀l,Qc.txt l∈qs->Asc l/\l≠[]
def PcOk (ps:List Pc):Prop:=∀x,Pc.sign x∈ps->x < 128
def jV (p:Pc):lenQ [toQ p]<=1:=by cases p <;> simp[toQ,lenQ]
def jW {p:Pc}(hp:p ≠ .star){r:List Pc}(h:lenQ (1#P r)<=1#m+0/\(1#P r).length<=1#m+0):lenQ (1#P (p::r))<=(p::r).length+0/\(1#P (p::r)).length<=(p::r).length+0:=by
 obtain⟨h1,h2⟩:=h;have e:1#P (p::r)=[toQ p]++wsGo none r:=by cases p <;> first |rfl |exact 0#A rfl hp
 have h3:=jV p;rw[e,ek,l6,l5,l5,l34];omega
def jX {p:Pc}(hp:p ≠ .star){r:List Pc}{inn:6#n}(h:lenQ (wsGo 23#(inn++[toQ p]) r)<=1#m+(lenQ (inn++[toQ p])+1)/\(wsGo 23#(inn++[toQ p]) r).length<=1#m+((inn++[toQ p]).length+1)):lenQ (0#fU (p::r))<=(p::r).length+(lenQ inn+1)/\(0#fU (p::r)).length<=(p::r).length+(0#cR+1):=by
 obtain⟨h1,h2⟩:=h;have e:0#fU (p::r)=wsGo 23#(inn++[toQ p]) r:=by cases p <;> first |rfl |exact 0#A rfl hp
 have h3:=jV p;rw[ek] at h1;rw[l6,l5,l34] at h2;rw[e,l5];omega
theorem b9:∀(ps:List Pc) (o:Option (List Qc)),lenQ (wsGo o ps)<=2#x+(match o with |none=>0 |some inn=>lenQ inn+1)/\(wsGo o ps).length<=2#x+(match o with |none=>0 |some inn=>0#cR+1)
 | [],none=>⟨7#j,7#j⟩
 | [],some inn=>by
  show 1+lenQ inn<=0+(lenQ inn+1)/\0#cR+1<=0+(0#cR+1);omega
 | .star::r,none=>by
  have h:=b9 r 0#bu;have h1:lenQ (wsGo 0#bu r)<=1#m+(0+1):=h.1;have h2:(wsGo 0#bu r).length<=1#m+(0+1):=h.2;show lenQ (wsGo 0#bu r)<=(1#m+1)+0/\(wsGo 0#bu r).length<=(1#m+1)+0;omega
 | .star::r,some inn=>by
  have h:=b9 r none;have h1:lenQ (1#P r)<=1#m+0:=h.1;have h2:(1#P r).length<=1#m+0:=h.2;have h3:lenQ (bt inn::1#P r)<=2+lenQ (1#P r):=by
   unfold bt;split
   ·show 2+_<=_;exact l9 _
   ·show lenQ (1#P r)<=2+lenQ (1#P r);omega
  show lenQ (bt inn::1#P r)<=(1#m+1)+(lenQ inn+1)/\(1#P r).length+1<=(1#m+1)+(0#cR+1);omega
 | .sign x::r,none=>jW 5#q (b9 r none)
 | .code l::r,none=>jW 5#q (b9 r none)
 | .note l::r,none=>jW 5#q (b9 r none)
 | .link a b::r,none=>jW 5#q (b9 r none)
 | .sign x::r,some inn=>jX 5#q 0#aN
 | .code l::r,some inn=>jX 5#q 0#aN
 | .note l::r,some inn=>jX 5#q 0#aN
 | .link a b::r,some inn=>jX 5#q 0#aN
def jY {c lo hi:Nat}{l:0#a}(h:cutAt c 7#N=none):fndC c l lo hi = -1:=by
 unfold fndC;rw[h]
def jZ {c lo hi:Nat}{l a b:0#a}(h:cutAt c 7#N=some (a,b)):fndC c l lo hi=((lo+a.length:Nat):Int):=by
 unfold fndC;rw[h]
def win (t:0#a)(m k:Nat):(t.take (min (m+k) 1#n)).drop m=(t.drop m).take k:=by
 refine l84 λi=>?_;rw[2#X,List.getElem?_take,List.getElem?_take,2#X];by_cases h:i < k
 ·rw[1#d h];by_cases h2:m+i < 1#n
  ·rw[1#d nofun]
  ·rw[0#z nofun,3#b nofun]
 ·rw[0#z h,0#z nofun]
def jl {K:Frag}{te ti:TE}{σ:St}{H:Hp}{y:Str}{l z:0#a}{i:Nat}(ey:y=S z)(hz:z≠[])(he:Ev te σ H (vS l))(hi:Ev ti σ H 21#(i:Int)):
  Tells (tB (tBM K "str" rStartsAt te (tCons 0#ev 108#ti))) σ H (z.isPrefixOf (0#fi)):=by
 intro R k;subst ey;exact he _ ⟨rfl,hi _ ⟨l,z,i,rfl,rfl,hz,_,rfl,k H 18#H⟩⟩
theorem gG:∀{t:List Nat} {c:Nat},c∈freeC t->c∈t
 | [],_,h=>h
 | [_],_,h=>h
 |x::y::r,c,h=>by
  have h:c∈(if x=92/\takenC.contains y=true then y::freeC r else x::freeC (y::r)):=h;show 36
  ·rcases 1#y h with e |e
   ·rw[e];exact l8 _ l7
   ·exact l8 _ 38#(gG e)
  ·rcases 1#y h with e |e
   ·rw[e];exact l7
   ·exact l8 _ (gG e)
def jm {l:0#a}(h:Asc l)(hl:0#L<=100000):StrG (S l):=⟨yt h,by rw[aw];exact hl⟩
def yV {H H1:Hp}{x dx C:Addr}{o:HO}(s:4#L H1)(hx:H1 x=none)(hdx:H1 dx=none):4#L (upd 65#H1 x o)/\dif H (upd 65#H1 x o) x=some o:=
 ⟨aj 135#hx (aj 135#hx (aj 135#hdx s)),by rw[aD 135#hx];exact ac⟩
def A0 {H H1:Hp}{x dx C:Addr}{o1 o:HO}(s:4#L H1)(hx:H1 x=none)(hdx:H1 dx=none):4#L (upd (upd 65#H1 x o1) x o)/\dif H (upd (upd 65#H1 x o1) x o) x=some o:=
 ⟨aj 135#hx (aj 135#hx (aj 135#hx (aj 135#hdx s))),by rw[aD 135#hx];exact ac⟩
def bE {H H2:Hp}{tp:Addr}(h:H2 tp=none)(o:HO):Same 86#H2 86#(upd H2 tp o):=aq 18#_ (ad h o)
def Mo (R:Hp->Prop):Prop:=∀G G',Same G G'->R G->R G'
inductive NewQ (H:Hp)(W:1#B)(H':Hp)(R:Hp->Prop):Prop
 |mk (G)(_:Same G H')(_:∀b∈W,G b=none)(_:∀b,H b≠none->G b=none)(_:R G)
section
variable {H H' H3 H4:Hp}{W:1#B}{R R2 R':Hp->Prop}
def NewQ.same (h:9#J)(s:7#x):NewQ H W H4 R:=let 155#b:=h;⟨G,a.trans s,b,d,e⟩
def NewQ.upd {p:Addr}{o:HO}(h:9#J)(hp:p∈W):NewQ H W (L2.upd H' p o) R:=
 let 155#b:=h
 ⟨G,λx u z=>(ai (nq (b p hp) z)).trans (a x u z),b,d,e⟩
def NewQ.wide {p:Addr}(h:9#J)(hp:H' p=none):NewQ H (p::W) H' R:=
 let 155#b:=h
 ⟨G,a,λx hx=>by
  rcases 1#y hx with z |z
  ·rw[z];exact a.free hp
  ·exact b x z,d,e⟩
def NewQ.less {W':1#B}(h:9#J)(k:∀b∈W',b∈W):NewQ H W' H' R:=let 155#b:=h;⟨G,a,λx hx=>b x (k x hx),d,e⟩
def NewQ.dif (h:9#J)(m:Mo R):R 86#H':=
 let 155#_:=h
 m G _ (λx u z=>by
  have hx:H x=none:=by
   cases q:H x with
   |none=>rfl
   |some o=>rw[d x 0#bB] at z;cases z
  rw[aD hx];exact a x u z) e
def NewQ.join (h:9#J)(h2:NewQ H W H' R2)(m:Mo R)(m2:Mo R2)(k:∀G,R G->R2 G->R' G):NewQ H W H' R':=
 let 155#b:=h
 let ⟨G2,a2,b2,d2,e2⟩:=h2
 ⟨both G G2,jQ a a2,λx hx=>by unfold both;rw[b x hx];exact b2 x hx,λx hx=>by unfold both;rw[d x hx];exact d2 x hx,k _ (m _ _ oJ e) (m2 _ _ (oK a a2) e2)⟩
def NewQ.of (s:4#L H3)(hW:∀b∈W,H3 b≠none)(h:R (L2.dif H3 H4)):NewQ H W H4 R:=⟨L2.dif H3 H4,4#X,λb hb=>ej (hW b hb),λb hb=>ej (λz=>hb 135#z),h⟩
def NewQ.old (s:Same H3 H4)(hs:4#L H3)(hW:∀b∈W,H3 b=none)(h:R (L2.dif H H3)):NewQ H W H4 R:=⟨L2.dif H H3,dif_same.trans s,λb hb=>by rw[aD (hs.free (hW b hb))];exact hW b hb,λb hb=>ej hb,h⟩
def NewQ.triv (h:R λ_=>none):NewQ H W H' R:=⟨λ_=>none,(λ_ _ z=>0#k),0#n,0#n,h⟩
end
def B2 {c:Cp}{v:V}{p:Pc}:Mo λG=>PcAt c G v p:=λ_ _ s h=>0#fd
def wW {c:Cp}{vs:0#t}{ps:List Pc}:Mo λG=>PcsAt c G vs ps:=λ_ _ s h=>0#fd
def mo_Q {c:Cp}{v:V}{p:Qc}:Mo λG=>QAt c G v p:=λ_ _ s h=>0#fd
def B3 {c:Cp}{vs:0#t}{ps:6#n}:Mo λG=>QsAt c G vs ps:=λ_ _ s h=>0#fd
def A1 {c:Cp}{a:Addr}{p:PC}:Mo λG=>PCAt c G a p:=λ_ _ s h=>0#fd
def oQ {c:Cp}{as:1#B}{ps:7#E}:Mo λG=>PCs c G as ps:=λ_ _ s h=>0#fd
def NewQ.map {H H':Hp}{W:1#B}{R R':Hp->Prop}(h:9#J)(k:∀G,R G->R' G):NewQ H W H' R':=let 155#b:=h;⟨G,a,b,d,k G e⟩
def sq {s r:0#a}{x:Nat}(h:cI s=some (.sign x,r)):x∈s:=by
 cases s with
 |nil=>cases h
 |cons y t=>
  have h:(if aO (y::t) then some (Pc.sign (t.headD 0),t.tail) else if y=42 then some (Pc.star,t) else if y=96 then some ((b8 t).getD (.sign 96,t)) else if y=91 then some 0#eI else some (Pc.sign y,t))=some (.sign x,r):=h;show 36
  ·rename_i hk;cases h;obtain⟨z,r',e⟩:=bY hk;cases e;exact l8 _ l7
  ·show 36
   ·cases h
   ·show 36
    ·rename_i e;cases hc:b8 t with
     |none=>rw[hc] at h;cases h;rw[e];exact l7
     |some q=>
      rw[hc] at h;cases h;unfold b8 at hc;split at hc <;> cases hc
    ·show 36
     ·rename_i e;cases hm:b7 t with
      |some q=>
       rw[hm] at h;cases h;show 99
       ·cases hn:nameAt 93 _ with
        |none=>rw[hn] at hm;cases hm
        |some q=>rw[hn] at hm;cases hm
       ·cases hm
      |none=>
       rw[hm] at h;cases hl:bO t with
       |none=>rw[hl] at h;cases h;rw[e];exact l7
       |some q=>
        rw[hl] at h;cases h;unfold bO at hl;split at hl
        ·split at hl
         ·cases hn:nameAt 41 _ with
          |none=>rw[hn] at hl;cases hl
          |some q=>rw[hn] at hl;cases hl
         ·cases hl
        ·cases hl
     ·cases h;exact l7
def sr {s r:0#a}{p:Pc}(h:cI s=some (p,r)):∀c∈r,c∈s:=by
 rcases lT h with ⟨_,x,y,e⟩ |⟨_,x,e⟩ |⟨u,z,e,_⟩ <;> intro c hc <;> rw[e]
 ·exact l8 _ 38#hc
 ·exact l8 _ hc
 ·exact l35 _ 38#hc
def iw:∀(n:Nat) (s:List Nat),s.length<=n->Asc s->PcOk (aF s)
 |n,[],_,_=>by rw[bX];exact λ_ z=>0#k
 |0,x::s,h,_=>by simp at h
 |n+1,x::s,h,ha=>by
  show 103;rw[bC e];have h1:=jT e;intro y hy;rcases 1#y hy with z |z
  ·subst z;exact ha y (sq e)
  ·exact iw n r nofun (ha.sub (sr e)) y z
def su {p:Pc}{l:0#a}(hp:∀x,p = .sign x->x < 128)(h:Qc.txt l=toQ p):Asc l/\l≠[]:=by
 cases p with
 |sign x=>cases h;exact⟨λc hc=>by rw[2#R hc];exact hp x rfl,by simp⟩
 |star=>cases h;exact 3#g
 |code l=>cases h
 |note l=>cases h
 |link a b=>cases h
def QOk.app {a b:6#n}(h:QOk a)(k:QOk b):QOk (a++b):=λl hl=>by
 rcases 2#n hl with z |z
 ·exact h l z
 ·exact k l z
def QOk.cons {a:Qc}{b:6#n}(h:∀l,Qc.txt l=a->Asc l/\l≠[])(k:QOk b):QOk (a::b):=λl hl=>by
 rcases 1#y hl with z |z
 ·exact h l z
 ·exact k l z
def QOk.nil:QOk []:=λ_ z=>0#k
def qy (inn:6#n):∀l,Qc.txt l=bt inn->Asc l/\l≠[]:=λl h=>by
 unfold bt at h;show 36
 ·cases h;exact 3#g
 ·cases h
theorem gw:∀(ps:List Pc) (o:Option (List Qc)),PcOk ps->(∀inn,o=some inn->QOk inn)->QOk (wsGo o ps)
 | [],none,_,_=>QOk.nil
 | [],some inn,_,h=>QOk.cons (λl z=>by cases z;exact 3#g) (h inn rfl)
 | .star::r,none,hp,h=>gw r 0#bu 8#q λinn e=>by cases e;exact QOk.nil
 | .star::r,some inn,hp,h=>QOk.cons (qy inn) 2#v
 | .sign x::r,none,hp,h=>QOk.cons (λl z=>su (p := .sign x) (λy e=>by cases e;exact hp x l7) z) 2#v
 | .code x::r,none,hp,h=>QOk.cons (λl z=>0#k) 2#v
 | .note x::r,none,hp,h=>QOk.cons (λl z=>0#k) 2#v
 | .link x y::r,none,hp,h=>QOk.cons (λl z=>0#k) 2#v
 | .sign x::r,some inn,hp,h=>gw r 23#(inn++[toQ (.sign x)]) 8#q λ_ e=>by cases e;exact(h inn rfl).app 158#(λl z=>su (p := .sign x) (λy e=>by cases e;exact hp x l7) z)
 | .code x::r,some inn,hp,h=>gw r 23#(inn++[toQ (.code x)]) 8#q λ_ e=>by cases e;exact(h inn rfl).app 158#(λl z=>0#k)
 | .note x::r,some inn,hp,h=>gw r 23#(inn++[toQ (.note x)]) 8#q λ_ e=>by cases e;exact(h inn rfl).app 158#(λl z=>0#k)
 | .link x y::r,some inn,hp,h=>gw r 23#(inn++[toQ (.link x y)]) 8#q λ_ e=>by cases e;exact(h inn rfl).app 158#(λl z=>0#k)
def eV {p:Pc}(hp:p ≠ .star)(r:List Pc):1#P (p::r)=toQ p::wsGo none r:=by cases p <;> first |rfl |exact 0#A rfl hp
def eZ {p:Pc}(hp:p ≠ .star)(r:List Pc)(inn:6#n):0#fU (p::r)=wsGo 23#(inn++[toQ p]) r:=by cases p <;> first |rfl |exact 0#A rfl hp
def OneQ (qs:6#n):Prop:=∀p,Qc.part p∈qs->one? p≠none
def OneQ.snoc {qs:6#n}(h:OneQ qs)(p:Pc):OneQ (qs++[toQ p]):=λq hq=>by
 rcases 2#n hq with z |z
 ·exact h q z
 ·have z:=2#R z;cases p <;> cases z <;> exact λe=>7#t
def jn (sg:0#m):∀p∈bw sg,one? p≠none:=λp hp=>by
 unfold bw at hp;split at hp
 ·cases hp
 ·rw[2#R hp];exact λe=>7#t
theorem nk:∀(qs:List Qc) (sg:List (List Nat)),OneQ qs->∀p∈mgGo sg qs,one? p≠none
 | [],sg,_,p,hp=>jn sg p hp
 | .txt l::r,sg,h,p,hp=>nk r 0#et (λq hq=>h q 38#hq) p hp
 | .part q::r,sg,h,p,hp=>by
  have hp:p∈bw sg++q::mgGo [] r:=hp;rcases 2#n hp with z |z
  ·exact jn sg p z
  ·rcases 1#y z with z |z
   ·rw[z];exact h q l7
   ·exact nk r [] (λq hq=>h q 38#hq) p z
theorem glue_flat:∀l:List 16#Nat,ao [] l=l.flatten
 | []=>rfl
 | [c]=>by show c=c++[];rw[l12]
 |c::d::r=>by
  have ih:=glue_flat (d::r);rw[5#v,ih,l12];simp
def oR (l:0#m)(h:l.flatten.length<=100000):(((l.map S).map 8#S).sum+(l.map S).length * (S []).length)<=sizeLine:=by
 have e:((l.map S).map 8#S).sum=l.flatten.length:=by
  clear h
  induction l with
  |nil=>rfl
  |cons x l ih=>rw[l16,l16,l25,ih,aw,l36,l6]
 rw[e,aw,0#Z];simp only[l34,Nat.mul_zero];omega
def sw {qs:6#n}{i:Nat}{q:Qc}(h:qs[i]? = some q):lenQ (qs.drop i)=lenQ [q]+lenQ 0#fy:=by
 obtain⟨hi,he⟩:=0#C h;rw[l31 hi,he,<- ek];rfl
def lU {v:V}{i:Nat}{u:TS}{D:Ends}{σ:St}{H:Hp}(h:u D 0#fB H):tSeq (tAsg (tC v) (am i)) u D σ H:=h
end Lw
namespace K13
open PySem L2 Lm Lw
structure TxI (K:Frag)(mg:Str->0#B)(c:Cp)(BT:Addr):Prop extends TxP K mg c BT where
 u15:∃t,mg "TAKEN"=some 134#(S takenC)
 z38:0#N 11#c.Plain 3#N=2#p
 q38:0#N 11#c.Code 3#N=2#p
 u39:0#N 11#c.Strong 3#N=2#p
 g39:0#N 11#c.Link 3#N=2#p
 z39:0#N 11#c.Mark 3#N=2#p
theorem TxI.noStr {K:Frag}{mg:Str->0#B}{c:Cp}{BT:Addr}(T:4#I){H:Hp}{a:Addr}:∀{p:PC},PCAt c H a p->∃t,TyOf K H 11#a t/\PySem.W.kitOne K t 3#N=2#p
 | .one (.plain _),⟨_,_,e⟩=>⟨_,T.g26.ty e,T.z38⟩
 | .one (.code _),⟨_,_,e⟩=>⟨_,T.z26.ty e,T.q38⟩
 | .one (.link _ _),⟨_,_,_,e⟩=>⟨_,T.g18.ty e,T.g39⟩
 | .one (.note _),⟨_,_,e⟩=>⟨_,T.u27.ty e,T.z39⟩
 | .strong _,⟨_,_,_,e,_⟩=>⟨_,T.q26.ty e,T.u39⟩
def oS {t:0#a}{i:Nat}(h:i < 1#n):aO 66#i=(decide (0#cT=92)&&decide (i+1 < 1#n)&&takenC.contains (t.getD (i+1) 0)):=by
 rw[l31 h];have e:0#cT=t[i]:=by rw[l24,0#l h];rfl
 rw[e];by_cases h2:i+1 < 1#n
 ·rw[l31 h2];have e2:t.getD (i+1) 0=t[i+1]:=by rw[l24,0#l h2];rfl
  rw[e2,1#f h2,Bool.and_true];by_cases h3:t[i]=92
  ·rw[h3];rfl
  ·rw[0#D h3,Bool.false_and];unfold aO;split
   ·rename_i z;exact 0#A (6#d z).1 h3
   ·rfl
 ·rw[0#D h2,0#dp,Bool.false_and,l49 nofun];unfold aO;split
  ·rename_i z;exact 0#A (6#d z).2 (λy=>nomatch y)
  ·rfl
section
variable {c:Cp}{BT:Addr}
abbrev sx:Stmt:=top 61
inductive spTakes (vs:0#t)(H:Hp)(Q:VK)(u3:XK):Prop
 |mk (t:List Nat)(i:Nat)(_:vs=[vS t, .int (i:Int)])(_:i < t.length)(_:t.length<=1000000)(_:∀H',Same H H'->Q (.bl (aO (t.drop i))) H')
def vI (F:2#k "takes_next" "takes_next" sx f fd)(T:4#I):FnOk P w K mg base CX0 1 f fd p16 spTakes:=by
 have sc:1#b p16 p16 55#sx:=mkS;show 0;obtain⟨t,i,rfl,hi,hl,q⟩:=h;refine az (xbc (xif (xor 0#cu (xor1 (aB aY 4#l 15#aI (ak _)))).xt 13#xbl xb0)
  13#(xcmp gM (xix dg (2#U) 4#l 0#n) (xgS T.u15) 1#q)) ?_
 ac_nf;rw[BC];have a1:∀H',Ev (tOp rIxS 44#0 44#1) 0#aD H' (vS [0#cT]):=λH'=>by
  have:=AN (σ:=0#aD) (H:=H') (ta:=tVar 0) (tb:=tVar 1) (l:=t) (i:=(i:Int)) hl 0#u 0#u nofun nofun;rw[l40] at this;show 54
 have hT:Tells (tOr 112#(tOp rNe (tOp rIxS 44#0 44#1) (tC (.str "\\"))) 112#(tOp rEq (tOp (rI0 λi j=>V.int (i+j)) 44#1 (tC 21#1)) (tCB R_call_len_str 108#44#0))) 0#aD H (decide ([0#cT]≠[92])||decide (i+1=1#n)):=by
  refine t_or _ _ (t_ne _ [92] rfl (a1 H)) λ_ H' _ R k=>⟨_,rfl,_,_,rfl,rfl,_,rfl,_,rfl,4#a,rfl,_,rfl,?_⟩;rw[aw,show decide (V.int ((i:Int)+1)=V.int (t.length:Nat))=decide (i+1=1#n) by rw[0#fb];exact⟨λz=>by have:=V.int.inj z;omega,λz=>by rw[<- z];rfl⟩];exact k _ 18#_
 by_cases hc:0#cT=92/\i+1 < 1#n
 ·obtain⟨h1,h2⟩:=hc;refine br (hT.eq ?_) λH1 s1=>?_
  ·rw[h1,0#bh];exact⟨0#D (λz=>z rfl),0#D nofun⟩
  ·refine⟨_,rfl,_,rfl,_,_,rfl,rfl,qp hl nofun nofun ⟨S [t.getD (i+1) 0],S takenC,?_,rfl,?_⟩⟩
   ·rw[show ((i:Int)+1).toNat=i+1 by omega]
   ·have hq:=q H1 s1;rw[oS hi,1#f h1,1#f h2,3#Q,3#Q] at hq;rw[f6];exact hq
 ·refine cz (hT.eq ?_) λH1 s1=>?_
  ·rw[7#Y];by_cases h1:0#cT=92
   ·exact .inr (1#f (by have:¬ i+1 < t.length:=λz=>hc ⟨h1,z⟩;omega))
   ·exact .inl (1#f λz=>h1 (6#d z).1)
  ·have hq:=q H1 s1;rw[oS hi] at hq;have:(decide (0#cT=92)&&decide (i+1 < 1#n))=false:=by
    rw[Bool.and_eq_false_iff];by_cases h1:0#cT=92
    ·exact .inr (0#D λz=>hc ⟨h1,z⟩)
    ·exact .inl (0#D h1)
   rw[this,Bool.false_and] at hq;exact hq
def sy {x y:Nat}{r:0#a}(h:aO 0#cz=true):freeC 0#cz=y::freeC r:=by
 have hx:x=92/\takenC.contains y=true:=by
  by_cases e:x=92
  ·subst e;exact 89#h
  ·exfalso;unfold aO at h;show 36
   ·rename_i z;exact e (6#d z).1
   ·cases h
 show 2#o=_;rw[1#d hx]
def vJ {x:Nat}{r:0#a}(h:aO (x::r)=false):freeC (x::r)=x::freeC r:=by
 cases r with
 |nil=>rfl
 |cons y r=>
  show 2#o=_;rw[0#z];rintro⟨rfl,hy⟩;rw[show aO (92::y::r)=takenC.contains y from rfl,hy] at h;cases h
def sC {s:0#a}(h:aO s=true):∃y r,s=92::y::r:=by
 unfold aO at h;show 36
 ·exact 98#_
 ·cases h
theorem lV:∀l:List Nat,ao [] (l.map λc=>[c])=l
 | []=>rfl
 | [c]=>rfl
 |c::d::r=>by
  have ih:=lV (d::r);rw[l16,5#v,ih];rfl
theorem fK:∀t:List Nat,(freeC t).length<=1#n
 | []=>l9 0
 | [x]=>l9 1
 |x::y::r=>by
  show (if x=92/\takenC.contains y=true then y::freeC r else x::freeC (y::r)).length<=_;have h1:=fK r;have h2:=fK (y::r);split <;> simp only[l5] at * <;> omega
def vK {l:0#a}(h:0#L<=1000000):((((l.map λc=>[c]).map S).map 8#S).sum+((l.map λc=>[c]).map S).length * (S []).length)<=sizeLine:=by
 have e:(((l.map λc=>[c]).map S).map 8#S).sum=l.length:=by
  clear h
  induction l with
  |nil=>rfl
  |cons x l ih=>rw[l16,l16,l16,l25,ih,aw];simp only[l5,l34];omega
 rw[e,aw,0#Z];simp only[l34,Nat.mul_zero];omega
abbrev sD:Stmt:=top 66
inductive spFreed (vs:0#t)(H:Hp)(Q:VK)(u3:XK):Prop
 |mk (t:List Nat)(_:vs=[vS t])(_:t.length<=100000)(_:∀H',Same H H'->Q (vS (freeC t)) H')
def vL (F:2#k "freed" "freed" sD f fd)(T:4#I)(Dm:0#c 1 "takes_next" p16 spTakes):0#b 2 f fd 1#K spFreed:=by
 have sc:1#b ["text","signs","place"] 1#K 55#sD:=mkS;show 0;obtain⟨t,rfl,hl,q⟩:=h;refine az (xbc 20#1
  (xbc 49#xint
  (xbc (di 1#x 169#(eJ,15#aI)
  (xbc (xif 0#gu 103#58#2 xb0)
  (xbc (bI (xmA (2#E) 10#(xix dg (2#U) (5#M) 0#n)))
  103#58#2)))
  13#(0#M 19#(2#E))))) ?_
 show 13;rw[uV];refine⟨bg0,λl a4=>?_⟩;have s1:=ad a4 0#y;have e1:4#b l 0#y l=some 0#y:=ac
 symm
 show 78;refine bS (λσ' H'=>σ'=0#ek/\Same H H'/\H' l=some 14#((freeC t).map λc=>vS [c])) 3#H ?_
 ·refine cy (λm σ' H'=>Ex2 λ(p:Nat) (dn:List Nat)=>Al6 0#eA (0#T) (H' l=some 14#(dn.map λc=>vS [c])) (p<=1#n) (m=1#n - p) (dn++freeC 66#p=freeC t)) t.length ⟨0,[],rfl,s1,e1,4#r,rfl,rfl⟩ ?_;rintro m σ' H2 ⟨p,dn,rfl,s2,e2,hp,rfl,hd⟩;ac_rfl;refine 4#w
  ·show 29
  ·have a1:p < t.length:=0#s hc;have a9:(freeC t).length<=t.length:=fK t;have dl:dn.length<=t.length:=by
    have:=0#V hd;rw[l6] at this;omega
   have e3:=8#g e2;have a5:=0#Y;refine⟨_,rfl,_,rfl,t,p,rfl,a1,by omega,λH4 s4=>⟨_,rfl,?_⟩⟩;have e4:=4#k e3;have a6:=a5.trans s4;have fit:(dn.map λc=>vS [c]).length < sizeLine:=by rw[l4,hs];omega
   have new:∀j:Nat,j < 1#n->(upd H4 l 14#((dn.map λc=>vS [c])++[vS [t.getD j 0]])) l=some 14#((dn++[t.getD j 0]).map λc=>vS [c]):=λj _=>by rw[ac,l14];rfl
   have sG:∀o,4#L (upd H4 l o):=λo=>aj a4 a6;by_cases hk:aO 66#p=true
   ·rw[hk];refine iteT ?_;obtain⟨y,r,hy⟩:=sC hk;have a8:p+1 < t.length:=by
     have:=0#V hy;rw[l15,l5,l5] at this;omega
    have hg:t.getD (p+1) 0=y:=by
     have:(t.drop p)[1]? = some y:=by rw[hy];rfl
     rw[2#X] at this;rw[l24,this];rfl
    have a7:t.drop (p+2)=r:=by
     rw[show p+2=p+2 from rfl,<- l26,hy];rfl
    rw[hy] at hk;have hf:freeC 66#p=y::freeC 66#(p+2):=by rw[hy,sy hk,a7]
    show 88;refine 5#d;dsimp only[sA,sB];rw[show ((p:Int)+1).toNat=p+1 by omega,show ((p:Int)+1+1)=((p+2:Nat):Int) by omega];refine⟨1#n - (p+2),by omega,p+2,dn++[t.getD (p+1) 0],rfl,sG _,new (p+1) a8,by omega,rfl,?_⟩;rw[l19,<- hd,hf,hg];rfl
   ·have a2:aO 66#p=false:=1#s hk;rw[a2];refine iteF ?_;have a3:=l31 a1;rw[a3] at a2;have hg:0#bo=t[p]:=by rw[l24,0#l a1];rfl
    have hf:freeC 66#p=t[p]::freeC 66#(p+1):=by rw[a3,vJ a2]
    refine 5#d;dsimp only[sA,sB];rw[l40,show ((p:Int)+1)=((p+1:Nat):Int) by omega];refine⟨1#n - (p+1),by omega,p+1,dn++[0#bo],rfl,sG _,new p a1,by omega,rfl,?_⟩;rw[l19,<- hd,hf,hg];rfl
  ·have a1:p=t.length:=by have:=1#u hc;omega
   subst a1;rw[l58] at hd;refine hN _ _ ⟨rfl,0#Y,?_⟩;rw[<- hd,show freeC []=[] from rfl,l12];exact s3 _ _ e2
 ·rintro σ' H2 ⟨rfl,s2,e2⟩;ac_rfl;have a9:=fK t;have em:((freeC t).map λc=>[c]).map S=(freeC t).map λc=>S [c]:=by rw[l20];rfl
  refine⟨rfl,_,rfl,S [],l,((freeC t).map λc=>[c]).map S,rfl,rfl,0#w ?_,vK nofun,?_⟩
  ·rw[e2,l20,l20];rfl
  ·rw[cq,lV];exact q H2 s2
abbrev ix:Stmt:=top 62
inductive spClosings (vs:0#t)(H:Hp)(Q:VK)(u3:XK):Prop
 |mk (t:List Nat)(_:vs=[vS t])(_:t.length<=100000)(_:∀r H',Same H H'->H r=none->H' r=some (.lst ((clGo 0 t).map V.int))->Q (.ref r) H')
theorem j6 {α:Type}(x:α):∀k:Nat,(0#f k [x]).flatten=0#f k x
 |0=>rfl
 |k+1=>by rw[l33,l36,j6 x k];rfl
def nr (F:2#k "closings_of" "closings_of" ix f fd)(T:4#I)(Dm:0#c 1 "takes_next" p16 spTakes):0#b 2 f fd 1#K spClosings:=by
 have sc:1#b ["text","closings","place"] 1#K 55#ix:=mkS;show 0;obtain⟨t,rfl,hl,q⟩:=h;refine az (xbc 20#1
  (xbc 49#xint
  (xbc (di 1#x 169#(eJ,15#aI)
  (xbc (xif 0#gu (xbc 58#2
  103#yA) xb0)
  (xbc (xif 151#(xix dg (2#U) (5#M) 0#n) 103#(bI (xm PySem.F.plainAttrs_list PySem.F.slot_list_extend PySem.F.type_list_extend rh (2#E) 10#(xop la (xlst 19#(5#M)) (xop cP (5#M) (1#c 19#(2#E)))))) xb0)
  103#58#2)))
  13#(xop cb (2#E) (xop la (xlst 19#(5#c)) (xop cP (2#T 19#(2#U)) (1#c 19#(2#E)))))))) ?_
 show 13;rw[uV];refine⟨bg0,λl a8=>?_⟩;have s1:=ad a8 0#y;have e1:4#b l 0#y l=some 0#y:=ac
 symm
 show 78;refine bS (λσ' H'=>σ'=0#ek/\Same H H'/\∃n pre,ClAt t t.length n pre/\H' l=some 14#((0#fj).map V.int)) 3#H ?_
 ·refine cy (λm σ' H'=>Ex3 λ(p n:Nat) (pre:List Int)=>Al6 0#eA (0#T) (H' l=some 14#((0#fj).map V.int)) (p<=1#n) (m=1#n - p) (ClAt t p n pre)) t.length ⟨0,0,[],rfl,s1,e1,4#r,rfl, .start t⟩ ?_;rintro m σ' H2 ⟨p,n,pre,rfl,s2,e2,hp,rfl,hA⟩;ac_rfl;refine 4#w
  ·show 29
  ·have a6:p < t.length:=0#s hc;have e3:=8#g e2;have c1:=0#Y;have hn:=hA.le;have a5:(0#fj).length=n:=by rw[l29,hA.len];omega
   refine⟨_,rfl,_,rfl,t,p,rfl,a6,by omega,λH4 s4=>⟨_,rfl,?_⟩⟩;have e4:=4#k e3;have a3:=c1.trans s4;by_cases hk:aO 66#p=true
   ·rw[hk];refine iteT ?_;obtain⟨a2,a4,a1,c2⟩:=hA.take hk;show 88;refine⟨1#n - (p+2),by omega,p+2,n,a2,?_,a3,by rw[a1];exact e4,c2,rfl,a4⟩;rw[show ((p:Int)+2)=((p+2:Nat):Int) by omega]
   ·have a7:aO 66#p=false:=1#s hk;rw[a7];refine iteF ?_;have hT:Tells (tTest (tOp rEq (tOp rIxS 44#0 44#2) (tC (.str "]")))) [some (vS t),some 128#l,some 2#J] H4 28#([0#bo]=[93]):=t_eq _ [93] rfl λR' r=>by
     have:=AN (σ:=[some (vS t),some 128#l,some 2#J]) (H:=H4) (ta:=tVar 0) (tb:=tVar 2) (l:=t) (i:=(p:Int)) nofun 0#u 0#u nofun nofun;rw[l40] at this;exact this R' r
    by_cases hx:0#bo=93
    ·obtain⟨a2,a4,a1⟩:=hA.bar a6 a7 hx;refine cz (hT.eq (1#f (by rw[hx]))) λH5 s5=>?_;have e5:=4#D e4;refine⟨_,rfl, .inl 33#e5,_,rfl,bg1,λu hu=>?_⟩;have s6:=ad hu (.lst [.int (p:Int)]);have e6:upd H5 u (.lst [V.int (p:Int)]) u=some (.lst [.int (p:Int)]):=ac;generalize upd H5 u (.lst [V.int (p:Int)])=H6 at s6 e6 ⊢;refine⟨_,rfl,_,rfl,l,_,rfl, .inl 74#(s6 _ _ e5),_,_,rfl,rfl,u,(p:Int) - (n:Int),_,rfl,?_,e6,by omega,by omega,?_,λv hv=>?_⟩
     ·rw[l4,a5]
     ·rw[hs];show 1 * _<=_;omega
     have tn:((p:Int) - (n:Int)).toNat=p - n:=by omega
     rw[tn,j6];have s7:=ad hv 14#(1#G (p - n) 2#J);have e7:upd H6 v 14#(1#G (p - n) 2#J) v=some 14#(1#G (p - n) 2#J):=ac;generalize upd H6 v (.lst (List.replicate (p - n) (V.int (p:Int))))=H7 at s7 e7 ⊢;have c0:=9#i;refine⟨l,v,_,_,rfl,rfl,c0 _ _ e5,e7,?_,?_⟩
     ·rw[l4,a5,l23,hs];omega
     show 88;refine⟨1#n - (p+1),by omega,p+1,p,a2,?_,aj a8 ((a3.trans s5).trans c0),?_,by omega,rfl,a4⟩
     ·rw[show ((p:Int)+1)=((p+1:Nat):Int) by omega]
     ·rw[ac,a1,l14,l65]
    ·obtain⟨a2,a4,a1⟩:=hA.one a6 a7 hx;refine br (hT.eq (0#D λz=>hx (6#d z).1)) λH5 s5=>?_;show 88;refine⟨1#n - (p+1),by omega,p+1,n,a2,?_,a3.trans s5,by rw[a1];exact s5 _ _ e4,by omega,rfl,a4⟩;rw[show ((p:Int)+1)=((p+1:Nat):Int) by omega]
  ·have a6:p=t.length:=by have:=1#u hc;omega
   subst a6;exact hN _ _ ⟨rfl,0#Y,n,pre,hA,8#g e2⟩
 ·rintro σ' H2 ⟨rfl,s2,n,pre,hA,e2⟩;ac_rfl;have hn:=hA.le;have a5:(0#fj).length=n:=by rw[l29,hA.len];omega
  refine⟨_,rfl,1,rfl,bg1,λu hu=>?_⟩;have s3:=ad hu (.lst [.int (-1)]);have e3:upd H2 u (.lst [V.int (-1)]) u=some (.lst [.int (-1)]):=ac;generalize upd H2 u (.lst [V.int (-1)])=H3 at s3 e3 ⊢;refine⟨_,rfl,_,rfl,bigS nofun,_,rfl,l,_,rfl, .inl 74#(8#g e2),_,_,rfl,rfl,u,(t.length:Int) - (n:Int),_,rfl,?_,e3,by omega,by omega,?_,λv hv=>?_⟩
  ·rw[l4,a5,aw]
  ·rw[hs];show 1 * _<=_;omega
  have tn:((t.length:Int) - (n:Int)).toNat=1#n - n:=by omega
  rw[tn,j6];have s4:=ad hv 14#(1#G (1#n - n) 70#(-1));have e4:upd H3 v 14#(1#G (1#n - n) 70#(-1)) v=some 14#(1#G (1#n - n) 70#(-1)):=ac;generalize upd H3 v (.lst (List.replicate (t.length - n) (V.int (-1))))=H4 at s4 e4 ⊢;have a3:=(0#Y).trans s4;refine⟨l,v,_,_,rfl,rfl,(4#j) _ _ e2,e4,?_,λr a9=>?_⟩
  ·rw[l4,a5,l23,hs];omega
  refine q r _ (a3.trans 46#a9) (a3.free a9) ?_;rw[ac,hA.fin,l14,l65]
end
end K13
namespace Lw
open PySem L2 Lm
inductive Atm where
 |sg (c:Nat)
 |pt (p:PC)
def atQ:Qc->List Atm
 | .txt l=>l.map .sg
 | .part p=>[.pt p]
def atQs (qs:6#n):List Atm:=qs.flatMap atQ
def ka (a b:6#n):atQs (a++b)=atQs a++atQs b:=List.flatMap_append
def fL (a:Qc)(b:6#n):atQs (a::b)=atQ a++atQs b:=l95
def flA (acc:0#a):List PC:=if acc.isEmpty then [] else [.one 72#acc]
def mgA (acc:0#a):0#bY->7#E
 | []=>flA acc
 | .sg c::r=>mgA (acc++[c]) r
 | .pt p::r=>flA acc++p::mgA [] r
theorem c7:∀(l acc:List Nat) (r:List Atm),mgA acc (l.map .sg++r)=mgA (acc++l) r
 | [],acc,r=>by rw[l12];rfl
 |c::l,acc,r=>by
  show mgA (acc++[c]) (l.map .sg++r)=_;rw[c7 l,l19];rfl
def NeQ (qs:6#n):Prop:=∀l,Qc.txt l∈qs->l≠[]
def QOk.ne {qs:6#n}(h:QOk qs):NeQ qs:=λl hl=>(h l hl).2
def oU {sg:0#m}(h:∀l∈sg,l≠[]):bw sg=flA sg.flatten:=by
 unfold bw flA;cases sg with
 |nil=>rfl
 |cons x sg=>
  have hx:=h x l7;rw[0#z 0#h,0#z];rw[l36];cases x with
  |nil=>exact 0#A rfl hx
  |cons _ _=>simp
theorem vM:∀(qs:List Qc) (sg:List (List Nat)),NeQ qs->(∀l∈sg,l≠[])->mgGo sg qs=mgA sg.flatten (atQs qs)
 | [],sg,_,h=>oU h
 | .txt l::r,sg,hq,h=>by
  rw[fL];show mgGo 0#et r=mgA sg.flatten (l.map .sg++atQs r);rw [c7,vM r 0#et (λx hx=>hq x 38#hx) λx hx=>by
   rcases 2#n hx with z |z
   ·exact h x z
   ·rw[2#R z];exact hq l l7]
  rw[l74];show mgA (sg.flatten++(l++[])) _=_;rw[l12]
 | .part p::r,sg,hq,h=>by
  rw[fL];show bw sg++p::mgGo [] r=flA sg.flatten++p::mgA [] (atQs r);rw[oU h,vM r [] (λx hx=>hq x 38#hx) 1#F];rfl
def plS (c:Nat):Bool:=decide (c≠92)&&decide (c≠42)&&decide (c≠96)&&decide (c≠91)
def c8 {c:Nat}{r:0#a}(h:c≠92):aO (c::r)=false:=by
 unfold aO;split
 ·rename_i z;exact 0#A (6#d z).1 h
 ·rfl
def cW (x:Nat)(t:0#a):cI (x::t)=if aO (x::t) then some (Pc.sign (t.headD 0),t.tail) else if x=42 then some (Pc.star,t) else if x=96 then some ((b8 t).getD (.sign 96,t)) else if x=91 then some 0#eI else some (Pc.sign x,t):=rfl
def yW {c:Nat}{r:0#a}(h:plS c=true):cI (c::r)=some (.sign c,r):=by
 unfold plS at h;simp only[Bool.and_eq_true,decide_eq_true_eq] at h;obtain⟨⟨⟨h1,h2⟩,h3⟩,h4⟩:=h;rw[cW,0#z (by rw[c8 h1];simp),0#z h2,0#z h3,0#z h4]
theorem iy:∀(l rest:List Nat),(∀c∈l,plS c=true)->aF (l++rest)=l.map .sign++aF rest
 | [],rest,_=>rfl
 |c::l,rest,h=>by
  rw[l28,bC (yW (h c l7)),iy l rest λx hx=>0#bO];rfl
def sE {c:Nat}{r:0#a}(h:6#H=true):cI (92::c::r)=some (.sign c,r):=by
 rw[cW,1#d (takes_iff.mpr 89#h)];rfl
def yX {c:Nat}{r:0#a}(h:6#H=false):cI (92::c::r)=some (.sign 92,c::r):=by
 rw[cW,0#z (λz=>by rw[(takes_iff.mp z).2] at h;cases h),0#z ∅,0#z ∅,0#z ∅]
def sF {s r:0#a}(hs:96∉s)(hn:s≠[]):cI (96::(s++96::r))=some (.code s,r):=by
 rw[cW,0#z 0#gg,0#z ∅,1#d rfl];have:b8 (s++96::r)=some (.code s,r):=by
  unfold b8;rw[io hs];cases s with
  |nil=>exact 0#A rfl hn
  |cons x a=>rfl
 rw[this];rfl
def iz {c:Nat}{name r:0#a}(hn:aE name=true)(hc:c∉name):nameAt c (name++c::r)=some (aR name,r):=by
 have hl:3#J<=12:=by
  unfold aE at hn;rw[0#r,0#r] at hn;exact 0#s hn.1.2
 unfold nameAt;have e:(name++c::r).take 13=name++c::r.take (12 - 3#J):=by
  rw[List.take_append,l41 nofun,show 13 - 3#J=(12 - 3#J)+1 by omega];rfl
 rw[e,io hc];show (if aE name=true then _ else none)=_;rw[1#d hn];congr 2;rw[<- l26,l43];rfl
def lW {r:0#a}:cI (91::r)=some 0#eH:=by
 rw[cW,0#z 0#gg,0#z ∅,0#z ∅,1#d rfl]
def sI {name r:0#a}(hn:aE name=true)(hc:93∉name):cI (91::94::(name++93::r))=some (.note 9#s,r):=by
 rw[lW];show some (((nameAt 93 (name++93::r)).map _ |>.or _).getD _)=_;rw[iz hn hc];rfl
def yY {r:0#a}(h:r.head? ≠ some 94):b7 r=none:=by
 unfold b7;split
 ·exact 0#A rfl h
 ·rfl
def sJ {r r2:0#a}{k:Nat}(h:nxtC r=some (k+1))(h2:r.drop (k+2)=40::r2):bO r=(nameAt 41 r2).map λ(n,r3)=>(Pc.link 8#N n,r3):=by
 unfold bO;rw[h]
 try dsimp only
 rw[h2];rfl
def sK {raw words name r:0#a}(h94:raw.head? ≠ some 94)(hr:raw≠[])(hx:∀rest,nxtC (raw++93::rest)=some 0#fk)(hf:freeC raw=words)(hn:aE name=true)(hc:41∉name):
  cI (91::(raw++93::40::0#dZ))=some (.link words 9#s,r):=by
 rw[lW];cases raw with
 |nil=>exact 0#A rfl hr
 |cons x raw=>
  rw[yY (by rw[l28];exact h94)];have:bO ((x::raw)++93::40::0#dZ)=some (.link words 9#s,r):=by
   have e1:((x::raw)++93::40::0#dZ).drop (0#fk+2)=40::0#dZ:=by
    rw[show 0#fk+2=(x::raw).length+1 by rw[l5],<- l26,l43];rfl
   have e2:((x::raw)++93::40::0#dZ).take (0#fk+1)=x::raw:=by
    rw[show 0#fk+1=(x::raw).length by rw[l5],l51]
   rw[sJ (hx _) e1,iz hn hc,e2,hf];rfl
  rw[this];rfl
def free_one' {x:Nat}{r:0#a}(h:aO (x::r)=false):freeC (x::r)=x::freeC r:=by
 cases r with
 |nil=>rfl
 |cons y r=>
  show 2#o=_;rw[0#z λz=>by rw[takes_iff.mpr z] at h;cases h]
def free_take' {x y:Nat}{r:0#a}(h:aO 0#cz=true):freeC 0#cz=y::freeC r:=by
 show 2#o=_;rw[1#d (takes_iff.mp h)]
structure Gd (raw:0#a)(A:0#bY):Prop where
 hd:∃c r,raw=c::r/\c≠40
 run:∀rest,rest.head? ≠ some 40->∃pcs,aF (raw++rest)=pcs++aF rest/\(∀p∈pcs,p≠Pc.star)/\atQs (pcs.map toQ)=A/\pcs≠[]
def Gd.head {a:0#a}{A:0#bY}(h:Gd a A)(rest:0#a):(a++rest).head? ≠ some 40:=by
 show 89;simpa using hc
def Gd.app {a b:0#a}{A B:0#bY}(h:Gd a A)(k:Gd b B):Gd (a++b) (A++B):=by
 refine⟨?_,λrest hr=>?_⟩
 ·show 89;exact⟨c,r++b,rfl,hc⟩
 ·obtain⟨p1,e1,n1,a1,m1⟩:=h.run (b++rest) (k.head rest);obtain⟨p2,e2,n2,a2,m2⟩:=k.run rest hr;refine⟨p1++p2,by rw[l19,e1,e2,l19],λp hp=>?_,by rw[l14,ka,a1,a2],by simp[m1]⟩;rcases 2#n hp with z |z
  ·exact n1 p z
  ·exact n2 p z
def oV (l:0#a):atQs ((l.map Pc.sign).map toQ)=l.map .sg:=by
 induction l with
 |nil=>rfl
 |cons x l ih=>rw[l16,l16,fL,ih];rfl
def Gd.signs {l:0#a}(h:∀c∈l,plS c=true)(hd:∃c r,l=c::r/\c≠40):Gd l (l.map .sg):=
 ⟨hd,λrest _=>by
  refine⟨l.map .sign,iy l rest h,λp hp=>?_,oV l,?_⟩
  ·obtain⟨x,_,rfl⟩:=4#i hp;exact λz=>0#k
  ·obtain⟨c,r,rfl,_⟩:=hd;simp⟩
def Gd.step {raw l:0#a}{p:Pc}(hd:∃c r,raw=c::r/\c≠40)(hp:p ≠ .star)(hs:∀rest,rest.head? ≠ some 40->cI (raw++rest)=some (p,l++rest))(h:∀c∈l,plS c=true):Gd raw (atQ (toQ p)++l.map .sg):=
 ⟨hd,λrest hr=>by
  refine⟨p::l.map .sign,by rw[bC (hs rest hr),iy l rest h];rfl,λq hq=>?_,by rw[l16,fL,oV],by simp⟩;rcases 1#y hq with z |z
  ·rw[z];exact hp
  ·obtain⟨x,_,rfl⟩:=4#i z;exact λz=>0#k⟩
def nt {c:Nat}(h:6#H=true):Gd [92,c] [.sg c]:=Gd.step (l:=[]) (p := .sign c) 138#92 2#B (λrest _=>sE h) 1#F
def yZ {s:0#a}(hs:96∉s)(hn:s≠[]):Gd (96::(s++[96])) [.pt (.one (.code (S s)))]:=Gd.step (l:=[]) (p := .code s) 138#96 2#B (λrest _=>by rw[l28,l19];exact sF hs hn) 1#F
def sL {name l : List Nat} (hn : aE name = true) (hc : 93 ∉ name) (hl : ∀ c ∈ l, plS c = true) : Gd (91 :: 94 :: (name ++ 93 :: l)) (.pt (.one (.note (S 9#s))) :: l.map .sg) := Gd.step (l := l) (p := .note 9#s) ⟨91, _, rfl, by decide⟩ (fun z => nomatch z) (λrest _=>by
 show cI (91::94::((name++93::l)++rest))=_;rw[l19];exact sI hn hc) hl
theorem lX:∀(u rest:List Nat),(∀c∈u,c≠92/\c≠93)->nxtC (u++93::rest)=some u.length
 | [],rest,_=>jU
 |x::u,rest,h=>by
  have hx:=h x l7;rw[l28,sj (c8 hx.1) hx.2,lX u rest λc hc=>h c 38#hc];rfl
theorem A2:∀(ps:List Pc) (r:List Pc),(∀p∈ps,p≠Pc.star)->1#P (ps++r)=ps.map toQ++wsGo none r
 | [],_,_=>rfl
 |p::ps,r,h=>by rw[l28,eV (h p l7),A2 ps r λq hq=>h q 38#hq];rfl
theorem A3:∀(ps:List Pc) (r:List Pc) (inn:List Qc),(∀p∈ps,p≠Pc.star)->0#fU (ps++r)=wsGo 23#(inn++ps.map toQ) r
 | [],r,inn,_=>by rw[l47,l12];rfl
 |p::ps,r,inn,h=>by rw[l28,eZ (h p l7),A3 ps r _ λq hq=>h q 38#hq,l19];rfl
structure Bk (raw:0#a)(A:0#bY):Prop where
 hd:∃c r,raw=c::r/\c≠40
 run:∀rest:0#a,rest.head? ≠ some 40->∃pcs,aF (raw++rest)=pcs++aF rest/\∀r,∃qs,1#P (pcs++r)=qs++wsGo none r/\atQs qs=A
def Bk.head {a:0#a}{A:0#bY}(h:Bk a A)(rest:0#a):(a++rest).head? ≠ some 40:=by
 show 89;simpa using hc
def Gd.bk {a : List Nat} {A : List Atm} (h : Gd a A) : Bk a A := ⟨h.hd,λrest hr=>by
 obtain⟨a1,e,n,ea,_⟩:=h.run rest hr;exact⟨a1,e,λr=>⟨a1.map toQ,A2 a1 r n,ea⟩⟩⟩
def Bk.app {a b:0#a}{A B:0#bY}(h:Bk a A)(k:Bk b B):Bk (a++b) (A++B):=by
 refine⟨?_,λrest hr=>?_⟩
 ·show 89;exact⟨c,r++b,rfl,hc⟩
 ·obtain⟨p1,e1,n1⟩:=h.run (b++rest) (k.head rest);obtain⟨p2,e2,n2⟩:=k.run rest hr;refine⟨p1++p2,by rw[l19,e1,e2,l19],λr=>?_⟩;obtain⟨q1,f1,g1⟩:=n1 (p2++r);obtain⟨q2,f2,g2⟩:=n2 r;exact⟨q1++q2,by rw[l19,f1,f2,l19],by rw[ka,g1,g2]⟩
def lY {r:0#a}:cI (42::r)=some (.star,r):=by
 rw[cW,0#z 0#gg,1#d rfl]
def A4 {ps:List Pc}:NeQ 166#toQ:=λl hl=>by
 obtain⟨p,_,e⟩:=4#i hl;cases p <;> cases e <;> simp
def Gd.strong {a : List Nat} {A : List Atm} (h : Gd a A) : Bk (42 :: (a ++ [42])) [.pt (.strong (ones (mgA [] A)))] := ⟨138#42,λrest hr=>by
 obtain⟨a1,e,n,ea,a2⟩:=h.run (42::rest) 0#h;refine⟨.star::(a1++[.star]),?_,λr=>⟨[bt (a1.map toQ)],?_,?_⟩⟩
 ·rw[l28,l19,bC lY];show _=Pc.star::((a1++[Pc.star])++aF rest);rw[show ([42]++rest:0#a)=42::rest from rfl,e,bC lY,l19];rfl
 ·show wsGo 0#bu ((a1++[Pc.star])++r)=_;rw[l19,A3 a1 _ [] n];rfl
 ·unfold bt;rw[0#z (by simp[a2])];show [Atm.pt (.strong (ones (mgGo [] (a1.map toQ))))]++[]=_;rw[vM _ [] A4 1#F,ea];rfl⟩
def Lst (l:0#a):Prop:=l.head? ≠ some 40/\atQs (1#P (aF l))=l.map .sg
def y8:Lst []:=⟨by simp,by rw[bX];rfl⟩
def nu {t l:0#a}{A:0#bY}(h:Bk t A)(hl:Lst l)(ha:Asc (t++l)):aT (t++l)=mgA [] (A++l.map .sg):=by
 obtain⟨pcs,e,k⟩:=h.run l hl.1;obtain⟨qs,e2,hA⟩:=k (aF l);unfold aT;have hok:=gw (aF (t++l)) none (iw _ _ (7#j) ha) 1#F;rw[vM _ [] hok.ne 1#F,e,e2,ka,hA,hl.2];rfl
end Lw
namespace K13
open PySem L2 Lm Lw
section
variable {c:Cp}{BT:Addr}
abbrev nv:Stmt:=top 63
inductive spCodeAt (c:Cp)(vs:0#t)(H:Hp)(Q:VK)(u3:XK):Prop
 |mk (t:List Nat)(p:Nat)(_:vs=[vS t, .int (p:Int)])(_:p < t.length)(_:t.length<=100000)(_:Asc t)(_:Fnd c t.length H Q (b8 (t.drop (p+1))))
def sM (F:2#k "code_at" "code_at" nv f fd)(T:4#I)(DX:0#Q "Code" c.Code p18 141#c.Code):0#b 3 f fd p16 (spCodeAt c):=by
 have sc:1#b ["text","place","end"] p16 55#nv:=mkS;show 0;obtain⟨t,p,rfl,hp,hl,ha,q⟩:=h;refine az (xbc 49#(5#P vH (2#U) (1#p 10#(2#h (2#E) xint)))
  (xbc (xif (xor 152#(5#M) (xor1 169#(aY,4#l))).xt 13#xnon xb0)
  13#(xtup (xac (xnew DX hr.mono 19#(9#n (2#U) 93#(2#h (2#E) xint) 93#(5#M))) 19#(2#h (5#M) xint))))) ?_
 ac_nf;rw[BD];refine⟨_,rfl,rfl,_,rfl,_,_,rfl,rfl,t,96,p+1,rfl,rfl,?_⟩
 symm
 have tt:∀e:Int,Tells (tOr 112#(tOp 6#Y 44#2 (tC 21#0)) 112#(tOp rEq 44#2 (tOp 153#(i+j) 44#1 (tC 21#1)))) [some (vS t),some 2#J,some 70#e] H (decide (e < 0)||decide (e=(p:Int)+1)):=λe=>t_or _ _ (7#h rfl) λ_ H1 _=>cV 0#u 0#ab;have hw:(t.take 1#n).drop (p+1)=t.drop (p+1):=by rw[l62]
 cases hc:cutAt 96 66#(p+1) with
 |none=>
  rw[jY (by rw[hw];exact hc)];have e0:b8 66#(p+1)=none:=by unfold b8;rw[hc]
  rw[e0] at q;exact cz ((tt _).eq (by rw[1#f ∅];rfl)) λH1 s1=>q H1 s1
 |some ab=>
  obtain⟨a,b⟩:=ab;rw[jZ (by rw[hw];exact hc)];obtain⟨he,_⟩:=cutAt_eq hc;have w6:=0#V he;rw[l15,l6,l5] at w6;cases a with
  |nil=>
   have e0:b8 66#(p+1)=none:=by unfold b8;rw[hc]
   rw[e0] at q;refine cz ((tt _).eq ?_) λH1 s1=>q H1 s1;rw[7#Y];exact .inr (1#f (by rw[l34];omega))
  |cons x a=>
   have e0:b8 66#(p+1)=some (.code (x::a),b):=by unfold b8;rw[hc]
   rw[e0] at q;have hal:0 < (x::a).length:=by rw[l5];omega
   have has:Asc (x::a):=((ha.drop (p+1)).sub λc hc=>by rw[he];exact l44 _ hc);generalize x::a=a at *;refine br ((tt _).eq ?_) λH1 s1=>?_
   ·rw[0#D nofun,0#D nofun];rfl
   refine rQ (l:=t) (a:=a) nofun 0#u (jK (i:=((p+1:Nat):Int)) 0#ab) (jK (i:=((p+1+a.length:Nat):Int)) 0#u) ?_ _ ?_
   ·rw[hZ,he,show p+1+3#x - (p+1)=3#x by omega,l51]
   intro y dx hy a2 hne;refine⟨y,dx,_,rfl,ac,rfl,_,rfl,_,_,rfl,rfl,bg2,λtp a1=>?_⟩;obtain⟨m1,m2⟩:=yV (C:=c.Code) (o := .ins c.Code dx [("signs",vS a)]) s1 hy a2;refine q tp 11#y _ (m1.trans 46#a1) ?_ ⟨y,rfl,jm has nofun,dx,bE a1 _ _ _ m2⟩;rw[ac];show some (HO.tup [V.ref y,V.int (((p+1+a.length:Nat):Int)+1)])=_;rw[show ((p+1+a.length:Nat):Int)+1=((1#n - b.length:Nat):Int) by omega]
abbrev nw:Stmt:=top 64
inductive spMarkAt (c:Cp)(vs:0#t)(H:Hp)(Q:VK)(u3:XK):Prop
 |mk (t:List Nat)(p:Nat)(r:List Nat)(_:vs=[vS t, .int (p:Int)])(_:t.drop p=91::r)(_:t.length<=100000)(_:Asc t)(_:Fnd c t.length H Q (b7 r))
def sN (F:2#k "mark_at" "mark_at" nw f fd)(T:4#I)(DY:0#Q "Mark" c.Mark p23 (spInit1 c.Mark "name"))
  (Dg:0#c 1 "is_name" 5#D spName)(Dk:0#c 2 "name_of" 5#D spNameOf):0#b 3 f fd p16 (spMarkAt c):=by
 have sc:1#b ["text","place","begin","end"] p16 55#nw:=mkS;show 0;obtain⟨t,p,r,rfl,hd,hl,ha,q⟩:=h;refine az (xbc (xif (fW (bL (0#I ip (2#U) (1#p 10#(2#E))))) 13#xnon xb0)
  (xbc 49#(2#h (2#E) xint)
  (xbc 39#(5#P oP (2#U) (xac xstr (xac (5#M) 10#(2#h (2#h (5#M) (xgI T.z11)) xint))))
  (xbc (xif (xor 152#(6#k) (xor1 (fW (bL (xcd Dg hr 10#(9#n (2#U) 93#(5#M) 93#(6#k))))))).xt 13#xnon xb0)
  13#(xtup (xac (xnew DY hr.mono 19#(xcd Dk hr 35#(9#n (2#U) 93#(5#M) 93#(6#k)))) 19#(2#h (6#k) xint))))))) ?_
 ac_nf;rw[BF];have tS:Tells (tNot (tB (tBM K "str" rStartsAt 44#0 (tCons (tC (.str "[^")) 108#44#1)))) [some (vS t),some 2#J,none,none] H (!(3#f:0#a).isPrefixOf 66#p):=iT _ (jl (z:=3#f) rfl 0#h 0#u 0#u);rw[hd] at tS;by_cases hr:∃r',r=94::r';rotate_left
 ·have e0:b7 r=none:=by
   unfold b7;split
   ·exact 0#A 0#F hr
   ·rfl
  have e1:(3#f:0#a).isPrefixOf (91::r)=false:=by
   cases r with
   |nil=>rfl
   |cons y r'=>
    show 65
  show 109
 obtain⟨r,rfl⟩:=hr;have a1:t.drop (p+2)=r:=by rw[<- l26,hd];rfl
 have w6:=0#V hd;rw[l15,l5,l5] at w6;refine br (tS.eq rfl) λH1 s1=>?_;refine 2#j
 symm
 refine⟨_,rfl,rfl,_,rfl,_,rfl,_,_,rfl,rfl,_,_,rfl,rfl,t,93,p+2,p+2+13,rfl,rfl,?_⟩
 symm
 have hw:cutAt 93 ((t.take (min (p+2+13) 1#n)).drop (p+2))=cutAt 93 99#13:=by rw[win,a1]
 cases hc:cutAt 93 99#13 with
 |none=>
  rw[jY (hw.trans hc)];have e0:b7 (94::r)=none:=by
   show (Lw.nameAt 93 r).map _=none;show 84;rfl
  rw[e0] at q;exact cz 0#cg λH2 s2=>q H2 (2#c)
 |some ab=>
  show 90;have hal:3#x+1<=1#m/\3#x<=12:=by
   have:=0#V he;rw[l29,l6,l5] at this;omega
  have a2:r.take 3#x=a:=by
   show 95;show 54
  have has:Asc a:=((ha.drop (p+2)).take 3#x).sub λc hc=>by rw[a1,a2];exact hc
  have a4:∀H2,Ev (tSl rSlS 44#0 (tPart 44#2) (tPart 44#3)) 7#Q H2 (vS a):=λH2=>by
   refine rQ (l:=t) (a:=a) nofun 0#u (jK (i:=((p+2:Nat):Int)) 0#u) (jK (i:=((p+2+a.length:Nat):Int)) 0#u) ?_;rw[hZ,a1,show p+2+3#x - (p+2)=3#x by omega,a2]
  have tt:Tells (tOr 112#(tOp 6#Y 44#3 (tC 21#0)) (tNot (tB (tCall spName [] E0 108#(tSl rSlS 44#0 (tPart 44#2) (tPart 44#3)))))) 7#Q H1 (false || !aE a):=by
   refine t_or false _ (7#h ?_) λ_ H2 s2=>iT _ λR k=>a4 H2 _ 0#dO
   ·rw[0#D nofun]
   ·exact k H3 s3
  by_cases hn:aE a=true;rotate_left
  ·have hn:=1#s hn;have e0:b7 (94::r)=none:=by
    show (Lw.nameAt 93 r).map _=none;show 84;show (if aE a=true then _ else none).map _=none;rw[hn];rfl
   rw[e0] at q;exact cz 9#u λH2 s2=>q H2 (2#c)
  have e0:b7 (94::r)=some (.note (aR a),r.drop (3#x+1)):=by
   show (Lw.nameAt 93 r).map _=_;show 84;show (if aE a=true then _ else none).map _=_;rw[1#d hn];rfl
  rw[e0] at q;refine br 9#u λH2 s2=>?_;refine a4 H2 _ ⟨a,rfl,by omega,hn,λH3 s3 y dx hy a5 hne=>?_⟩;refine⟨y,dx,_,rfl,ac,rfl,_,rfl,_,_,rfl,rfl,bg2,λtp a3=>?_⟩;obtain⟨m1,m2⟩:=yV (C:=c.Mark) (o := .ins c.Mark dx [("name",vS (aR a))]) ((2#c).trans s3) hy a5;refine q tp 11#y _ (m1.trans 46#a3) ?_ ⟨y,rfl,jm has.small (by unfold aR;rw[l4];omega),dx,bE a3 _ _ _ m2⟩;rw[ac,l15];show some (HO.tup [V.ref y,V.int (((p+2+a.length:Nat):Int)+1)])=_;rw[show ((p+2+a.length:Nat):Int)+1=((1#n - (1#m - (3#x+1)):Nat):Int) by omega]
abbrev ny:Stmt:=top 65
inductive spLinkAt (c:Cp)(vs:0#t)(H:Hp)(Q:VK)(u3:XK):Prop
 |mk (t:List Nat)(p:Nat)(r:List Nat)(_:vs=[vS t, .int (p:Int), .int (c6 (p+1) (nxtC r))])(_:t.drop p=91::r)(_:t.length<=100000)(_:Asc t)(_:Fnd c t.length H Q (bO r))
def sP (F:2#k "link_at" "link_at" ny f fd)(T:4#I)(DZ:0#Q "Link" c.Link p24 (spInit2 c.Link "words" "name"))
  (Ya:0#c 2 "freed" 1#K spFreed)(Dg:0#c 1 "is_name" 5#D spName)(Dk:0#c 2 "name_of" 5#D spNameOf):0#b 3 f fd p39 (spLinkAt c):=by
 have sc:1#b ["text","place","closing","begin","end"] p39 55#ny:=mkS;show 0;obtain⟨t,p,r,rfl,hd,hl,ha,q⟩:=h;refine az (xbc (xif (xor 169#(BB,4#l) (xor1 (fW (bL (0#I ip (2#U) (1#p 10#(5#M))))))).xt 13#xnon xb0)
  (xbc 39#(2#h (5#M) xint)
  (xbc 56#(5#P oP (2#U) 142#(xac (6#k) 10#(xop au (xop au (6#k) (xgI T.z11)) xint)))
  (xbc (xif (xor 152#(xv 4) (xor1 (fW (bL (xcd Dg hr 10#(9#n (2#U) 93#(6#k) 93#(xv 4))))))).xt 13#xnon xb0)
  13#(xtup (xac (xnew DZ hr.mono (xac (xcd Ya hr 19#(9#n (2#U) 93#(2#h (2#E) xint) 93#(5#M))) 19#(xcd Dk hr 35#(9#n (2#U) 93#(6#k) 93#(xv 4))))) 19#(2#h (xv 4) xint))))))) ?_
 ac_nf;rw[xX];have a2:t.drop (p+1)=r:=by rw[<- l26,hd];rfl
 have w6:=0#V hd;rw[l15,l5] at w6;have a1:∀v:Int,v<=(p:Int)+1->Tells 2#H [some (vS t),some 2#J,some 70#v,none,none] H true:=λv hv=>t_or true false (cx 0#u 0#ab (by rw[1#f hv])) (λz=>1#o z);cases hx:nxtC r with
 |none=>
  have e0:bO r=none:=by unfold bO;rw[hx]
  rw[e0] at q;exact cz (a1 (-1) nofun) λH1 s1=>q H1 s1
 |some k=>
 show (tSeq _ _:TS) _ [some (vS t),some 2#J,some 70#((p+1+k:Nat):Int),none,none] H;cases k with
 |zero=>
  have e0:bO r=none:=by unfold bO;rw[hx]
  rw[e0] at q;exact cz (a1 _ nofun) λH1 s1=>q H1 s1
 |succ k=>
 obtain⟨u,v,hu,a4⟩:=jk hx;have a6:=0#V hu;rw[l6,l5] at a6;have a5:t.drop (p+1+(k+1))=93::v:=by
  rw[<- l26,a2,hu,<- a4,l43]
 have a8:r.drop (k+2)=v:=by
  rw[show k+2=k+1+1 by omega,<- l26,hu,<- a4,l43];rfl
 have tS:Tells 2#H [some (vS t),some 2#J,some 70#((p+1+(k+1):Nat):Int),none,none] H (false || !([93,40]:0#a).isPrefixOf 66#(p+1+(k+1))):=
  t_or false _ (cx 0#u 0#ab (by rw[0#D nofun])) λ_ H1 s1=>iT _ (jl (z:=[93,40]) rfl 0#h 0#u 0#u)
 rw[a5] at tS;by_cases hr:∃r2,v=40::r2;rotate_left
 ·have e0:bO r=none:=by
   unfold bO;rw[hx];show (match r.drop (k+2) with |40::r2=>(0#gB).map λ(n,r3)=>(Pc.link 8#N n,r3) |_=>none)=none;rw[a8];split
   ·exact 0#A 0#F hr
   ·rfl
  have e1:([93,40]:0#a).isPrefixOf (93::v)=false:=by
   cases v with
   |nil=>rfl
   |cons y r'=>
    show 65
  show 109
 obtain⟨r2,rfl⟩:=hr;rw[l5] at a6;have a3:t.drop (p+1+(k+1)+2)=r2:=by rw[<- l26,a5];rfl
 refine br (tS.eq rfl) λH1 s1=>?_;refine 2#j
 symm
 have hpos:((p+1+(k+1):Nat):Int)+2=((p+1+(k+1)+2:Nat):Int):=rfl;rw[hpos];have eL:=sJ hx a8;rw[eL] at q;clear eL tS a1;generalize hb:p+1+(k+1)+2=bg at *;refine⟨_,rfl,rfl,_,rfl,_,rfl,_,_,rfl,rfl,_,_,rfl,rfl,t,41,bg,bg+13,rfl,rfl,?_⟩
 symm
 have hw:cutAt 41 ((t.take (min (bg+13) 1#n)).drop bg)=cutAt 41 (r2.take 13):=by rw[win,a3]
 cases hc:cutAt 41 (r2.take 13) with
 |none=>
  rw[jY (hw.trans hc)];have e0:0#gB=none:=by unfold Lw.nameAt;rw[hc]
  rw[e0] at q;exact cz 0#cg λH2 s2=>q H2 (2#c)
 |some ab=>
  show 90;have hal:3#x+1<=r2.length/\3#x<=12:=by
   have:=0#V he;rw[l29,l6,l5] at this;omega
  have a7:r2.take 3#x=a:=by
   show 95;show 54
  have has:Asc a:=((ha.drop bg).take 3#x).sub λc hc=>by rw[a3,a7];exact hc
  have c0:∀H2,Ev (tSl rSlS 44#0 (tPart 44#3) (tPart 44#4)) 5#s H2 (vS a):=λH2=>by
   refine rQ (l:=t) (a:=a) nofun 0#u (jK (i:=(bg:Int)) 0#u) (jK (i:=((bg+a.length:Nat):Int)) 0#u) ?_;rw[hZ,a3,show bg+3#x - bg=3#x by omega,a7]
  have tt:Tells (tOr 112#(tOp 6#Y 44#4 (tC 21#0)) (tNot (tB (tCall spName [] E0 108#(tSl rSlS 44#0 (tPart 44#3) (tPart 44#4)))))) 5#s H1 (false || !aE a):=by
   refine t_or false _ (7#h ?_) λ_ H2 s2=>iT _ λR k=>c0 H2 _ 0#dO
   ·rw[0#D nofun]
   ·exact k H3 s3
  by_cases hn:aE a=true;rotate_left
  ·have hn:=1#s hn;have e0:0#gB=none:=by
    show 84;show (if aE a=true then _ else none)=none;rw[hn];rfl
   rw[e0] at q;exact cz 9#u λH2 s2=>q H2 (2#c)
  have e0:0#gB=some (aR a,r2.drop (3#x+1)):=by
   show 84;show (if aE a=true then _ else none)=_;rw[1#d hn]
  rw[e0] at q;refine br 9#u λH2 s2=>?_;have c3:(r.take (k+1)).length<=100000:=by rw[l29];omega
  have c2:Asc 99#(k+1):=((ha.drop (p+1)).sub λc hc=>by rw[a2];exact l81 hc);refine rQ (l:=t) (a:=r.take (k+1)) nofun 0#u (jK (i:=((p+1:Nat):Int)) 0#ab) (jK (i:=((p+1+(k+1):Nat):Int)) 0#u) ?_ _ ⟨_,rfl,c3,λH3 s3=>?_⟩
  ·rw[hZ,a2,show p+1+(k+1) - (p+1)=k+1 by omega]
  refine c0 H3 _ ⟨a,rfl,by omega,hn,λH4 s4 y dx hy c1 hne=>?_⟩;refine⟨y,dx,_,_,rfl,ac,rfl,_,rfl,_,_,rfl,rfl,bg2,λtp a9=>?_⟩;have hfl:=fK 99#(k+1);obtain⟨m1,m2⟩:=A0 (C:=c.Link) (o1 := .ins c.Link dx [("words",vS 8#N)]) (o := .ins c.Link dx [("words",vS 8#N),("name",vS (aR a))]) (((2#c).trans s3).trans s4) hy c1;refine q tp 11#y _ (m1.trans 46#a9) ?_ ⟨y,rfl,jm (c2.sub λc hc=>gG hc) nofun,jm has.small (by unfold aR;rw[l4];omega),dx,bE a9 _ _ _ m2⟩;rw[ac,l15];show some (HO.tup [V.ref y,V.int (((bg+a.length:Nat):Int)+1)])=_;rw[show ((bg+a.length:Nat):Int)+1=((1#n - (r2.length - (3#x+1)):Nat):Int) by omega]
abbrev ke:Stmt:=top 60
inductive spPieceAt (c:Cp)(vs:0#t)(H:Hp)(Q:VK)(u3:XK):Prop
 |mk (t:List Nat)(p:Nat)(cl:Addr)(pc:Pc)(r:List Nat)(_:vs=[vS t, .int (p:Int), .ref cl])(_:H cl=some (.lst ((clGo 0 t).map V.int)))(_:p < t.length)(_:t.length<=100000)(_:Asc t)(_:Al t p)(_:cI (t.drop p)=some (pc,r))(_:Fnd c t.length H Q (some (pc,r)))
def qz (F:2#k "piece_at" "piece_at" ke f fd)(T:4#I)(Dm:0#c 1 "takes_next" p16 spTakes)
  (Yb:0#c 3 "code_at" p16 (spCodeAt c))(Yc:0#c 3 "mark_at" p16 (spMarkAt c))(Yd:0#c 3 "link_at" p39 (spLinkAt c)):0#b 4 f fd p40 (spPieceAt c):=by
 have sc:1#b ["text","place","closings","sign","found"] p40 55#ke:=mkS;show 0;obtain⟨t,p,cl,pc,r,rfl,c2,hp,hl,ha,c1,a7,q⟩:=h;refine az (xbc 39#(xix dg (2#U) (2#E) 0#n)
  (xbc (xif (bL (xcd Dm hr 17#(xac (2#E) xa0))) 13#(xtup 113#(xix dg (2#U) 4#l 0#n)) xb0)
  (xbc (xif 151#(6#k) 13#(xtup 113#xnon) xb0)
  (xbc 56#xnon
  (xbc (xif 151#(6#k) (xb1 56#(xcd Yb hr 17#(xac (2#E) xa0))) xb0)
  (xbc (xif 151#(6#k) (xbc 56#(xcd Yc hr 17#(xac (2#E) xa0))
  103#(xif 162#wI (xb1 56#(xcd Yd hr 17#(xac (2#E) 19#(xix aH (5#M) (2#E) 6#J)))) xb0)) xb0)
  13#(xifE 162#wI (xtup 113#(6#k)) (xv 4)))))))) ?_
 ac_nf;rw[xX];obtain⟨x,r0,hd⟩:∃x r0,t.drop p=x::r0:=⟨_,_,l31 hp⟩;have w6:=0#V hd;rw[l15,l5] at w6;have c5:0#bo=x:=by
  have:(t.drop p)[0]? = some x:=by rw[hd];rfl
  rw[2#X,Nat.add_zero] at this;rw[l24,this];rfl
 refine⟨_,rfl,_,rfl,qp nofun nofun nofun ?_⟩;rw[l40,c5]
 symm
 refine⟨_,rfl,_,rfl,t,p,rfl,hp,by omega,λH1 s1=>⟨_,rfl,?_⟩⟩;have a1:(if aO (x::r0) then some (Pc.sign (r0.headD 0),r0.tail) else if x=42 then some (Pc.star,r0) else if x=96 then some ((b8 r0).getD (.sign 96,r0)) else if x=91 then some (((b7 r0).or (bO r0)).getD (.sign 91,r0)) else some (Pc.sign x,r0))=some (pc,r):=by rw[hd] at a7;exact a7
 have num:∀k:Nat,p+k<=1#n->∀r':0#a,0#dC+(p+k)=1#n->(p:Int)+(k:Int)=((1#n - r'.length:Nat):Int):=λk _ r' _=>by omega
 by_cases hk:aO 66#p=true
 ·rw[hk];refine iteT ?_;obtain⟨y,r2,hy⟩:=bY hk;rw[hd] at hy hk;cases hy;rw[1#d hk] at a1;cases a1;rw[l5] at w6;have c0:t.getD (p+1) 0=y:=by
   have:(t.drop p)[1]? = some y:=by rw[hd];rfl
   rw[2#X] at this;rw[l24,this];rfl
  refine⟨_,rfl,_,rfl,_,_,rfl,rfl,qp nofun nofun nofun 0#eF⟩;refine q tp (vS [y]) _ (s1.trans 46#a3) ?_ rfl;rw[ac,show ((p:Int)+1).toNat=p+1 by omega,c0];show some (HO.tup [vS [y],V.int ((p:Int)+2)])=some (HO.tup [vS [y],V.int ((1#n - r2.length:Nat):Int)]);rw[show (p:Int)+2=((1#n - r2.length:Nat):Int) by omega]
 have a6:aO 66#p=false:=1#s hk;rw[a6];refine iteF ?_;rw[hd] at a6;rw[0#z (by rw[a6];simp)] at a1;have tE:∀(y:Str) (z:Nat) (fv:Option V) (H':Hp),y=S [z]->Tells 112#(tOp rEq 44#3 0#ev) [some (vS t),some 2#J,some 128#cl,some (vS [x]),fv] H' 28#([x]=[z]):=λy z fv H' e=>t_eq [x] [z] e 0#u;have sg:∀z:Nat,[x]=[z] ↔ x=z:=λz=>⟨λh=>(6#d h).1,λh=>by rw[h]⟩;by_cases h42:x=42
 ·rw[1#d h42] at a1;cases a1;refine cz ((tE "*" 42 none H1 rfl).eq (1#f ((sg _).mpr h42))) λH2 s2=>?_;refine 0#eF;refine q tp .non _ ((2#c).trans 46#a3) ?_ rfl;rw[ac];show some (HO.tup [V.non,V.int ((p:Int)+1)])=_;show 127
 rw[0#z h42] at a1;refine br ((tE "*" 42 none H1 rfl).eq (0#D λz=>h42 ((sg _).mp z))) λH2 s2=>?_;refine lU ?_;dsimp only[sA,sB];have a8:=2#c;have fin:∀(v:V) (H3:Hp),4#L H3->((v = .non/\pc = .sign x/\r=r0) ∨ ∃tp u,v = .ref tp/\H3 tp=some (.tup [u, .int ((1#n - r.length:Nat):Int)])/\PcAt c 86#H3 u pc)->∀Q',(∀v' H',Q v' H'->Q' v' H') →
   tIf 112#(tOp R_op_isN 44#4 (tC .non)) (tTup (tCons 44#3 108#(tOp 153#(i+j) 44#1 (tC 21#1)))) 44#4 [some (vS t),some 2#J,some 128#cl,some (vS [x]),some v] H3 Q':=by
  intro v H3 s3 h Q' kQ;refine 6#w;rcases h with ⟨rfl,rfl,rfl⟩ |⟨tp,u,rfl,e3,hu⟩
  ·refine ite2 8#J (λz=>0#A (1#f rfl) z);refine⟨_,rfl,_,rfl,_,_,rfl,rfl,bg2,λtp a3=>kQ _ _ (q tp (vS [x]) _ 160#46#a3 ?_ rfl)⟩;rw[ac];show some (HO.tup [vS [x],V.int ((p:Int)+1)])=_;show 127
  ·refine ite2 (λz=>nomatch 0#s z) (λ_=>⟨_,rfl,kQ _ _ (q tp u H3 s3 e3 hu)⟩)
 by_cases h96:x=96
 ·subst h96;rw[1#d rfl] at a1;refine cz ((tE "`" 96 _ H2 rfl).eq (1#f rfl)) λH3 s3=>?_;have a2:=a8.trans s3;have c4:t.drop (p+1)=r0:=by rw[<- l26,hd];rfl
  refine⟨_,rfl,_,rfl,t,p,rfl,hp,hl,ha,?_⟩;rw[c4];cases hc:b8 r0 with
  |none=>
   intro H4 s4;rw[hc] at a1;cases a1
   symm
   refine br 0#gt λH5 s5=>?_;exact fin .non H5 ((a2.trans s4).trans s5) 119#⟨rfl,rfl,rfl⟩ _ λv' H' h=>h
  |some qq=>
   obtain⟨a9,r'⟩:=qq;intro tp v H4 s4 e4 hv;rw[hc] at a1;cases a1
   symm
   refine br 0#gt λH5 s5=>?_;exact fin 11#tp H5 ((a2.trans s4).trans s5) 120#⟨tp,v,rfl,4#D e4,hv.same (aq a2 s5)⟩ _ λv' H' h=>h
 rw[0#z h96] at a1;refine br ((tE "`" 96 _ H2 rfl).eq (0#D λz=>h96 ((sg _).mp z))) λH3 s3=>?_;have a2:=a8.trans s3;by_cases h91:x=91
 ·subst h91;rw[1#d rfl] at a1;refine cz ((tE "[" 91 _ H3 rfl).eq (1#f rfl)) λH4 s4=>?_;have a5:=a2.trans s4;refine⟨_,rfl,_,rfl,t,p,r0,rfl,hd,hl,ha,?_⟩;cases hm:b7 r0 with
  |some qq=>
   obtain⟨a9,r'⟩:=qq;intro tp v H5 s5 e5 hv;rw[hm] at a1;cases a1
   symm
   refine⟨_,rfl,rfl,_,rfl,ite2 (λz=>nomatch 0#s z) 8#J⟩;exact fin 11#tp H5 (a5.trans s5) 120#⟨tp,v,rfl,e5,hv.same (aq a5 18#_)⟩ _ λv' H' h=>h
  |none=>
   intro H5 s5;rw[hm] at a1;have a4:=a5.trans s5
   symm
   refine⟨_,rfl,rfl,_,rfl,ite2 8#J (λz=>0#A (1#f rfl) z)⟩;have c3:=c1.get hd;refine⟨_,rfl,_,rfl,_,rfl,_,rfl,cl,_,(p:Int), .int (c6 (p+1) (nxtC r0)),rfl,rfl,0#w (a4 _ _ c2),ag (by rw[0#x,c3];rfl),t,p,r0,rfl,hd,hl,ha,?_⟩;cases hk2:bO r0 with
   |none=>
    intro H6 s6;rw[hk2] at a1;cases a1
    symm
    exact fin .non H6 (a4.trans s6) 119#⟨rfl,rfl,rfl⟩ _ λv' H' h=>h
   |some qq=>
    obtain⟨a9,r'⟩:=qq;intro tp v H6 s6 e6 hv;rw[hk2] at a1;cases a1
    symm
    exact fin 11#tp H6 (a4.trans s6) 120#⟨tp,v,rfl,e6,hv.same (aq a4 18#_)⟩ _ λv' H' h=>h
 ·rw[0#z h91] at a1;cases a1;refine br ((tE "[" 91 _ H3 rfl).eq (0#D λz=>h91 ((sg _).mp z))) λH4 s4=>?_;exact fin .non H4 (a2.trans s4) 119#⟨rfl,rfl,rfl⟩ _ λv' H' h=>h
abbrev nA:Stmt:=top 59
inductive spPieces (c:Cp)(vs:0#t)(H:Hp)(Q:VK)(u3:XK):Prop
 |mk (t:List Nat)(_:vs=[vS t])(_:t.length<=100000)(_:Asc t)(_:∀r us H',Same H H'->H r=none->H' r=some (.lst us)->PcsAt c (dif H H') us (aF t)->Q (.ref r) H')
def sQ (F:2#k "pieces_of" "pieces_of" nA f fd)(T:4#I)(Ye:0#c 2 "closings_of" 1#K spClosings)
  (Yf:0#c 4 "piece_at" p40 (spPieceAt c)):0#b 5 f fd 1#K (spPieces c):=by
 have sc:1#b ["text","closings","pieces","place","found"] 1#K 55#nA:=mkS;show 1;obtain⟨t,rfl,hl,ha,q⟩:=h;refine az (xbc 84#(xcd Ye hr 10#(2#U))
  (xbc 20#2
  (xbc 39#xint
  (xbc (di 1#x (aB eJ (6#k) 15#aI (ak _))
  (xbc 56#(xcd Yf hr 17#(xac (6#k) 19#(2#E)))
  (xbc 75#2
  103#(xst (i:=3) sc.nd 12#(xv 4)))))
  13#(5#M))))) ?_
 show 13;rw[Aw];refine⟨_,rfl,t,rfl,hl,λcl H1 s1 hcl e1=>?_⟩
 symm
 refine⟨bg0,λl a2=>?_⟩;have a1:H l=none:=s1.free a2;have s2:=s1.trans (ad a2 0#y);have e2:upd H1 l 0#y l=some 0#y:=ac;have a8:=ad a2 0#y _ _ e1;have c5:cl≠l:=(nq a2 e1)
 symm
 generalize upd H1 l (.lst [])=H2 at s2 e2 a8 ⊢;show tSeq 163#tWhile _ _ [some (vS t),some 11#cl,2#f,some 21#((0:Nat):Int),none] H2;refine bS (λσ' H'=>Ex2 λus x4=>Al4 (σ'=[some (vS t),some 11#cl,2#f,some 21#(t.length:Nat),x4]) (0#T) (H' l=some 14#us) (NewQ H [l] H' λG=>PcsAt c G us (aF t))) 3#H ?_
 ·refine cy (λm σ' H'=>Ex4 λ(p:Nat) (us:List V) (dn:List Pc) (x4:Option V)=>Al10 (σ'=[some (vS t),some 11#cl,2#f,some 21#(p:Nat),x4]) (0#T) (H' cl=some 14#((clGo 0 t).map V.int)) (H' l=some 14#us) (NewQ H [l] H' λG=>PcsAt c G us dn) (p<=1#n) (m=1#n - p) (Al t p) (5#n<=p) (dn++aF 66#p=aF t)) t.length ⟨0,[],[],none,rfl,s2,a8,e2,0#bK trivial,4#r,rfl, .zero t,4#r,rfl⟩ ?_;rintro m σ' H3 ⟨p,us,dn,x4,rfl,s3,a9,e3,a4,hp,rfl,hA,hul,hd⟩;ac_rfl;refine⟨decide (p < 1#n),λR k=>⟨_,rfl,_,rfl,_,rfl,bigS nofun,_,_,rfl,rfl,_,rfl,?_⟩,λhc H4 s4=>?_,λhc H4 s4=>?_⟩
  ·show 29
  ·have a3:p < t.length:=0#s hc;obtain⟨pc,r,a5⟩:=fJ (s:=t.drop p) (λz=>by have:=0#V z;rw[l15,l34] at this;omega);obtain⟨p',c4,hlt,c3,c0,c2⟩:=hA.step a3 a5;have a7:=4#j;have e4:=4#k e3;refine⟨_,rfl,_,rfl,_,rfl,t,p,cl,pc,r,rfl,4#k a9,a3,hl,ha,hA,a5,λtp v H5 s5 e5 hv=>?_⟩;rw[<- c4] at e5
   symm
   have a6:=4#D e4;refine⟨_,rfl, .inl 33#a6,?_⟩;refine wU 0#u ev_c (2#m e5) (ag (j:=0) rfl) _ ⟨l,_,_,rfl,rfl,a6,by rw[hs];omega,?_⟩;have c1:tp≠l:=(nq a6 e5);refine wU 0#u ev_c (2#m ((ai c1).trans e5)) (ag (j:=1) rfl) _ ?_
   symm
   refine⟨1#n - p',by omega,p',us++[v],dn++[pc],_,rfl,aj a1 (a7.trans s5),(ai c5).trans (4#D (4#k a9)),ac,?_,c3,rfl,c2,by rw[l6,l5,l34];omega,?_⟩
   ·show 50;refine 8#b ((a4.same s4).same s5) (NewQ.of (R:=λG=>PcAt c G v pc) a7 (λb hb=>by rw[2#R hb,e4];simp) hv) wW B2 λG h1 h2=>0#fe
   ·rw[l19,<- hd,bC a5,c0];rfl
  ·have a3:p=t.length:=by have:=1#u hc;omega
   subst a3;rw[l58,bX,l12] at hd;subst hd;exact hN _ _ ⟨us,x4,rfl,4#j,4#k e3,a4.same s4⟩
 ·rintro σ' H3 ⟨us,x4,rfl,s3,e3,a4⟩;ac_rfl;exact⟨_,rfl,q l us H3 s3 a1 e3 (a4.dif wW)⟩
abbrev kf:Stmt:=top 68
inductive spMerged (c:Cp)(vs:0#t)(H:Hp)(Q:VK)(u3:XK):Prop
 |mk (G0:Hp)(W:List Addr)(l:Addr)(us:List V)(qs:List Qc)(_:vs=[.ref l])(_:Same G0 H)(_:∀b∈W,H b≠none)(_:H l=some (.lst us))(_:NewQ G0 W H λG=>QsAt c G us qs)(_:QOk qs)(_:lenQ qs<=100000)(_:qs.length<=100000)(_:∀r as H',Same H H'->H r=none->H' r=some (.lst (as.map V.ref))->(NewQ G0 W H' λG=>PCs c G as (mgGo [] qs))->Q (.ref r) H')
def sR (F:2#k "merged" "merged" kf f fd)(T:4#I)(DN:0#Q "Plain" c.Plain p18 141#c.Plain):0#b 3 f fd 0#ei (spMerged c):=by
 have sc:1#b ["pieces","parts","signs","piece"] 0#ei 55#kf:=mkS;refine F.oks sc λ{i1 A _ s _ _}H Q hr h=>?_;obtain⟨G0,W,l,us,qs,rfl,s0,hW,el,f1,hok,hlq,hql,q⟩:=h;have hu:(A.deeper (0#bL "merged" 55#kf s.heap.objs.size f i1)).units+64 < cLine:=by
  have:=hr.un;omega
 refine az (xbc 20#1
  (xbc 20#2
  (xbc (0#cd rfl 122#xil 27#3
  (xbc (xif (bL (xcB gD T.u11 rfl (xac (6#k) 10#(xty (T:="str") T.g11 rfl)))) (xbc (bI (xmA (5#M) 10#(6#k)))
  103#yA) xb0)
  (xbc (xif 169#((oI hu),130#xa0) (xbc (bI 0#bf)
  103#20#2) xb0)
  103#(bI (xmA (2#E) 10#(6#k))))))
  (xbc (xif 169#((oI hu),130#xa0) 103#(bI 0#bf) xb0)
  13#(2#E))))) ?_
 show 13;have d3:5#n=qs.length:=let ⟨_,_,_,_,e⟩:=f1;e.len
 rw[BE];refine⟨bg0,λpr c4=>?_⟩;have s1:=ad c4 0#y;have e1:4#b pr 0#y pr=some 0#y:=ac
 symm
 generalize upd H pr (.lst [])=H1 at s1 e1 ⊢;refine⟨bg0,λc3 a7=>?_⟩;have s2:=s1.trans (ad a7 0#y);have g1:=ad a7 0#y _ _ e1;have f4:upd H1 c3 0#y c3=some 0#y:=ac;have d2:H c3=none:=s1.free a7;have f2:c3≠pr:=(nq e1 a7)
 symm
 generalize upd H1 c3 (.lst [])=H2 at s2 g1 f4 ⊢;refine 50#(s2 _ _ el);have mk:∀{H3:Hp} {sg:Addr} {a1:List (List Nat)} {as:List Addr} {dn:List PC},4#L H3->H3 pr=some 14#(2#s)->H3 sg=some 14#(a1.map vS)->sg≠pr->Asc a1.flatten->a1.flatten.length<=100000->a1≠[]->5#k<=300000->(0#dK 0#eq H3 λG=>PCs c G as dn) →
   ∀{y dx:Addr},H3 y=none->H3 dx=none->dx≠y->∀H4,H4=upd (upd (upd H3 dx (.own y)) y (.ins c.Plain dx [])) y (.ins c.Plain dx [("signs",vS a1.flatten)]) →
   Same H 0#aq/\H4 pr=some 14#(2#s)/\0#aq pr=some 14#((as++[y]).map V.ref)/\(0#dK 0#eq 0#aq λG=>PCs c G (as++[y]) (dn++bw a1)):=by
  intro H3 sg a1 as dn s3 ep es c2 a4 e2 f3 g3 hn y dx hy c5 d8 H4 e4;obtain⟨m1,m2⟩:=yV (H:=H3) (C:=c.Plain) (o := .ins c.Plain dx [("signs",vS a1.flatten)]) 18#H3 hy c5;rw[<- e4] at m1 m2;refine⟨aj c4 160#m1,m1 _ _ ep,by rw[ac,l14];rfl,?_⟩;show 50;refine 8#b (hn.same m1) (NewQ.of (H3:=H3) (R:=λG=>PCAt c G y (.one 72#a1.flatten)) (s0.trans s3) (λb hb=>?_) ⟨jm a4 e2,dx,m2⟩) oQ A1 λG h1 h2=>?_
  ·rcases 1#y hb with z |hb
   ·rw[z,ep];simp
   ·rcases 1#y hb with z |hb
    ·rw[z,es];simp
    ·intro z;exact hW b hb (s3.free z)
  ·have:bw a1=[.one 72#a1.flatten]:=by
    unfold bw;rw[0#z (by simp[f3])]
   rw[this];exact h1.snoc h2
 refine gA (xs:=us) (λi σ H'=>Ex5 λ(as:List Addr) (dn:List PC) (sg:Addr) (a1:List (List Nat)) (x3:Option V)=>Al12 (σ=[2#f,some 11#pr,some 11#sg,x3]) (0#T) (H' pr=some 14#(2#s)) (H' sg=some 14#(a1.map vS)) (H sg=none) (sg≠pr) (0#dK 0#eq H' λG=>PCs c G as dn) (5#k<=2 * i) (6#E<=i) (Asc a1.flatten) (a1.flatten.length+lenQ (qs.drop i)<=100000) (dn++mgGo a1 (qs.drop i)=mgGo [] qs))
  ⟨[],[],c3,[],none,rfl,s2,g1,f4,d2,f2,0#bK trivial,4#r,4#r,1#F,by show 0+lenQ qs<=_;omega,rfl⟩ ?_ ?_ ?_
 ·rintro i σ H3 _ ⟨as,dn,sg,a1,x3,_,s3,_⟩;ac_rfl;exact 0#w 110#s3
 ·rintro i x σ H3 hx ⟨as,dn,sg,a1,x3,rfl,s3,ep,es,d5,c2,hn,g3,h9,a4,e2,a2⟩;ac_rfl;obtain⟨hil,_⟩:=0#C hx;obtain⟨qc,d4⟩:∃qc,qs[i]? = some qc:=4#v;have g4:=(0#C d4);have a5:0#dK 0#eq H3 λG=>QAt c G x qc:=(((f1.wide d5).wide c4).same s3).map λG h=>by
   obtain⟨q',h1,h2⟩:=h.get hx;rw[d4] at h1;cases h1;exact h2
  have g6:qs.drop i=qc::qs.drop (i+1):=by rw[l31 g4.1,g4.2]
  have a8:=sw d4;rw[g6] at a2
  symm
  cases qc with
  |txt y=>
   obtain⟨_,_,_,_,e9⟩:=a5;have e9:x=vS y:=e9;subst e9;have hy:=hok y 125#d4;have a8:lenQ (qs.drop i)=(5#u+0)+lenQ 0#fy:=a8;refine cz (λR k=>⟨_,rfl,_,_,_,_,rfl, .str _,fw _ _,_,rfl,k _ 18#_⟩) λH4 s4=>?_;have g2:=4#k es;refine⟨_,rfl, .inl 33#g2,_,rfl,sg,_,_,rfl,rfl,g2,by rw[l4,hs];omega,?_⟩;refine⟨as,dn,sg,a1++[y],_,rfl,aj d5 (4#j),(ai 76#c2).trans (4#k ep),by rw[ac,l14];rfl,d5,c2,((0#cQ).upd 38#l7),by omega,by rw[l6,l5,l34];omega,?_,?_,a2⟩
   ·rw[l74];exact mV a4 (by show Asc (y++[]);rw[l12];exact hy.1)
   ·rw[l74,l6];show _+(y++[]).length+_<=_;rw[l12];omega
  |part p=>
   obtain⟨a,i2⟩:∃a,x = .ref a:=let ⟨_,_,_,_,h⟩:=a5;⟨h.choose,h.choose_spec.1⟩
   subst i2;have a5:0#dK 0#eq H3 λG=>PCAt c G a p:=a5.map λG h=>by
    obtain⟨a',e,h⟩:=h;cases e;exact h
   have a8:lenQ (qs.drop i)=0+lenQ 0#fy:=a8;have i3:PCAt c H3 a p:=let ⟨_,sG,_,_,h⟩:=a5;h.same sG
   obtain⟨ty,g5,h8⟩:=T.noStr i3;refine br (λR k=>⟨_,rfl,_,_,_,_,rfl,g5,h8,_,rfl,k _ 18#_⟩) λH4 s4=>?_;have f5:=4#j;refine bS (λσ' H'=>Ex3 λ(a9:List Addr) (dn':List PC) (c0:Addr)=>Al9 (σ'=[2#f,some 11#pr,some 11#c0,some 11#a]) (0#T) (H' pr=some 14#(a9.map V.ref)) (H' c0=some 0#y) (H c0=none) (c0≠pr) (0#dK (pr::c0::W) H' λG=>PCs c G a9 dn') (a9.length<=2 * i+1) (dn'++p::mgGo [] 0#fy=mgGo [] qs)) 3#H ?_
   ·have tN:=AS (K:=K) (σ:=[2#f,some 11#pr,some 11#sg,some 11#a]) (ta:=tVar 2) 0#u 74#(4#k es);refine s_if _ tN 0#ed 0#ed
    ·have hz:a1≠[]:=λz=>by rw[z] at hc;cases hc
     have e8:=f5.trans s5;have a6:=4#D (4#k ep);have c1:=4#D (4#k es);refine 5#K;rw[cq,glue_flat];intro y dx hy c5 d8;obtain⟨k1,k2,k3,k4⟩:=mk e8 a6 c1 c2 a4 nofun hz nofun ((0#cQ).same s5) hy c5 d8 _ rfl;refine 9#B;refine⟨bg0,λe5 a3=>?_⟩
     symm
     have e6:H e5=none:=k1.free a3;have e7:e5≠pr:=(nq k3 a3);refine hN _ _ ⟨as++[y],dn++bw a1,e5,rfl,k1.trans 46#a3,ad a3 _ _ _ k3,ac,e6,e7,?_,by rw[l6,l5,l34];omega,by rw[l19];exact a2⟩;exact (((k4.less (W':=pr::W) λb hb=>by
      rcases 1#y hb with z |z
      ·rw[z];exact l7
      ·exact l8 _ 38#z).wide a3).less λb hb=>by
      rcases 1#y hb with z |z
      ·rw[z];exact l8 _ l7
      ·rcases 1#y z with z |z
       ·rw[z];exact l7
       ·exact l8 _ 38#z).same 46#a3
    ·have hz:a1=[]:=by
      cases a1 with
      |nil=>rfl
      |cons _ _=>cases hc
     subst hz;exact hN _ _ ⟨as,dn,sg,rfl,f5.trans s5,4#D (4#k ep),4#D (4#k es),d5,c2,(0#cQ).same s5,by omega,a2⟩
   ·rintro σ' H5 ⟨a9,dn',c0,rfl,s5,a6,c1,d6,d7,e3,hal',d0⟩;ac_rfl;refine⟨_,rfl, .inl 33#a6,_,rfl,pr,_,_,rfl,rfl,a6,by rw[l4,hs];omega,?_⟩;refine⟨a9++[a],dn'++[p],c0,[],_,rfl,aj c4 s5,by rw[ac,l14];rfl,(ai d7).trans c1,d6,d7,?_,by rw[l6,l5,l34];omega,4#r,1#F,by show 0+_<=_;omega,by rw[l19];exact d0⟩;show 50;have f0:0#dK (pr::c0::W) H5 λG=>PCAt c G a p:=(((f1.wide d6).wide c4).same s5).map λG h=>by
     obtain⟨q',h1,h2⟩:=h.get hx;rw[d4] at h1;cases h1;obtain⟨a',e,h2⟩:=h2;cases e;exact h2
    exact 8#b e3 f0 oQ A1 λG h1 h2=>0#fe
 ·rintro σ H3 ⟨as,dn,sg,a1,x3,rfl,s3,ep,es,d5,c2,hn,g3,h9,a4,e2,a2⟩;ac_rfl;rw[d3,l58] at a2 e2;have fin:∀{a9:List Addr} {H5:Hp},4#L H5->H5 pr=some 14#(a9.map V.ref)->(0#dK 0#eq H5 λG=>PCs c G a9 (mgGo [] qs))->Q 11#pr H5:=λs5 a6 e3=>q pr _ _ s5 c4 a6 (e3.less λb hb=>l8 _ 38#hb);have tN:=AS (K:=K) (σ:=[2#f,some 11#pr,some 11#sg,x3]) (ta:=tVar 2) 0#u 74#es;refine s_if _ tN 0#ed 0#ed
  ·have hz:a1≠[]:=λz=>by rw[z] at hc;cases hc
   have e8:=s3.trans s5;have a6:=4#D ep;have c1:=4#D es;refine 5#K;rw[cq,glue_flat];intro y dx hy c5 d8;obtain⟨k1,k2,k3,k4⟩:=mk e8 a6 c1 c2 a4 nofun hz nofun (hn.same s5) hy c5 d8 _ rfl;refine 9#B;refine⟨_,rfl,fin k1 k3 (k4.map λG h=>?_)⟩;rw[<- a2];exact h
  ·have hz:a1=[]:=by
    cases a1 with
    |nil=>rfl
    |cons _ _=>cases hc
   subst hz;refine⟨_,rfl,fin 160#s5 (4#D ep) ((hn.same s5).map λG h=>?_)⟩;rw[<- a2];show PCs c G as (dn++[]);rw[l12];exact h
abbrev gH:Stmt:=top 67
inductive spStrongs (c:Cp)(vs:0#t)(H:Hp)(Q:VK)(u3:XK):Prop
 |mk (G0:Hp)(l:Addr)(us:List V)(ps:List Pc)(_:vs=[.ref l])(_:Same G0 H)(_:H l=some (.lst us))(_:PcsAt c (dif G0 H) us ps)(_:PcOk ps)(_:ps.length<=100000)(_:∀r ws H',Same H H'->H r=none->H' r=some (.lst ws)->QsAt c (dif G0 H') ws (wsGo none ps)->Q (.ref r) H')
def qA (F:2#k "with_strong" "with_strong" gH f fd)(T:4#I)(Yg:0#Q "Strong" c.Strong p19 (spInitS c.Strong))(DF:0#c 3 "merged" 0#ei (spMerged c)):0#b 4 f fd 0#ei (spStrongs c):=by
 have sc:1#b ["pieces","outer","inner","begun","piece"] 0#ei 55#gH:=mkS;refine F.oks sc λ{j8 A _ s _ _}H Q hr h=>?_;obtain⟨G0,l,us,ps,rfl,s0,el,i2,hok,hpl,q⟩:=h;have hu:(A.deeper (0#bL "with_strong" 55#gH s.heap.objs.size f j8)).units+64 < cLine:=by
  have:=hr.un;omega
 refine az (xbc 20#1
  (xbc 20#2
  (xbc 39#xbl
  (xbc (0#cd rfl 122#xil 27#4
  (xb1 (xif (xand 162#mH (gU (bL (6#k)))).xt 103#(bI (xmA (5#M) 10#(xv 4))) (xb1 (xif 162#mH 103#(bI (xmA (2#E) 10#(xv 4))) (xb1 (xif (fW (bL (6#k))) 103#39#xbl (xbc (bI (xmA (2#E) 10#(xifE 169#((AR hu),130#xa0) xstr (xnew Yg hr.mono 19#(xcd DF hr 35#(5#M))))))
  (xbc 20#2
  103#39#xbl)))))))))
  (xbc (xif (bL (6#k)) 103#(bI (xmA (2#E) 10#xstr)) xb0)
  13#(xop cb (2#E) (5#M))))))) ?_
 show 13;have d6:5#n=ps.length:=i2.len;rw[Aw];refine⟨bg0,λou d2=>?_⟩;have s1:=ad d2 0#y;have e1:4#b ou 0#y ou=some 0#y:=ac
 symm
 generalize upd H ou (.lst [])=H1 at s1 e1 ⊢;refine⟨bg0,λc5 a7=>?_⟩;have s2:=s1.trans (ad a7 0#y);have i4:=ad a7 0#y _ _ e1;have h8:upd H1 c5 0#y c5=some 0#y:=ac;have d4:H c5=none:=s1.free a7;have f4:c5≠ou:=(nq e1 a7)
 symm
 generalize upd H1 c5 (.lst [])=H2 at s2 i4 h8 ⊢;refine 50#(s2 _ _ el);refine gA (xs:=us) (λi σ H'=>Ex7 λ(ws ys:List V) (dn iq:List Qc) (nn:Addr) (bg:Bool) (x4:Option V)=>Al14 (σ=[2#f,some 11#ou,some 11#nn,some (.bl bg),x4]) (0#T) (H' ou=some 14#ws) (H' nn=some 14#ys) (H nn=none) (nn≠ou) (0#dK [ou,nn] H' λG=>QsAt c G ws dn/\QsAt c G ys iq) (ws.length<=i) (3#o<=i) (lenQ iq<=i) (QOk iq) (OneQ iq) (bg=false->iq=[]) (dn++wsGo (if bg then some iq else none) (ps.drop i)=1#P ps))
  ⟨[],[],[],[],c5,false,none,rfl,s2,i4,h8,d4,f4,0#bK ⟨trivial,trivial⟩,4#r,4#r,4#r,QOk.nil,1#F,λ_=>rfl,rfl⟩ ?_ ?_ ?_
 ·rintro i σ H3 _ ⟨ws,ys,dn,iq,nn,bg,x4,_,s3,_⟩;ac_rfl;exact 0#w 110#s3
 ·rintro i x σ H3 hx ⟨ws,ys,dn,iq,nn,bg,x4,rfl,s3,eo,en,c4,c0,hn,k2,j2,j4,e3,a4,e2,a1⟩;ac_rfl;obtain⟨hil,_⟩:=0#C hx;obtain⟨pc,e9⟩:∃pc,ps[i]? = some pc:=4#v;have g4:=(0#C e9);have d0:PcAt c (dif G0 H) x pc:=by
   obtain⟨p',h1,h2⟩:=i2.get hx;rw[e9] at h1;cases h1;exact h2
  have j7:ps.drop i=pc::ps.drop (i+1):=by rw[l31 g4.1,g4.2]
  rw[j7] at a1
  symm
  by_cases hstar:pc = .star
  ·subst hstar;have f0:x = .non:=d0;subst f0;have tN:∀H',Tells 112#(tOp R_op_notN 44#4 (tC .non)) [2#f,some 11#ou,some 11#nn,some (.bl bg),some V.non] H' false:=λH' R k=>⟨_,rfl,rfl,_,rfl,by rw[show (!decide (V.non=V.non))=false from rfl];exact k H' 18#_⟩;refine s_if false (dF false false (tN H3) λz=>1#o z) 5#O λH4 s4 _=>?_;refine s_if false (tN H4) 5#O λH5 s5 _=>?_;have d5:=(4#j).trans s5;have a5:=4#D (4#k eo);have e7:=4#D (4#k en);have d8:=(0#cQ).same s5;cases bg with
   |false=>
    have hz:=e2 rfl;subst hz;have d3:ys=[]:=by
     obtain⟨_,_,_,_,_,h⟩:=hn;exact l60 h.len
    subst d3;refine s_if true (iT false (t_bv 0#u)) (λH6 s6 _=>?_) λ_ _ z=>1#o z;exact⟨ws,[],dn,[],nn,true,_,rfl,d5.trans s6,s6 _ _ a5,s6 _ _ e7,c4,c0,d8.same s6,by omega,4#r,4#r,QOk.nil,a4,λz=>1#o z,a1⟩
   |true=>
    refine s_if false (iT true (t_bv 0#u)) 5#O λH6 s6 _=>?_;have k7:=d5.trans s6;have h9:=s6 _ _ a5;have g5:=s6 _ _ e7;have k5:=d8.same s6;have a8:3#o=iq.length:=let ⟨_,_,_,_,_,h⟩:=hn;h.len
    have rest:∀{H7:Hp} {v:V},4#L H7->H7 ou=some 14#ws->H7 nn=some 14#ys->(0#dK [ou,nn] H7 λG=>QsAt c G ws dn)->(0#dK [ou,nn] H7 λG=>QAt c G v (bt iq))->∀{a3:Addr},upd H7 ou 14#(ws++[v]) a3=none →
      Ex7 λ(a6 f5:List V) (dn' c3:List Qc) (d7:Addr) (f2:Bool) (j3:Option V)=>Al14 ([some 128#l,some 128#ou,some 128#a3,some (V.bl false),some V.non]=[some 128#l,some 128#ou,some 128#d7,some (V.bl f2),j3]) (4#L (upd 4#P a3 0#y)) (upd 4#P a3 0#y ou=some 14#a6) (upd 4#P a3 0#y d7=some 14#f5) (H d7=none) (d7≠ou) (0#dK [ou,d7] (upd 4#P a3 0#y) λG=>QsAt c G a6 dn'/\QsAt c G f5 c3) (a6.length<=i+1) (f5.length<=i+1) (lenQ c3<=i+1) (QOk c3) (OneQ c3) (f2=false->c3=[]) (dn'++wsGo (if f2 then some c3 else none) (ps.drop (i+1))=1#P ps):=by
     intro H7 v s7 a9 c2 j1 k1 a3 a2;have s8:4#L 4#P:=aj d2 s7;have e8:upd H7 ou 14#(ws++[v]) ou=some 14#(ws++[v]):=ac;have g1:a3≠ou:=(nq e8 a2);refine⟨ws++[v],[],dn++[bt iq],[],a3,false,_,rfl,s8.trans 46#a2,ad a2 _ _ _ e8,ac,s8.free a2,g1,?_,by rw[l6,l5,l34];omega,4#r,4#r,QOk.nil,1#F,λ_=>rfl,by rw[l19];exact a1⟩;have j:0#dK [ou,nn] 4#P λG=>QsAt c G (ws++[v]) (dn++[bt iq])/\QsAt c G [] []:=0#bZ (8#b j1 k1 B3 mo_Q λG h1 h2=>⟨0#fe,trivial⟩) l7;exact (((j.less (W':=[ou]) λb hb=>by rw[2#R hb];exact l7).wide a2).less λb hb=>by
      rcases 1#y hb with z |z
      ·rw[z];exact l8 _ l7
      ·rw[2#R z];exact l7).same 46#a2
    refine⟨_,rfl, .inl 33#h9,?_⟩;refine BR (K:=K) (ta:=tVar 2) 0#u 74#g5 _ λH7 s7=>?_;have f1:=k7.trans s7;have a9:=0#gp h9;have c2:=0#gp g5;have f3:=k5.same s7;by_cases d3:ys=[]
    ·subst d3;have g2:iq=[]:=l60 a8.symm;refine ite2 8#J (λz=>0#A rfl z);refine⟨ou,_,_,rfl,rfl,a9,by rw[hs];omega,bg0,λa3 a2=>?_⟩
     symm
     refine rest f1 a9 c2 (f3.map λG h=>h.1) (0#bK ?_) a2;subst g2;rfl
    ·refine ite2 (λz=>0#A (List.isEmpty_iff.mp z) d3) 8#J;refine⟨_,rfl,G0,[ou,nn],nn,ys,iq,rfl,s0.trans f1,λb hb=>?_,c2,f3.map λG h=>h.2,e3,by omega,by omega,λr as H8 s8 e6 er k3=>?_⟩
     ·rcases 1#y hb with z |z
      ·rw[z,a9];simp
      ·rw[2#R z,c2];simp
     intro y dx hy g3 hyd;have i1:=f1.trans s8;have k9:r≠y:=(nq hy er);have k4:r≠dx:=(nq g3 er);refine⟨y,dx,r,_,rfl,ac,by rw[ai k9,ai k4];exact er,λp hp=>⟨rfl,?_⟩⟩;have k0:p≠y:=(nq ac hp);have s9:Same H8 (upd (upd H8 dx (.own y)) y (.ins c.Strong dx [])):=aj hy 46#g3;have j5:H8 p=none:=s9.free hp;generalize hH9:upd (upd (upd (upd H8 dx (.own y)) y (.ins c.Strong dx [])) p (.lst (as.map V.ref))) y (.ins c.Strong dx [("parts", .ref p)])=H9;have c1:Same H8 H9:=by rw[<- hH9];exact aj hy (s9.trans 46#hp)
     have j9:H9 y=some (.ins c.Strong dx [132#p]):=by rw[<- hH9];exact ac
     have l0:H9 p=some 14#(2#s):=by rw[<- hH9,ai k0];exact ac
     refine⟨ou,_,_,rfl,rfl,c1 _ _ (s8 _ _ a9),by rw[hs];omega,bg0,λa3 a2=>?_⟩
     symm
     refine rest (i1.trans c1) (c1 _ _ (s8 _ _ a9)) (c1 _ _ (s8 _ _ c2)) (((f3.same s8).same c1).map λG h=>h.1) ?_ a2;refine 8#b (k3.same c1) (NewQ.of (H3:=H8) (R:=λG=>G y=some (.ins c.Strong dx [132#p])/\G p=some 14#(2#s)) (s0.trans i1) (λb hb z=>?_) ⟨by rw[aD hy];exact j9,by rw[aD j5];exact l0⟩) oQ (λG G' s h=>⟨8#L h.1,8#L h.2⟩) λG h1 h2=>?_
     ·rcases 1#y hb with z2 |z2
      ·rw[z2,s8 _ _ a9] at z;cases z
      ·rw[2#R z2,s8 _ _ c2] at z;cases z
     ·have g2:iq≠[]:=λz=>d3 (l60 (by rw[a8,z];rfl));have:bt iq = .part (.strong (ones (mgGo [] iq))):=by
       unfold bt;rw[0#z (by simp[g2])]
      rw[this];exact⟨y,rfl,dx,p,as,h2.1,h2.2,h1.ones (nk iq [] a4)⟩
  ·have f0:x ≠ .non:=by
    intro z;subst z;cases pc with
    |star=>exact hstar rfl
    |sign _=>exact nomatch d0
    |code _=>obtain⟨_,e,_⟩:=d0;exact nomatch e
    |note _=>obtain⟨_,e,_⟩:=d0;exact nomatch e
    |link _ _=>obtain⟨_,e,_⟩:=d0;exact nomatch e
   have tN:∀H',Tells 112#(tOp R_op_notN 44#4 (tC .non)) [2#f,some 11#ou,some 11#nn,some (.bl bg),some x] H' true:=λH' R k=>⟨_,rfl,rfl,_,rfl,by rw[0#D f0];exact k H' 18#_⟩;have i3 : ∀ {H' : Hp}, Same H H' -> NewQ G0 [ou, nn] H' fun G => QAt c G x (toQ pc) := fun s' => (NewQ.old (H3 := H) (R := fun G => PcAt c G x pc) s' s0 (λb hb=>by
    rcases 1#y hb with z |z
    ·rw[z];exact d2
    ·rw[2#R z];exact c4) d0).map λG h=>h.toQ hstar
   cases bg with
   |true=>
    refine s_if true (dF true true (tN H3) λ_ H4 s4=>t_bv 0#u) (λH4 s4 _=>?_) λ_ _ z=>1#o z;have j0:=4#k en;have g6:=4#j;refine⟨_,rfl, .inl 33#j0,_,rfl,nn,_,_,rfl,rfl,j0,by rw[hs];omega,?_⟩;have a1:dn++wsGo 23#iq (pc::ps.drop (i+1))=wsGo none ps:=a1;rw[eZ hstar] at a1;refine⟨ws,ys++[x],dn,iq++[toQ pc],nn,true,_,rfl,aj c4 g6,(ai 76#c0).trans (4#k eo),ac,c4,c0,?_,by omega,by rw[l6,l5,l34];omega,?_,?_,a4.snoc pc,λz=>1#o z,a1⟩
    ·refine 0#bZ ?_ 38#l7;exact 8#b (0#cQ) (i3 g6) 4#q mo_Q λG h1 h2=>⟨h1.1,h1.2.snoc h2⟩
    ·have:=jV pc;rw[ek];omega
    ·exact e3.app 158#(λl z=>su (λy e=>by subst e;exact hok y 125#e9) z)
   |false=>
    refine s_if false (dF true false (tN H3) λ_ H4 s4=>t_bv 0#u) 5#O λH4 s4 _=>?_;refine s_if true (tN H4) (λH5 s5 _=>?_) λ_ _ z=>1#o z;have e4:=9#h;have a5:=e4 _ _ eo;have d5:=s3.trans e4;refine⟨_,rfl, .inl 33#a5,_,rfl,ou,_,_,rfl,rfl,a5,by rw[hs];omega,?_⟩;have a1:dn++wsGo none (pc::ps.drop (i+1))=wsGo none ps:=a1;rw[eV hstar] at a1;refine⟨ws++[x],ys,dn++[toQ pc],iq,nn,false,_,rfl,aj d2 d5,ac,(ai c0).trans (e4 _ _ en),c4,c0,?_,by rw[l6,l5,l34];omega,by omega,by omega,e3,a4,e2,by rw[l19];exact a1⟩;show 50;exact 8#b (hn.same e4) (i3 d5) 4#q mo_Q λG h1 h2=>⟨h1.1.snoc h2,h1.2⟩
 ·rintro σ H3 ⟨ws,ys,dn,iq,nn,bg,x4,rfl,s3,eo,en,c4,c0,hn,k2,j2,j4,e3,a4,e2,a1⟩;ac_rfl;rw[d6,l58] at a1;have fin:∀{a6:List V} {dn':List Qc} {H5:Hp},4#L H5->H5 ou=some 14#a6->H5 nn=some 14#ys->a6.length<=5#n+1->(0#dK [ou,nn] H5 λG=>QsAt c G a6 dn'/\QsAt c G ys iq)->dn'++iq=1#P ps->tOp rCat 44#1 44#2 [some 128#l,some 128#ou,some 128#nn,some (V.bl bg),x4] H5 Q:=λ{a6 dn' H5} s5 a5 e7 hl5 d8 e5=>
   ⟨_, rfl, _, rfl, ou, nn, _, _, rfl, rfl, a5, e7, by rw [hs]; omega, fun r e6 => q r _ _ (s5.trans 46#e6) (s5.free e6) ac (by
    have h:=(d8.same (ad e6 14#(a6++ys))).dif 4#q;rw[<- e5];exact h.1.app h.2)⟩
  cases bg with
  |true=>
   refine s_if true (t_bv 0#u) (λH5 s5 _=>?_) λ_ _ z=>1#o z;have a5:=4#D eo;refine⟨_,rfl, .inl 33#a5,ou,_,_,rfl,rfl,a5,by rw[hs];omega,?_⟩;refine fin (aj d2 160#s5) ac ((ai c0).trans (4#D en)) (by rw[l6,l5,l34];omega) (dn':=dn++[.txt [42]]) ?_ (by rw[l19];exact a1);show 50;exact 8#b (hn.same s5) (NewQ.triv (R:=λG=>QAt c G (V.str "*") (.txt [42])) rfl) 4#q mo_Q λG h1 h2=>⟨h1.1.snoc h2,h1.2⟩
  |false=>
   have hz:=e2 rfl;refine s_if false (t_bv 0#u) 5#O λH5 s5 _=>?_;refine fin 160#s5 (4#D eo) (4#D en) nofun (hn.same s5) ?_;rw[hz];exact a1
abbrev kg:Stmt:=top 58
inductive spPartsOf (c:Cp)(vs:0#t)(H:Hp)(Q:VK)(u3:XK):Prop
 |mk (t:List Nat)(_:vs=[vS t])(_:t.length<=100000)(_:Asc t)(_:∀r as H',Same H H'->H r=none->H' r=some (.lst (as.map V.ref))->PCs c (dif H H') as (aT t)->Q (.ref r) H')
def qB (F:2#k "parts_of" "parts_of" kg f fd)(T:4#I)(Yh:0#c 5 "pieces_of" 1#K (spPieces c))(Yi:0#c 4 "with_strong" 0#ei (spStrongs c))(DF:0#c 3 "merged" 0#ei (spMerged c)):0#b 6 f fd 1#K (spPartsOf c):=by
 have sc:1#b 1#K 1#K 55#kg:=mkS;show 0;obtain⟨t,rfl,hl,ha,q⟩:=h;refine az 13#(xcd DF hr 19#(xcd Yi hr 35#(xcd Yh hr (xac (2#U) xa0)))) ?_;ac_nf;have hp:=gc _ t (7#j);have hok:=iw _ t (7#j) ha;have a2:=b9 (aF t) none;have h1:lenQ 0#co<=(aF t).length+0:=a2.1;have h2:(1#P (aF t)).length<=(aF t).length+0:=a2.2;refine⟨_,rfl,t,rfl,hl,ha,λr1 us H1 s1 hr1 e1 k1=>?_⟩;refine⟨H,r1,us,aF t,rfl,s1,e1,k1,hok,by omega,λr2 ws H2 s2 hr2 e2 k2=>?_⟩;have a1:=2#c;refine⟨H,[],r2,ws,1#P (aF t),rfl,a1,1#F,e2,NewQ.of (H3:=H) 18#_ 1#F k2,gw _ none hok (λ_ e=>7#t),by omega,by omega,λr as H3 s3 a3 e3 k3=>?_⟩;exact q r as H3 (3#n) (a1.free a3) e3 (k3.dif oQ)
end
end K13
namespace L2
open PySem PySem.Spec PyProof.Rows
open Builtin Builtin.Str
section
variable {prog:1#E}{w:World}{A:5#F}{E:Value->1#a->Prop}
def A5 {it a:Addr}{vs:7#X}(hne:a≠it):∀(n i:Nat) (s:Shared) (Q:List Value->Shared->Prop),s.heap.IsListIter it a i->s.heap.IsList a vs->i+n<=vs.size →
  (∀h',h'.IsListIter it a (i+n)->0#dr it s.heap h'->Q ((vs.toList.drop i).take n) 0#W)->9#S (draw 11#it n) Q E s
 |0,i,s,Q,hit,_,_,hQ=>by
  show wpAny _ _ (pure []) Q E s;exact 3#r (by simpa using hQ s.heap hit (Heap.SameBut.refl ..))
 |n+1,i,s,Q,hit,ht,hle,hQ=>by
  have a4:i < vs.size:=by omega
  show wpAny _ _ (pyNext 11#it >>= _) Q E s;refine 1#j (wpAny_pyNext_list_item hit ht (x:=vs[i]) (by simp[a4]) λg1 a1 a3=>?_);refine 1#j 114#(A5 hne n (i+1) _ _ a1 (ht.extBut a3.extBut hne) nofun λg2 a2 a5=>3#r ?_);have hd:vs.toList.drop i=vs[i]::vs.toList.drop (i+1):=by simp[l31,a4]
  have:=hQ g2 (by rw[show i+(n+1)=i+1+n by omega];exact a2) (a3.trans a5);rw[hd,List.take_succ_cons] at this;show 54
def za {s:1#a}{a:Addr}{vs:7#X}{targets:List (Bool×(Value->Sem Unit))}{Q:Unit->1#a->Prop}(hh:A.handled=none)(ht:s.heap.IsList a vs)
  (hn:targets.length=vs.size)(hstar:targets.findIdx? (·.1)=none)
  (h:∀h',Heap.ExtBut s.heap.objs.size s.heap h'->9#S (assignInOrder (targets.map (·.2)) vs.toList) Q E 0#W):
  wpAny 52#prog A (unpack 11#a targets) Q E s:=by
 have a3:a≠s.heap.objs.size:=by obtain⟨o,ho,_⟩:=ht;exact l27 (0#S ho)
 unfold unpack;rw[hn,hstar];refine 1#j (wpAny_holding ?_);unfold unpackItems;refine 1#j ?_;unfold notIterableAtAll;refine 1#j (wpAny_specialOf ht.typeIs slot_list_iter.lookup ?_);refine 3#r ?_;simp only[Bool.false_eq_true,if_false];refine 1#j 114#(0#aF ht ?_);refine 1#j 114#(A5 a3 vs.size 0 _ _ 3#K (ht.push _) nofun λg1 a1 a2=>?_);have j7:List.take vs.size (List.drop 0 vs.toList)=vs.toList:=by
  rw[l69];exact l41 0#h
 rw[j7];rw[0#z 0#h];have a4:g1.IsList a vs:=(ht.push _).extBut a2.extBut a3;refine 1#j 114#(wpAny_pyNext_list_end hh a1 a4 0#h λg2 a5=>?_);simp only[Option.isSome_none,Bool.false_eq_true,if_false];exact 3#r (h g2 λb o hb e=>a5 b o hb (a2.extBut b o hb (0#H _ e)))
end
section
variable {X:Cx}{pos:Pos}
inductive gLst (K:Frag)(n:Nat)(t:TGs)(v:V)(σ:St)(H:Hp)(Q:7#m):Prop
 |mk (a xs)(_:v = .ref a)(_:SqL K H a xs)(_:xs.length=n)(_:t xs σ H Q)
def A6 {es:1#Z}{k:Nat}{t:TGs}{n:Nat}(hc:7#J=true)(h:PGs X es t)
  (hn:(3#z).length=n:=by rfl) (hst:(3#z).findIdx? (·.1)=none:=by rfl):PG X 133#k (gLst X.K n t):=by
 show 91;cases r;obtain⟨its,rv,ht,hz⟩:=5#j;rw[assign_Tuple];refine 1#j (wpAny_standAt (za 3#t ht.isList (by simp[hn,<- hl,rv.length]) hst λh' hx=>?_));show 33
def xgl {es:1#Z}{k n:Nat}{tgs:TGs}(hc:7#J=true)(h:XGs X es tgs)(hn:(3#z).length=n:=by rfl) (hst:(3#z).findIdx? (·.1)=none:=by rfl):XG X 133#k (gLst X.K n tgs):=⟨A6 hc h.h hn hst⟩
end
end L2
namespace Lm
open PySem PySem.Spec L2 Lw PyProof.Rows Builtin Builtin.Str
end Lm
namespace L2
open PySem PySem.Spec PyProof.Rows
end L2
namespace Lw
open PySem L2 Lm
end Lw
namespace L2
open PySem PySem.Spec PyProof.Rows
section
variable {X:Cx}
inductive rEqW (K:Frag)(k:Bool)(x y:V)(H:Hp)(Q:VK):Prop
 |mk (d)(_:Den K H x d)(_:Den K H y d)(_:d.depth<=64)(_:Q (.bl k) H)
def sS {K:Frag}{H:Hp}{x:V}{d:PyData}(dx:Den K H x d)(hd:d.depth<=64):SeqAt.shaped d=true:=by
 unfold SeqAt.shaped;rw[dx.lay,3#Q];exact 1#f hd
def oW (hu:X.A.units+64 < cLine):OpR X (5#l .NotEq) (rEqW X.K false):=by
 show 4;obtain⟨d,dx,dy,hd,q⟩:=h;obtain⟨as,ra⟩:=dx.reads I rx;obtain⟨bs,rb⟩:=dy.reads I ry;refine ne_dataH ra rb (sS dx hd) (sS dy hd) hu ?_;rw[ox d dx.lay];exact⟨.bl false,H,I,rfl,q⟩
end
end L2
namespace Lw
open PySem L2 Lm
theorem fb {n:Nat}:∀{ds:List PyData},(∀d∈ds,d.depth<=n)->PyData.depthAll ds<=n
 | [],_=>by unfold PyData.depthAll;omega
 |d::ds,h=>by
  have h1:=h d l7;have h2:=fb λx hx=>0#bO;unfold PyData.depthAll;omega
def bo {n:Nat}{ds:2#w}(h:∀d∈ds,d.depth<=n):(0#fE ds).depth<=n+1:=by
 have:=fb h;unfold PyData.depth;omega
def cE {n:Nat}{ds:2#w}(h:∀d∈ds,d.depth<=n):(6#R ds).depth<=n+1:=by
 have:=fb h;unfold PyData.depth;omega
def cF (x:Str):(PyData.str x).depth=0:=by unfold PyData.depth;rfl
def oX (p:P1):(d1 p).depth<=1:=by
 cases p <;> (refine cE λd hd=>?_) <;> simp only[l10,List.not_mem_nil,or_false] at hd <;> (rcases hd with rfl |rfl |rfl) <;> (rw[cF];exact l9 0)
def vN (p:PC):(dP p).depth<=3:=by
 cases p with
 |one p=>exact l17 (oX p) ∅
 |strong ps=>
  refine cE λd hd=>?_;simp only[l10,List.not_mem_nil,or_false] at hd;rcases hd with rfl |rfl
  ·rw[cF];decide
  ·refine bo λd hd=>?_;obtain⟨p,_,rfl⟩:=4#i hd;exact oX p
def sz1:P1->Nat
 | .plain s=>s.cps.toList.length
 | .code s=>s.cps.toList.length+2
 | .link w n=>w.cps.toList.length+n.cps.toList.length+20
 | .note n=>n.cps.toList.length+20
def szC:PC->Nat
 | .one p=>sz1 p
 | .strong ps=>(ps.map sz1).sum+2
def Ok1:P1->Prop
 | .plain s=>Asc s.cps.toList/\s.cps.toList≠[]
 | .code s=>Asc s.cps.toList
 | .link w n=>Asc w.cps.toList/\Asc n.cps.toList
 | .note n=>Asc n.cps.toList
def OkC:PC->Prop
 | .one p=>Ok1 p
 | .strong ps=>∀p∈ps,Ok1 p
def R2:PC->Prop
 | .one _=>True
 | .strong ps=>2#x<=100000
def wrC (r:0#a):Option (0#a×List Nat):=(nxtC r).map λk=>(freeC 99#k,r.drop (k+1))
def A7 {r:0#a}:wrC (93::r)=some ([],r):=by
 unfold wrC;rw[jU];rfl
def A8 {r w t:0#a}(h:wrC r=some (w,t)):4#J+1#n < r.length:=by
 unfold wrC at h;cases hn:nxtC r with
 |none=>rw[hn] at h;cases h
 |some k=>
  rw[hn] at h;cases h;obtain⟨u,v,e,hu⟩:=jk hn;have hf:∀t:0#a,(freeC t).length<=t.length:=λt=>by
   induction hl:t.length using Nat.strongRecOn generalizing t with
   |_ n ih=>
    match t,hl with
    | [],hl=>exact l11 _
    |x::r,hl=>
     cases ht:aO (x::r) with
     |false=>
      rw[free_one' ht,l5];have:=ih r.length (by rw[<- hl,l5];omega) r rfl;rw[l5] at hl;omega
     |true=>
      obtain⟨y,r',e'⟩:=bY ht;obtain⟨_,rfl⟩:=6#d e';rw[free_take' ht,l5];have:=ih r'.length (by rw[<- hl,l5,l5];omega) r' rfl;rw[l5,l5] at hl;omega
  have:=hf 99#k;rw[l29] at this;rw[l15];have:=0#V e;rw[l6,l5] at this;omega
def A9 {r w t:0#a}(ha:Asc r)(h:wrC r=some (w,t)):Asc w/\Asc t:=by
 unfold wrC at h;cases hn:nxtC r with
 |none=>rw[hn] at h;cases h
 |some k=>
  rw[hn] at h;cases h;exact⟨λc hc=>ha c (l81 (gG hc)),ha.drop _⟩
def wr_empty {r t:0#a}:wrC r=some ([],t) ↔ r=93::t:=by
 show 41
 ·intro h;unfold wrC at h;cases hn:nxtC r with
  |none=>rw[hn] at h;cases h
  |some k=>
   rw[hn] at h;have h1:freeC 99#k=[]:=(Prod.mk.inj (1#w h)).1;have h2:r.drop (k+1)=t:=(Prod.mk.inj (1#w h)).2;obtain⟨u,v,e,hu⟩:=jk hn;subst hu;rw[e,l51] at h1;cases u with
   |nil=>rw[e] at h2 ⊢;rw[<- h2];rfl
   |cons x u=>
    exfalso;cases u with
    |nil=>cases h1
    |cons y u=>
     replace h1:(if x=92/\takenC.contains y=true then y::freeC u else x::freeC (y::u))=[]:=h1;split at h1 <;> cases h1
 ·rintro rfl;exact A7
def zb (r:0#a):bO r=match wrC r with |some (w,t)=>if w=[] then none else (match t with |40::r2=>(nameAt 41 r2).map λ(n,r3)=>(Pc.link w n,r3) |_=>none) |none=>none:=by
 unfold wrC;cases hn:nxtC r with
 |none=>unfold bO;rw[hn];rfl
 |some k=>
  cases k with
  |zero=>
   obtain⟨u,v,e,hu⟩:=jk hn;show _=if freeC 99#0=[] then none else _
   rw[1#d (show freeC 99#0=[] by rw[List.take_zero];rfl)];unfold bO;rw[hn]
  |succ k=>
   have hw:freeC 99#(k+1)≠[]:=λz=>by
    have h1:wrC r=some ([],r.drop (k+1+1)):=by unfold wrC;rw[hn];show some (freeC _,_)=_;rw[z]
    have h2:=wr_empty.mp h1;rw[h2,jU] at hn;cases hn
   show _=if freeC 99#(k+1)=[] then none else (match r.drop (k+1+1) with |40::r2=>(nameAt 41 r2).map λ(n,r3)=>(Pc.link 8#N n,r3) |_=>none)
   rw[0#z hw];unfold bO;rw[hn]
   all_goals rfl
def PcG:Pc->Prop
 | .sign x=>x < 128
 | .star=>True
 | .code l=>Asc l/\l≠[]/\96∉l
 | .note n=>Asc n/\aE n=true/\aR n=n
 | .link w n=>Asc w/\w≠[]/\Asc n/\aE n=true/\aR n=n
def sPc:Pc->Nat
 | .sign _=>1
 | .star=>0
 | .code l=>0#L+2
 | .note n=>n.length+20
 | .link w n=>4#J+n.length+20
def lZ {c:Nat}{l n r:0#a}(ha:Asc l)(h:nameAt c l=some (n,r)):(Asc n/\aE n=true/\aR n=n)/\Asc r/\n.length+1+1#m=l.length:=by
 obtain⟨a,b,_,e,hn,rfl⟩:=iu h;have h1:Asc a:=λc hc=>ha c (by rw[e];exact l44 _ hc);refine⟨⟨h1.small,(jj hn).1,(jj hn).2⟩,λc hc=>ha c (by rw[e];exact l35 _ 38#hc),?_⟩;rw[e,l6,l5];unfold aR;rw[l4];omega
def sT {s r:0#a}{p:Pc}(ha:Asc s)(h:cI s=some (p,r)):PcG p/\Asc r/\sPc p+21 * 1#m<=21 * s.length/\1#m < s.length:=by
 have a2:=jT h;cases s with
 |nil=>cases h
 |cons x t=>
  have hx:x < 128:=ha x l7;have a1:Asc t:=λc hc=>ha c 38#hc;replace h:0#p=some (p,r):=h;rw[l5] at a2 ⊢;by_cases ht:aO (x::t)=true
  ·rw[1#d ht] at h;obtain⟨y,r',e⟩:=bY ht;obtain⟨rfl,rfl⟩:=6#d e;cases h;refine⟨a1 y l7,λc hc=>a1 c 38#hc,?_,a2⟩;show 1+21 * 0#dC<=_;rw[l5];omega
  ·rw[0#z ht] at h;clear ht;show 36
   ·cases h;exact⟨trivial,a1,by show 0+_<=_;omega,a2⟩
   ·show 36
    ·rename_i h96;cases hc:b8 t with
     |none=>rw[hc] at h;cases h;exact⟨by show (96:Nat) < 128;omega,a1,by show 1+_<=_;omega,a2⟩
     |some q=>
      rw[hc] at h;cases h;unfold b8 at hc;split at hc
      ·rename_i y a b he;cases hc;obtain⟨e,hn⟩:=cutAt_eq he;refine⟨⟨λc hc=>a1 c (by rw[e];exact l44 _ hc),by simp,hn⟩,λc hc=>a1 c (by rw[e];exact l35 _ 38#hc),?_,a2⟩;have:=0#V e;rw[l6,l5 (a:=96)] at this;show (y::a).length+2+_<=_;omega
      ·cases hc
    ·show 36
     ·cases hm:b7 t with
      |some q=>
       rw[hm] at h;cases h;show 99
       ·rename_i r2;cases hn:Lw.nameAt 93 r2 with
        |none=>rw[hn] at hm;cases hm
        |some nb=>
         rw[hn] at hm;cases hm;obtain⟨g1,g2,g3⟩:=lZ (λc hc=>a1 c 38#hc) hn;refine⟨g1,g2,?_,a2⟩;show nb.1.length+20+_<=_;rw[l5];omega
       ·cases hm
      |none=>
       rw[hm] at h;cases hl:bO t with
       |none=>rw[hl] at h;cases h;exact⟨by show (91:Nat) < 128;omega,a1,by show 1+_<=_;omega,a2⟩
       |some q=>
        rw[hl] at h;cases h;rw[zb] at hl;split at hl
        ·rename_i w u hw;split at hl
         ·cases hl
         ·rename_i hwn;split at hl
          ·rename_i r2;cases hn:Lw.nameAt 41 r2 with
           |none=>rw[hn] at hl;cases hl
           |some nb=>
            rw[hn] at hl;cases hl;obtain⟨w1,w2⟩:=A9 a1 hw;have w3:=A8 hw;obtain⟨g1,g2,g3⟩:=lZ (λc hc=>w2 c 38#hc) hn;refine⟨⟨w1,hwn,g1⟩,g2,?_,a2⟩;show 4#J+nb.1.length+20+_<=_;rw[l5] at w3;omega
          ·cases hl
        ·cases hl
     ·cases h;exact⟨hx,a1,by show 1+_<=_;omega,a2⟩
def wX (l:0#a)(h:l.all (λc=>decide (c < 128))=true):Asc l:=λc hc=>0#s (l39.mp h c hc)
def Ls {α:Type}(R:Addr->α->Prop):1#B->List α->Prop
 | [],[]=>True
 |a::as,x::xs=>R a x/\Ls R as xs
 |_,_=>False
section
variable {α:Type}{R R':Addr->α->Prop}{as:1#B}{xs:List α}
def Ls.mono (h:Ls R as xs)(k:∀a x,R a x->R' a x):Ls R' as xs:=by
 induction as generalizing xs with
 |nil=>
  cases xs with
  |nil=>trivial
  |cons _ _=>exact 6#T
 |cons a as ih=>
  cases xs with
  |nil=>exact 6#T
  |cons x xs=>exact⟨k _ _ h.1,ih h.2⟩
def Ls.len (h:Ls R as xs):5#k=xs.length:=by
 induction as generalizing xs with
 |nil=>
  cases xs with
  |nil=>rfl
  |cons _ _=>exact 6#T
 |cons a as ih=>
  cases xs with
  |nil=>exact 6#T
  |cons x xs=>exact 2#u (· + 1) (ih h.2)
def Ls.get {i:Nat}{v:V}(h:Ls R as xs)(hv:(2#s)[i]? = some v):∃a x,v = .ref a/\xs[i]? = some x/\xs.drop i=x::xs.drop (i+1)/\R a x:=by
 induction as generalizing xs i with
 |nil=>cases hv
 |cons a as ih=>
  cases xs with
  |nil=>exact 6#T
  |cons x xs=>
   cases i with
   |zero=>cases hv;exact⟨a,x,rfl,rfl,rfl,h.1⟩
   |succ i=>
    obtain⟨a',x',h1,h2,h3,h4⟩:=ih (i:=i) h.2 (by simpa using hv);exact⟨a',x',h1,by simpa using h2,by simpa using h3,h4⟩
def Ls.snoc {a:Addr}{x:α}(h:Ls R as xs)(k:R a x):Ls R (as++[a]) (xs++[x]):=by
 induction as generalizing xs with
 |nil=>
  cases xs with
  |nil=>exact⟨k,trivial⟩
  |cons _ _=>exact 6#T
 |cons _ _ ih=>
  cases xs with
  |nil=>exact 6#T
  |cons _ _=>exact⟨h.1,ih h.2⟩
end
def LAt {α:Type}(R:Hp->Addr->α->Prop)(H:Hp)(l:Addr)(xs:List α):Prop:=∃as:1#B,H l=some 14#(2#s)/\Ls (R H) as xs
def MoR {α:Type}(R:Hp->Addr->α->Prop):Prop:=∀G G' a x,Same G G'->R G a x->R G' a x
def LAt.same {α:Type}{R:Hp->Addr->α->Prop}(m:MoR R){H H':Hp}{l:Addr}{xs:List α}(s:0#T)(h:LAt R H l xs):LAt R H' l xs:=
 let ⟨as,e,k⟩:=h;⟨as,8#L e,k.mono λa x=>m _ _ a x s⟩
def sV {α:Type}{R:Hp->Addr->α->Prop}(m:MoR R):MoR (LAt R):=λ_ _ _ _ s h=>h.same m s
def PL (c:Cp)(H:Hp)(l:Addr)(ps:7#E):Prop:=∃as:1#B,H l=some 14#(2#s)/\PCs c H as ps
def gx {c:Cp}:MoR (PL c):=λ_ _ _ _ s ⟨as,e,k⟩=>⟨as,8#L e,k.same s⟩
structure EnF (β:Type) where
 sign:Bool
 parts:7#E
 within:List β
def En:Nat->Type
 |0=>Empty
 |n+1=>EnF (En n)
def nB (b:Bool):List Nat:=if b then [43] else [45]
def dE:(n:Nat)->En n->PyData
 |0,e=>7#t
 |n+1,e => .tuple [.str (S (nB (EnF.sign e))), .list ((EnF.parts e).map dP), .list ((EnF.within e).map (dE n))]
structure Cb where
 cp:Cp
 Heading:Addr
 Para:Addr
 Literal:Addr
 Quote:Addr
 Naming:Addr
 Noting:Addr
 Entry:Addr
 Listing:Addr
 Table:Addr
inductive BkF (β:Type) where
 |heading (n:Nat) (ps:List PC)
 |para (ps:List PC)
 |lst (es:List (En 6))
 |table (hd:List (List PC)) (sd:List Bool) (ls:List (List (List PC)))
 |lit (ls:List (List Nat))
 |quote (bs:List β)
 |name (n t:List Nat)
 |note (n:List Nat) (ps:List PC)
def Bl:Nat->Type
 |0=>BkF Empty
 |n+1=>BkF (Bl n)
def bZ (b:Bool):List Nat:=if b then [114,105,103,104,116] else [108,101,102,116]
def cg (cs:List 16#PC):PyData := .list (cs.map λps => .list 166#dP)
def dBF {β:Type}(f:β->PyData):BkF β->PyData
 | .heading n ps => .tuple [.str "heading", .int n, .list 166#dP]
 | .para ps => .tuple [.str "para", .list 166#dP]
 | .lst es => .tuple [.str "list", .list (es.map (dE 6))]
 | .table hd sd ls => .tuple [.str "table",cg hd, .list (sd.map λb => .str (S (bZ b))), .list (ls.map cg)]
 | .lit ls => .tuple [.str "literal", .list (ls.map λl => .str (S l))]
 | .quote bs => .tuple [.str "quote", .list (bs.map f)]
 | .name n t => .tuple [.str "name", .str (S n), .str (S t)]
 | .note n ps => .tuple [.str "note", .str (S n), .list 166#dP]
def dB:(n:Nat)->Bl n->PyData
 |0,b=>dBF (λz:Empty=>0#k) b
 |n+1,b=>dBF (dB n) b
def EAt (c:Cb):(n:Nat)->Hp->Addr->En n->Prop
 |0,_,_,e=>7#t
 |n+1,H,a,e=>∃dx lp le,H a=some (.ins c.Entry dx [("sign",vS (nB (EnF.sign e))),132#lp,("entries", .ref le)])/\PL c.cp H lp (EnF.parts e)/\LAt (EAt c n) H le (EnF.within e)
theorem fM {c:Cb}:∀n:Nat,MoR (EAt c n)
 |0=>λ_ _ _ e=>7#t
 |n+1=>λ_ _ _ _ s ⟨dx,lp,le,e,h1,h2⟩=>⟨dx,lp,le,8#L e,gx _ _ _ _ s h1,h2.same (fM n) s⟩
def BAtF {β:Type}(c:Cb)(R:Hp->Addr->β->Prop)(H:Hp)(a:Addr):BkF β->Prop
 | .heading n ps=>∃dx l,H a=some (.ins c.Heading dx [("level", .int n),132#l])/\PL c.cp H l ps
 | .para ps=>∃dx l,H a=some (.ins c.Para dx [132#l])/\PL c.cp H l ps
 | .lst es=>∃dx l,H a=some (.ins c.Listing dx [("entries", .ref l)])/\LAt (EAt c 6) H l es
 | .table hd sd ls=>∃dx lh lsd ll,H a=some (.ins c.Table dx [("head", .ref lh),("sides", .ref lsd),("lines", .ref ll)])/\LAt (PL c.cp) H lh hd/\H lsd=some 14#(sd.map λb=>vS (bZ b))/\LAt (LAt (PL c.cp)) H ll ls
 | .lit ls=>∃dx l,H a=some (.ins c.Literal dx [("lines", .ref l)])/\H l=some 14#(ls.map vS)
 | .quote bs=>∃dx l,H a=some (.ins c.Quote dx [("blocks", .ref l)])/\LAt R H l bs
 | .name n t=>∃dx,H a=some (.ins c.Naming dx [("name",vS n),("target",vS t)])
 | .note n ps=>∃dx l,H a=some (.ins c.Noting dx [("name",vS n),132#l])/\PL c.cp H l ps
def fc {β:Type}{c:Cb}{R:Hp->Addr->β->Prop}(m:MoR R):MoR (BAtF c R):=λG G' a b s h=>by
 cases b with
 |heading n ps=>obtain⟨dx,l,e,k⟩:=h;exact 0#ae
 |para ps=>obtain⟨dx,l,e,k⟩:=h;exact 0#ae
 |lst es=>obtain⟨dx,l,e,k⟩:=h;exact⟨dx,l,8#L e,k.same (fM 6) s⟩
 |table hd sd ls=>obtain⟨dx,l1,l2,l3,e,k1,k2,k3⟩:=h;exact⟨dx,l1,l2,l3,8#L e,k1.same gx s,8#L k2,k3.same (sV gx) s⟩
 |lit ls=>obtain⟨dx,l,e,k⟩:=h;exact⟨dx,l,8#L e,8#L k⟩
 |quote bs=>obtain⟨dx,l,e,k⟩:=h;exact⟨dx,l,8#L e,k.same m s⟩
 |name n t=>obtain⟨dx,e⟩:=h;exact⟨dx,8#L e⟩
 |note n ps=>obtain⟨dx,l,e,k⟩:=h;exact 0#ae
def BAt (c:Cb):(n:Nat)->Hp->Addr->Bl n->Prop
 |0,H,a,b=>BAtF c (λ_ _ (z:Empty)=>0#k) H a b
 |n+1,H,a,b=>BAtF c 156#n H a b
theorem dJ {c:Cb}:∀n:Nat,MoR 156#n
 |0=>fc λ_ _ _ z=>0#k
 |n+1=>fc (dJ n)
structure OkPs (ps:7#E):Prop where
 len:2#x<=90000
 ok:∀p∈ps,OkC p
 r2:∀p∈ps,R2 p
def OkCs (cs:List 16#PC):Prop:=cs.length<=90000/\∀ps∈cs,OkPs ps
def OkE:(n:Nat)->En n->Prop
 |0,e=>7#t
 |n+1,e=>OkPs (EnF.parts e)/\(EnF.within e).length<=90000/\∀x∈EnF.within e,OkE n x
def OkBF {β:Type}(ok:β->Prop):BkF β->Prop
 | .heading n ps=>n<=3/\OkPs ps
 | .para ps=>OkPs ps
 | .lst es=>es.length<=90000/\∀e∈es,OkE 6 e
 | .table hd sd ls=>OkCs hd/\sd.length<=90000/\5#H<=90000/\∀l∈ls,OkCs l
 | .lit ls=>5#H<=90000/\∀l∈ls,Asc l/\0#L<=90000
 | .quote bs=>bs.length<=90000/\∀b∈bs,ok b
 | .name n t=>(Asc n/\n.length<=90000)/\Asc t/\1#n<=90000
 | .note n ps=>(Asc n/\n.length<=90000)/\OkPs ps
def OkB:(n:Nat)->Bl n->Prop
 |0,b=>OkBF (λz:Empty=>0#k) b
 |n+1,b=>OkBF (OkB n) b
theorem qC {α:Type}{R:Addr->α->Prop}:∀{as:List Addr} {xs:List α},5#k=0#E->(∀(i:Nat) a x,as[i]? = some a->xs[i]? = some x->R a x)->Ls R as xs
 | [],[],_,_=>trivial
 |a::as,x::xs,hl,h=>⟨h 0 a x rfl rfl,qC (by simpa using hl) λi b y hb hy=>h (i+1) b y (by simpa using hb) (by simpa using hy)⟩
def iA {K:Frag}{a:Addr}{xs:0#t}{k:Nat}{fr:0#a}{g:TG}{tt:TT}{te:TE}{σ:St}{H0:Hp}{Q:Addr->Hp->Prop}(R:Nat->Addr->Hp->Prop)(hR:∀i b G G',Same G G'->R i b G->R i b G')(hx:0#eW)(hl:0#E<=1000000)
  (ht:∀(i:Nat) x,xs[i]? = some x->∀H',3#q->∀(C:V->Hp->Prop)(N:Hp->Prop),(∀b H4,7#x->H' b=none->R i b (dif H' H4)->C 11#b H4) →
   g x 81#k H' λσ2 H2=>3#h/\tt σ2 H2 λb H3=>if b=true then te σ2 H3 C else N H3)
  (hq:∀D H' (bs:List Addr),H0 D=none->3#q->H' D=some 14#(bs.map V.ref)->bs.length=0#E->(∀(i:Nat) b,bs[i]? = some b->R i b (dif H0 H'))->Q D H'):3#e (Itl K a) H0 Q:=by
 intro D hD;refine⟨λi m a2 H=>m=0#E - i/\i<=0#E/\Same H0 H/\H D=some 14#a2/\∃bs:1#B,a2=bs.map V.ref/\bs.length=i/\NewQ H0 [D] H λG=>∀(j:Nat) b,bs[j]? = some b->R j b G,⟨0#E,by simp,4#r,ad hD _,ac,[],rfl,rfl,0#bK λj b h=>by simp at h⟩,?_⟩;rintro i m a2 H ⟨rfl,hi,sm,a1,bs,rfl,a3,hn⟩;refine 147#a1;show 119
 ·show 43;refine ht i x (y xs (9#R)) _ sm _ _ λb H4 s4 hb rb=>?_;refine⟨4#k a1,by rw[l4,0#Z];omega,0#E - (i+1),by omega,rfl,hlt,aj hD 9#t,ac,bs++[b],by rw[l14];rfl,by rw[l6,a3];rfl,?_⟩;show 50;refine 8#b (0#cQ) (NewQ.of (H3:=H) (R:=R i b) sm (λb' a4=>by rw[2#R a4,a1];exact λz=>0#k) rb) (λG G' s h j b' hj=>hR _ _ _ _ s (h j b' hj)) (λG G' s h=>hR _ _ _ _ s h) λG h1 h2 j b' hj=>?_;by_cases hji:j < bs.length
  ·rw[3#l hji] at hj;exact h1 j b' hj
  ·rw[2#l nofun] at hj;obtain⟨a6,_⟩:=0#C hj;have a5:j=i:=by simp at a6;omega
   subst a5;rw[a3,l53] at hj;cases hj;exact h2
 ·have e:i=xs.length:=by omega
  subst e;exact .inl ⟨0#en,hq D H bs hD sm a1 a3 (hn.dif λG G' s h j b' hj=>hR _ _ _ _ s (h j b' hj))⟩
end Lw
namespace K13
open PySem L2 Lm Lw
structure TxB (K:Frag)(mg:Str->0#B)(c:Cb)(BT:Addr):Prop extends TxI K mg c.cp BT where
 z13:∃t,mg "FENCE"=some 134#(S 3#m)
 z12:mg "enumerate"=none
 u21:Inst K c.Heading
 g32:Inst K c.Para
 z32:Inst K c.Literal
 q32:Inst K c.Quote
 g21:Inst K c.Naming
 z21:Inst K c.Noting
 g15:Inst K c.Entry
 u33:Inst K c.Listing
 z15:Inst K c.Table
 g33:4#s c.Heading "level"
 z33:4#s c.Heading "parts"
 q33:4#s c.Para "parts"
 u34:4#s c.Literal "lines"
 g34:4#s c.Quote "blocks"
 z34:4#s c.Naming "name"
 q34:4#s c.Naming "target"
 u35:4#s c.Noting "name"
 g35:4#s c.Noting "parts"
 z35:4#s c.Entry "sign"
 q35:4#s c.Entry "parts"
 u36:4#s c.Entry "entries"
 z36:4#s c.Listing "entries"
 q36:4#s c.Table "head"
 u37:4#s c.Table "sides"
 g37:4#s c.Table "lines"
section
variable {c:Cb}{BT:Addr}
inductive spInitL (C:Addr)(fl:Str)(vs:0#t)(H:Hp)(Q:VK)(u3:XK):Prop
 |mk (x dx l xs)(_:vs=[.ref x, .ref l])(_:H x=some (.ins C dx []))(_:H l=some (.lst xs))(_:∀p H',H p=none->KeepX x H H'->H' p=some (.lst xs)->H' x=some (.ins C dx [(fl, .ref p)])->Q .non H')
inductive spInitVL (C:Addr)(f1 f2:Str)(vs:0#t)(H:Hp)(Q:VK)(u3:XK):Prop
 |mk (x dx v l xs)(_:vs=[.ref x,v, .ref l])(_:H x=some (.ins C dx []))(_:H l=some (.lst xs))(_:∀p H',H p=none->KeepX x H H'->H' p=some (.lst xs)->H' x=some (.ins C dx [(f1,v),(f2, .ref p)])->Q .non H')
inductive spInitE (C:Addr)(vs:0#t)(H:Hp)(Q:VK)(u3:XK):Prop
 |mk (x dx v l xs m ys)(_:vs=[.ref x,v, .ref l, .ref m])(_:H x=some (.ins C dx []))(_:H l=some (.lst xs))(_:H m=some (.lst ys))(_:∀p r H',H p=none->H r=none->KeepX x H H'->H' p=some (.lst xs)->H' r=some (.lst ys)->H' x=some (.ins C dx [("sign",v),("parts", .ref p),("entries", .ref r)])->Q .non H')
def b5 {x p:Addr}{H:Hp}{o:HO}(h:H p=none):KeepX x H 148#p:=λb o' _ e=>(ai (nq h e)).trans e
def keep_upd {x:Addr}{H:Hp}{o:HO}:KeepX x H 148#x:=λb o' nb e=>(ai nb).trans e
def iB {x b:Addr}{H H':Hp}(k:KeepX x H H')(hb:b≠x)(h:H' b=none):H b=none:=by
 cases e:H b with
 |none=>rfl
 |some o=>rw[k b o hb e] at h;cases h
abbrev dL:Stmt:=meth 46 0
abbrev iC:Stmt:=meth 47 0
abbrev dM:Stmt:=meth 48 0
abbrev gf:Stmt:=meth 49 0
abbrev fg:Stmt:=meth 50 0
abbrev fh:Stmt:=meth 51 0
abbrev gg:Stmt:=meth 71 0
abbrev dN:Stmt:=meth 72 0
abbrev gh:Stmt:=meth 77 0
def nC (F:2#k "__init__" "Para.__init__" iC f fd)(T:2#N):2#Q p19 0#cy:=by
 have sc:1#b p19 p19 55#iC:=mkS;show 0;show 7;refine⟨_,rfl,l,_,rfl, .inl 74#el,λp hp=>⟨_,rfl,x,_,dx,_,rfl,7#f e,T.g32.cls,T.q33,by decide,?_⟩⟩;show 17
def iU (F:2#k "__init__" "Literal.__init__" dM f fd)(T:2#N):2#Q p22 0#be:=by
 have sc:1#b p22 p22 55#dM:=mkS;show 0;show 7;refine⟨_,rfl,l,_,rfl, .inl 74#el,λp hp=>⟨_,rfl,x,_,dx,_,rfl,7#f e,T.z32.cls,T.u34,by decide,?_⟩⟩;show 17
def ma (F:2#k "__init__" "Quote.__init__" gf f fd)(T:2#N):2#Q p20 129#c.Quote:=by
 have sc:1#b p20 p20 55#gf:=mkS;show 0;show 7;refine⟨_,rfl,l,_,rfl, .inl 74#el,λp hp=>⟨_,rfl,x,_,dx,_,rfl,7#f e,T.q32.cls,T.g34,by decide,?_⟩⟩;show 17
def iV (F:2#k "__init__" "Listing.__init__" dN f fd)(T:2#N):2#Q p25 0#aB:=by
 have sc:1#b p25 p25 55#dN:=mkS;show 0;show 7;refine⟨_,rfl,l,_,rfl, .inl 74#el,λp hp=>⟨_,rfl,x,_,dx,_,rfl,7#f e,T.u33.cls,T.z36,by decide,?_⟩⟩;show 17
def iW (F:2#k "__init__" "Heading.__init__" dL f fd)(T:2#N):2#Q p26 8#H:=by
 have sc:1#b p26 p26 55#dL:=mkS;show 0;obtain⟨x,dx,v,l,xs,rfl,e,el,q⟩:=h;refine az (xbc 0#aO
  103#36#2) ?_
 ac_nf;have a2:l≠x:=(nq e el);refine⟨_,rfl,_,rfl,x,_,dx,_,rfl,e,T.u21.cls,T.g33,by decide,?_⟩;refine⟨_,rfl,l,_,rfl, .inl 74#((ai a2).trans el),λp hp=>⟨_,rfl,x,_,dx,_,rfl,7#f ac,T.u21.cls,T.z33,by show 1 < 1000;decide,?_⟩⟩;show 81
def kh (F:2#k "__init__" "Noting.__init__" fh f fd)(T:2#N):2#Q p27 9#f:=by
 have sc:1#b p27 p27 55#fh:=mkS;show 0;obtain⟨x,dx,v,l,xs,rfl,e,el,q⟩:=h;refine az (xbc 0#aO
  103#36#2) ?_
 ac_nf;have a2:l≠x:=(nq e el);refine⟨_,rfl,_,rfl,x,_,dx,_,rfl,e,T.z21.cls,T.u35,by decide,?_⟩;refine⟨_,rfl,l,_,rfl, .inl 74#((ai a2).trans el),λp hp=>⟨_,rfl,x,_,dx,_,rfl,7#f ac,T.z21.cls,T.g35,by show 1 < 1000;decide,?_⟩⟩;show 81
def ki (F:2#k "__init__" "Naming.__init__" fg f fd)(T:2#N):2#Q p28 9#e:=by
 have sc:1#b p28 p28 55#fg:=mkS;show 0;obtain⟨x,dx,v,u,rfl,e,q⟩:=h;refine az (xbc 0#aO
  103#(bi (2#U) (5#M))) ?_
 ac_nf;refine⟨_,rfl,_,rfl,x,_,dx,_,rfl,e,T.g21.cls,T.z34,by decide,?_⟩;exact⟨_,rfl,_,rfl,x,_,dx,_,rfl,ac,T.g21.cls,T.q34,by show 1 < 1000;decide,q⟩
def md (F:2#k "__init__" "Entry.__init__" gg f fd)(T:2#N):2#Q p29 (spInitE c.Entry):=by
 have sc:1#b p29 p29 55#gg:=mkS;show 0;obtain⟨x,dx,v,l,xs,m,ys,rfl,e,el,em,q⟩:=h;refine az (xbc 0#aO
  (xbc 36#2
  103#36#3)) ?_
 ac_nf;have a7:l≠x:=(nq e el);have a4:m≠x:=(nq e em);refine⟨_,rfl,_,rfl,x,_,dx,_,rfl,e,T.g15.cls,T.z35,by decide,?_⟩;refine⟨_,rfl,l,_,rfl, .inl 74#((ai a7).trans el),λp hp=>⟨_,rfl,x,_,dx,_,rfl,7#f ac,T.g15.cls,T.q35,by show 1 < 1000;decide,?_⟩⟩;have a2:p≠x:=(nq ac hp);have a3:H p=none:=by rwa [ai a2] at hp
 have a6:m≠p:=(nq a3 em);refine⟨_,rfl,m,_,rfl, .inl 74#((ai a4).trans ((ai a6).trans ((ai a4).trans em))),λr a1=>⟨_,rfl,x,_,dx,_,rfl,ad a1 _ _ _ ac,T.g15.cls,T.u36,by show 2 < 1000;decide,?_⟩⟩;have a5:r≠x:=λz=>by rw[z,ac] at a1;cases a1
 have a8:p≠r:=λz=>by rw[<- z,ai a2,ac] at a1;cases a1
 have k2:=(keep_upd.trans (b5 (x:=x) (o := .lst xs) hp)).trans (keep_upd (x:=x) (o := .ins c.Entry dx (putF "parts" 11#p (putF "sign" v []))));exact q p r _ a3 (iB k2 a5 a1) ((k2.trans (b5 a1)).trans keep_upd) ((ai a2).trans ((ai a8).trans 105#a2)) 105#a5 ac
def LV (H:Hp)(l:Addr)(xss:List 16#V):Prop:=LAt (λH a (xs:List V)=>H a=9#l) H l xss
def nE:MoR LV:=sV λ_ _ _ _ s h=>8#L h
abbrev sOwn:Stmt:=top 78
inductive spOwn (vs:0#t)(H:Hp)(Q:VK)(u3:XK):Prop
 |mk (l:Addr)(xss:List (List V))(_:vs=[.ref l])(_:LV H l xss)(_:xss.length<=100000)(_:∀r H',Same H H'->H r=none->LV (dif H H') r xss->Q (.ref r) H')
def Ba (F:2#k "own_cells" "own_cells" sOwn f fd)(T:2#N):2#Q 0#eC spOwn:=by
 have sc:1#b 0#eC 0#eC 55#sOwn:=mkS;show 14;obtain⟨l,a5,rfl,⟨as,el,a1⟩,hl,q⟩:=h;refine az (xb1 (xret (xlc0 (own:=["cell"])
  122#xil
  22#(show (["cell"]:0#O).Nodup by decide) 1#k (λ_ _ _ _=>(xcTy jP T.g10 rfl 10#(2#U)))))) ?_
 ac_nf;have w6:=a1.len;refine 50#el;refine iA (λi a' G=>G a'=some 14#(a5.getD i [])) (λ_ _ _ _ s h=>8#L h) 74#el 1#A ?_ ?_
 ·show 38;obtain⟨a,xs,rfl,a2,_,e⟩:=a1.get hx;refine 51#⟨_,rfl,a,xs,rfl, .inl 74#(s2 _ _ e),λp hp=>hC p _ 46#hp hp ?_⟩;rw[l24,a2,aD hp];exact ac
 ·intro D H2 bs hD s2 eD a4 a3;refine q D H2 s2 hD ⟨bs,by rw[aD hD];exact eD,?_⟩;refine qC (by rw[a4,l4,w6]) λi b x hb hx=>?_;have:=a3 i b hb;rwa [l24,hx] at this
inductive spInitT (C:Addr)(vs:0#t)(H:Hp)(Q:VK)(u3:XK):Prop
 |mk (x dx h sd ln hss sv lss)(_:vs=[.ref x, .ref h, .ref sd, .ref ln])(_:H x=some (.ins C dx []))(_:LV H h hss)(_:hss.length<=100000)(_:H sd=some (.lst sv))(_:LAt LV H ln lss)(_:lss.length<=100000)(_:∀l∈lss,l.length<=100000)(_:∀h' s' l' H',KeepX x H H'->LV (dif H H') h' hss->dif H H' s'=some (.lst sv)->LAt LV (dif H H') l' lss->H' x=some (.ins C dx [("head", .ref h'),("sides", .ref s'),("lines", .ref l')])->Q .non H')
def offX (H:Hp)(x:Addr):Hp:=λb=>if b=x then none else H b
def sW {H H':Hp}{x:Addr}(k:KeepX x H H'):Same (offX H x) H':=λb o e=>by
 unfold offX at e;split at e
 ·cases e
 ·rename_i hb;exact k b o hb e
def oY {H:Hp}{x a:Addr}{xs:0#t}{C dx:Addr}{fs:0#er}(hx:H x=0#fl)(e:H a=9#l):offX H x a=some 14#xs:=by
 unfold offX;rw[0#z (nq hx e)];exact e
def LV.off {H:Hp}{x l:Addr}{xss:List 16#V}{C dx:Addr}{fs:0#er}(hx:H x=0#fl)(h:LV H l xss):LV (offX H x) l xss:=let ⟨as,e,k⟩:=h;⟨as,oY hx e,k.mono λ_ _ z=>oY hx z⟩
def wY {H H1 H2 H3:Hp}{x:Addr}(hx:H x≠none)(h1:∀b,b≠x->H1 b=none->H b=none)(hx1:H1 x≠none)(k:KeepX x H2 H3):Same (dif H1 H2) 86#H3:=λb o e=>by
 obtain⟨n,e⟩:=fI e;have hb:b≠x:=λz=>hx1 (z▸n);rw[aD (h1 b hb n)];exact k b o hb e
def me (F:2#k "__init__" "Table.__init__" gh f fd)(T:2#N)(DO:0#c 1 "own_cells" 0#eC spOwn):0#b 2 f fd p30 (spInitT c.Table):=by
 have sc:1#b p30 p30 55#gh:=mkS;show 1;obtain⟨x,dx,h,sd,ln,hss,sv,a5,rfl,e,eh,lh,es,⟨as,el,a4⟩,ll,c0,q⟩:=h;refine az (xbc (bi (2#U) (xcd DO hr 10#(2#E)))
  (xbc 36#2
  (xb1 (bi (2#U) (xlc0 (own:=["line"])
  (xil (6#k))
  22#(show (["line"]:0#O).Nodup by decide) 1#k 101#DO))))) ?_
 ac_nf;refine⟨_,rfl,h,hss,rfl,eh,lh,λr1 H1 s1 hr1 d1=>⟨_,rfl,x,_,dx,_,rfl,s1 _ _ e,T.z15.cls,T.q36,by decide,?_⟩⟩;have a9:sd≠x:=(nq e es);have a7:ln≠x:=(nq e el);refine⟨_,rfl,sd,_,rfl, .inl 74#((ai a9).trans (s1 _ _ es)),λp hp=>⟨_,rfl,x,_,dx,_,rfl,7#f ac,T.z15.cls,T.u37,by show 1 < 1000;decide,?_⟩⟩;have a1:p≠x:=(nq ac hp);have c4:H1 p=none:=by rwa [ai a1] at hp
 have k1:KeepX x H H1:=λb o _ h=>s1 _ _ h;have k4:KeepX x H1 (upd 3#Y x 4#p):=(keep_upd.trans (b5 hp)).trans keep_upd;have a6:upd 3#Y x 4#p p=some 14#sv:=(ai a1).trans ac;have a3:upd 3#Y x 4#p x=some (.ins c.Table dx 0#fL):=ac;refine⟨_,rfl,ln,rfl,85#(k4 _ _ a7 110#s1),?_⟩;generalize upd (upd (upd H1 x (.ins c.Table dx (putF "head" (.ref r1) []))) p (.lst sv)) x (.ins c.Table dx (putF "sides" (.ref p) (putF "head" (.ref r1) [])))=H4 at k4 a6 a3 ⊢;have kk:=k1.trans k4;refine iA (λi b G=>LV G b (a5.getD i [])) (λi b G G' s h=>nE _ _ _ _ s h) 74#(kk _ _ a7 el) (by rw[l4,a4.len];omega) ?_ ?_
 ·intro i v hv H5 s5 C N hC;obtain⟨a,xs,rfl,a8,_,hl⟩:=a4.get hv;have hm:=l22 a8;refine⟨(1#l).set ∅ _,iteT (B:=N H5) ⟨_,rfl,a,xs,rfl,nE _ _ _ _ ((sW kk).trans s5) (hl.off e),c0 _ hm,λb H6 s6 hb d6=>hC b H6 s6 hb ?_⟩⟩;rw[l24,a8];exact d6
 ·intro D H5 bs hD s5 eD c1 c2;refine⟨_,rfl,x,_,dx,_,rfl,4#D a3,T.z15.cls,T.g37,by show 2 < 1000;decide,?_⟩;have c3:KeepX x H4 H5:=λb o _ h=>4#D h;have a2:=c3.trans (keep_upd (o := .ins c.Table dx (putF "lines" 11#D 0#fL)));have nn:H x≠none:=nz e;have n4:H4 x≠none:=nz a3;have n1:H1 x≠none:=by rw[s1 _ _ e];exact λz=>0#k
  have nD : LAt LV (dif H4 H5) D a5 := ⟨bs,by rw[aD hD];exact eD,qC (by rw[c1,l4,a4.len]) λi b y hb hy=>by
   have:=c2 i b hb;rwa [l24,hy] at this⟩
  refine q r1 p D _ (kk.trans a2) (nE _ _ _ _ (wY nn (λb hb z=>z) nn (k4.trans a2)) d1) ?_ (nD.same nE (wY nn (λb hb z=>iB kk hb z) n4 keep_upd)) ac;rw[aD (iB k1 a1 c4)];exact a2 _ _ a1 a6
end
def bG {α β:Type}(xs:List α)(g:α->β)(d:β):(1#Q 0#E).map (λi=>((xs[i]?).map g).getD d)=xs.map g:=by
 apply l84;intro i;rw[0#x,0#x];by_cases hi:i < 0#E
 ·rw[9#g hi,0#l hi];simp only[l94,List.getElem?_eq_getElem hi,Option.getD_some]
 ·rw[3#b (by rw[l42];omega),3#b nofun];rfl
def dn_k {G:Hp}{k:Str}(h:0#cY=true:=by decide):Dn G 82#k 82#k:=by
 rw[0#r] at h;exact .str k h.1 (0#s h.2)
def dn_S {G:Hp}{l:0#a}(h:Asc l/\0#L<=90000):Dn G (vS l) 82#(S l):=(jm h.1 nofun).dn
theorem qD {G:Hp}:∀{ls:List (List Nat)},(∀l∈ls,Asc l/\0#L<=90000)->DnAll G (ls.map vS) (ls.map λl=>PyData.str (S l))
 | [],_ => .nil
 |l::ls,h => .cons (dn_S (h l l7)) (qD λx hx=>0#bO)
def bu {H0 H:Hp}{t:Addr}{xs:0#t}{ds:2#w}(s:9#K)(ht:H t=none)(d:DnAll (dif H0 H) xs ds):Same H0 (4#b t 6#V)/\Dn (dif H0 (4#b t 6#V)) 11#t (.tuple ds):=
 ⟨s.trans 46#ht, .tup (by rw[aD 135#ht,ac]) (d.same 80#46#ht)⟩
def bP {H0 H:Hp}{t:Addr}{xs:0#t}{ds:2#w}(s:9#K)(ht:H t=none)(d:DnAll (dif H0 H) xs ds)(hl:0#E<=100000):Same H0 (4#b t 14#xs)/\Dn (dif H0 (4#b t 14#xs)) 11#t 139#ds:=
 ⟨s.trans 46#ht, .lst (by rw[aD 135#ht,ac]) (d.same 80#46#ht) hl⟩
inductive spTB {β:Type}(c:Cb)(R:Hp->Addr->β->Prop)(f:β->PyData)(ok:β->Prop)(S:BkF β->Prop)(vs:0#t)(H:Hp)(Q:VK)(u3:XK):Prop
 |mk (a b)(_:vs=[.ref a])(_:BAtF c R H a b)(_:S b)(_:OkBF ok b)(_:∀v H',Same H H'->Dn (dif H H') v (dBF f b)->Q v H')
inductive spTC (c:Cb)(vs:0#t)(H:Hp)(Q:VK)(u3:XK):Prop
 |mk (l:Addr)(cs:List (List PC))(_:vs=[.ref l])(_:LAt (PL c.cp) H l cs)(_:OkCs cs)(_:∀r H',Same H H'->Dn (dif H H') (.ref r) (cg cs)->Q (.ref r) H')
inductive spTEs (c:Cb)(n:Nat)(vs:0#t)(H:Hp)(Q:VK)(u3:XK):Prop
 |mk (l:Addr)(es:List (En n))(_:vs=[.ref l])(_:LAt (EAt c n) H l es)(_:es.length<=90000)(_:∀e∈es,OkE n e)(_:∀r H',Same H H'->Dn (dif H H') (.ref r) (.list (es.map (dE n)))->Q (.ref r) H')
inductive spTE (c:Cb)(n:Nat)(vs:0#t)(H:Hp)(Q:VK)(u3:XK):Prop
 |mk (a:Addr)(e:En n)(_:vs=[.ref a])(_:EAt c n H a e)(_:OkE n e)(_:∀v H',Same H H'->Dn (dif H H') v (dE n e)->Q v H')
def MV (P:1#E)(w:World)(K:Frag)(mg:Str->0#B)(base:Heap)(k:Nat){β:Type}(m:Str)(R:Hp->Addr->β->Prop)(ok:β->Prop)(post:β->Hp->V->Hp->Prop):Prop:=
 ∀b,ok b->∀H a,R H a b->∃C dx fs sp,H a=0#fl/\fs.lookup m=none/\MethV P w K mg base k C m 1#D sp/\∀Q E,(∀v H',post b H v H'->Q v H')->sp 9#A H Q E
inductive tellsB {β:Type}(f:β->PyData)(b:β)(H:Hp)(v:V)(H':Hp):Prop
 |mk (_:Same H H')(_:Dn (dif H H') v (f b))
section
variable {c:Cb}{BT:Addr}{β:Type}{R:Hp->Addr->β->Prop}{fB:β->PyData}{ok:β->Prop}
abbrev dO:Stmt:=meth 46 1
abbrev iD:Stmt:=meth 47 1
abbrev dQ:Stmt:=meth 48 1
abbrev gi:Stmt:=meth 49 1
abbrev fj:Stmt:=meth 50 1
abbrev fk:Stmt:=meth 51 1
abbrev gj:Stmt:=meth 71 1
abbrev dR:Stmt:=meth 72 1
abbrev gk:Stmt:=meth 77 1
def iX (F:2#k "told" "Heading.told" dO f fd)(T:2#N)(Dd:0#c 4 "told_parts" 0#cO 0#ac):0#b 5 f fd 1#D (7#A λb=>∃n ps,b = .heading n ps):=by
 have sc:1#b 1#D 1#D 55#dO:=mkS;show 0;show 21;refine⟨_,rfl,a,_,dx,_,_,rfl,e,T.u21.cls,T.g33,rfl,_,rfl,a,_,dx,_,_,rfl,e,T.u21.cls,T.z33,rfl,l,as,ps,rfl,el,a3,v9.r2,by rw[a3.len];have:=v9.len;omega,λr H1 s1 d1=>⟨bg3,λt ht=>?_⟩⟩;obtain⟨a1,a2⟩:=bu s1 ht (.cons (dn_k (k:="heading")) (.cons 21#_ 34#d1));show 63
def nF (F:2#k "told" "Para.told" iD f fd)(T:2#N)(Dd:0#c 4 "told_parts" 0#cO 0#ac):0#b 5 f fd 1#D (7#A λb=>∃ps,b = .para ps):=by
 have sc:1#b 1#D 1#D 55#iD:=mkS;show 0;obtain⟨a,b,rfl,ha,⟨ps,rfl⟩,hok,q⟩:=h;obtain⟨dx,l,e,as,el,a3⟩:=ha;refine az 13#(xtup 0#ga) ?_;ac_nf;have v9:OkPs ps:=hok;refine⟨_,rfl,a,_,dx,_,_,rfl,e,T.g32.cls,T.q33,rfl,l,as,ps,rfl,el,a3,v9.r2,by rw[a3.len];have:=v9.len;omega,λr H1 s1 d1=>⟨bg2,λt ht=>?_⟩⟩;obtain⟨a1,a2⟩:=bu s1 ht (.cons (dn_k (k:="para")) 34#d1);show 63
def kj (F:2#k "told" "Noting.told" fk f fd)(T:2#N)(Dd:0#c 4 "told_parts" 0#cO 0#ac):0#b 5 f fd 1#D (7#A λb=>∃n ps,b = .note n ps):=by
 have sc:1#b 1#D 1#D 55#fk:=mkS;show 0;show 21;refine⟨_,rfl,a,_,dx,_,_,rfl,e,T.z21.cls,T.u35,rfl,_,rfl,a,_,dx,_,_,rfl,e,T.z21.cls,T.g35,rfl,l,as,ps,rfl,el,a3,v9.r2,by rw[a3.len];have:=v9.len;omega,λr H1 s1 d1=>⟨bg3,λt ht=>?_⟩⟩;obtain⟨a1,a2⟩:=bu s1 ht (.cons (dn_k (k:="note")) (.cons (dn_S hok.1) 34#d1));show 63
def kl (F:2#k "told" "Naming.told" fj f fd)(T:2#N):2#Q 1#D (7#A λb=>∃n t,b = .name n t):=by
 have sc:1#b 1#D 1#D 55#fj:=mkS;show 0;obtain⟨a,b,rfl,ha,⟨n,u,rfl⟩,hok,q⟩:=h;obtain⟨dx,e⟩:=ha;show 105;refine⟨_,rfl,a,_,dx,_,_,rfl,e,T.g21.cls,T.z34,rfl,_,rfl,a,_,dx,_,_,rfl,e,T.g21.cls,T.q34,rfl,bg3,λt ht=>?_⟩;obtain⟨a1,a2⟩:=bu 18#H ht (.cons (dn_k (k:="name")) (.cons (dn_S hok.1) 34#(dn_S hok.2)));show 63
def iY (F:2#k "told" "Literal.told" dQ f fd)(T:2#N):2#Q 1#D (7#A λb=>∃ls,b = .lit ls):=by
 have sc:1#b 1#D 1#D 55#dQ:=mkS;show 0;obtain⟨a,b,rfl,ha,⟨ls,rfl⟩,hok,q⟩:=h;obtain⟨dx,l,e,el⟩:=ha;refine az 13#(xtup (1#p 19#(xcTy aP T.g10 rfl 35#(xfld (2#U))))) ?_;ac_nf;refine⟨_,rfl,a,_,dx,_,_,rfl,e,T.z32.cls,T.u34,rfl,l,_,rfl, .inl 74#el,λp hp=>⟨bg2,λt ht=>?_⟩⟩;obtain⟨b1,b2⟩:=bP 18#H hp (qD hok.2) (by rw[l4];have:=hok.1;omega);obtain⟨a1,a2⟩:=bu b1 ht (.cons (dn_k (k:="literal")) 34#b2);show 63
def iZ {k:Nat}(F:2#k "told" "Listing.told" dR f fd)(T:2#N)(Yj:0#c k "told_entries" 0#eD (spTEs c 6)):0#b (k+1) f fd 1#D (7#A λb=>∃es,b = .lst es):=by
 have sc:1#b 1#D 1#D 55#dR:=mkS;show 0;obtain⟨a,b,rfl,ha,⟨es,rfl⟩,hok,q⟩:=h;obtain⟨dx,l,e,hl⟩:=ha;refine az 13#(xtup (1#p 19#(xcd Yj hr 35#(xfld (2#U))))) ?_;ac_nf;refine⟨_,rfl,a,_,dx,_,_,rfl,e,T.u33.cls,T.z36,rfl,l,es,rfl,hl,hok.1,hok.2,λr H1 s1 d1=>⟨bg2,λt ht=>?_⟩⟩;obtain⟨a1,a2⟩:=bu s1 ht (.cons (dn_k (k:="list")) 34#d1);show 63
abbrev nG:Stmt:=top 73
def mf {k n:Nat}(F:2#k "told_entries" "told_entries" nG f fd)(hM:5#b k "told" (EAt c n) (OkE n) (tellsB (dE n))):0#b (k+1) f fd 0#eD (spTEs c n):=by
 have sc:1#b 0#eD 0#eD 55#nG:=mkS;show 0;obtain⟨l,es,rfl,⟨as,el,a1⟩,hl,hok,q⟩:=h;refine az (xb1 (xret (xlc0 (own:=["entry"])
  122#xil
  22#(show (["entry"]:0#O).Nodup by decide) 1#k 95#(2#U)))) ?_
 ac_nf;have w6:=a1.len;refine 50#el;refine dH (λi=>((es[i]?).map (dE n)).getD .none) 74#el 1#A ?_ ?_
 ·show 38;obtain⟨a,e,rfl,a2,_,ha⟩:=a1.get hx;obtain⟨Cc,dx,fs,sp,e1,e2,V,a3⟩:=hM e (hok e 125#a2) H2 a (fM n _ _ _ _ s2 ha);show 44
 ·show 47;exact q D H2 s2 dD
def mh {k n:Nat}(F:2#k "told" "Entry.told" gj f fd)(T:2#N)(Dd:0#c 4 "told_parts" 0#cO 0#ac)(Yj:0#c k "told_entries" 0#eD (spTEs c n)):0#b (k+5) f fd 1#D (spTE c (n+1)):=by
 have sc:1#b 1#D 1#D 55#gj:=mkS;show 0;obtain⟨a,en,rfl,⟨dx,lp,le,e,⟨as,el,a3⟩,a5⟩,⟨v9,hl,hw⟩,q⟩:=h;refine az 13#(xtup (xac 122#xfld (xac (xcd Dd hr 19#(xfld (2#U))) 19#(xcd Yj hr 35#(xfld (2#U)))))) ?_;ac_nf;refine⟨_,rfl,a,_,dx,_,_,rfl,e,T.g15.cls,T.z35,rfl,_,rfl,a,_,dx,_,_,rfl,e,T.g15.cls,T.q35,rfl,lp,as,_,rfl,el,a3,v9.r2,by rw[a3.len];have:=v9.len;omega,λr H1 s1 d1=>?_⟩;refine⟨_,rfl,a,_,dx,_,_,rfl,s1 _ _ e,T.g15.cls,T.u36,rfl,le,_,rfl,a5.same (fM n) s1,hl,hw,λr2 H2 s2 d2=>⟨bg3,λt ht=>?_⟩⟩;have a4:∀b:Bool,Asc (nB b)/\(nB b).length<=90000:=λb=>by cases b <;> exact⟨wX _ rfl,by decide⟩
 obtain⟨a1,a2⟩:=bu (2#c) ht (.cons (dn_S (a4 _)) (.cons (d1.same 80#s2) 34#(d2.same (aq s1 18#_))));show 63
abbrev sX:Stmt:=top 79
def vO (F:2#k "told_cells" "told_cells" sX f fd)(Dd:0#c 4 "told_parts" 0#cO 0#ac):0#b 5 f fd 0#eC (spTC c):=by
 have sc:1#b 0#eC 0#eC 55#sX:=mkS;show 0;obtain⟨l,cs,rfl,⟨as,el,a1⟩,hok,q⟩:=h;refine az (xb1 (xret (xlc0 (own:=["cell"])
  122#xil
  22#(show (["cell"]:0#O).Nodup by decide) 1#k 101#Dd))) ?_
 ac_nf;have w6:=a1.len;have hl:=hok.1;refine 50#el;refine dH (λi=>((cs[i]?).map λps=>0#fE 166#dP).getD .none) 74#el 1#A ?_ ?_
 ·show 38;obtain⟨a,ps,rfl,a3,_,a4,e2,a2⟩:=a1.get hx;have v9:=hok.2 ps 125#a3;refine 51#⟨_,rfl,a,a4,ps,rfl,s2 _ _ e2,a2.same s2,v9.r2,by rw[a2.len];have:=v9.len;omega,λr H4 s4 d4=>hC _ H4 s4 ?_⟩;rw[a3];exact d4
 ·show 47;exact q D H2 s2 dD
def mj {k:Nat}(F:2#k "told" "Quote.told" gi f fd)(T:2#N)(hM:5#b k "told" R ok (tellsB fB))(mR:MoR R):0#b (k+1) f fd 1#D (7#A λb=>∃bs,b = .quote bs):=by
 have sc:1#b 1#D 1#D 55#gi:=mkS;show 0;obtain⟨a,b,rfl,ha,⟨bs,rfl⟩,hok,q⟩:=h;obtain⟨dx,l,e,as,el,a3⟩:=ha;refine az (xb1 (xret (xtup (1#p (xac (xlc0 (own:=["block"])
  (xil 122#xfld)
  22#(show (["block"]:0#O).Nodup by decide) 1#k 95#(2#U)) xa0))))) ?_
 ac_nf;have w6:=a3.len;have hl:=hok.1;refine⟨_,rfl,a,_,dx,_,_,rfl,e,T.q32.cls,T.g34,rfl,l,rfl,85#el,?_⟩;refine dH 0#gw 74#el 1#A ?_ ?_
 ·show 38;obtain⟨a,b,rfl,a4,_,ha⟩:=a3.get hx;obtain⟨Cc,dx,fs,sp,e1,e2,V,a5⟩:=hM b (hok.2 b 125#a4) H2 a (mR _ _ _ _ s2 ha);refine 51#⟨_,rfl,a,Cc,dx,fs,_,sp,rfl,e1,e2,V,a5 _ _ λv H4 ⟨s4,d4⟩=>hC v H4 s4 ?_⟩;rw[a4];exact d4
 ·show 47;refine⟨bg2,λt ht=>?_⟩;obtain⟨a1,a2⟩:=bu s2 ht (.cons (dn_k (k:="quote")) 34#dD);show 63
def ml (F:2#k "told" "Table.told" gk f fd)(T:2#N)(DP:0#c 5 "told_cells" 0#eC (spTC c)):0#b 6 f fd 1#D (7#A λb=>∃hd sd ls,b = .table hd sd ls):=by
 have sc:1#b p22 1#D 55#gk:=mkS;show 0;obtain⟨a,b,rfl,ha,⟨hd,sd,ls,rfl⟩,hok,q⟩:=h;obtain⟨dx,lh,a7,ll,e,hh,es,as,el,a4⟩:=ha;refine az (xbc (ve (i:=1) (own:=["line"]) sc.nd
  (xil 122#xfld)
  22#(show (["line"]:0#O).Nodup by decide) 1#k 101#DP)
  13#(xtup 142#(xac (xcd DP hr 19#(xfld (2#U))) 167#(xcTy aP T.g10 rfl 19#(xfld (2#U)))))) ?_
 ac_nf;rw[xW];have w6:=a4.len;obtain⟨a8,ok2,ok3,a5⟩:=hok;refine⟨_,rfl,a,_,dx,_,_,rfl,e,T.z15.cls,T.g37,rfl,ll,rfl,85#el,?_⟩;refine dH (λi=>((ls[i]?).map cg).getD .none) 74#el 1#A ?_ ?_
 ·show 38;obtain⟨a,l,rfl,a3,_,ha⟩:=a4.get hx;refine 51#⟨_,rfl,a,l,rfl,sV gx _ _ _ _ s2 ha,a5 l 125#a3,λr H4 s4 d4=>hC _ H4 s4 ?_⟩;rw[a3];exact d4
 ·intro D H1 hD s1 d1;rw[l4,w6,bG] at d1
  symm
  have a6:∀b:Bool,Asc (bZ b)/\(bZ b).length<=90000:=λb=>by cases b <;> exact⟨wX _ rfl,by decide⟩
  refine⟨_,rfl,a,_,dx,_,_,rfl,s1 _ _ e,T.z15.cls,T.q36,rfl,lh,hd,rfl,hh.same gx s1,a8,λr2 H2 s2 d2=>?_⟩;refine⟨_,rfl,a,_,dx,_,_,rfl,s2 _ _ (s1 _ _ e),T.z15.cls,T.u37,rfl,a7,_,rfl, .inl 74#(s2 _ _ (s1 _ _ es)),λp hp=>⟨_,rfl,bg4,λt ht=>?_⟩⟩;obtain ⟨b1, b2⟩ := bP (2#c) hp (ds := sd.map fun b => PyData.str (S (bZ b))) (xs := sd.map fun b => vS (bZ b)) (by
   have:=qD (G:=dif H H2) (ls:=sd.map bZ) (λl hl=>by obtain⟨b,_,rfl⟩:=4#i hl;exact a6 b);rw[l20,l20] at this;exact this) 1#A
  have sp:=ad hp 14#(sd.map λb=>vS (bZ b));obtain⟨a1,a2⟩:=bu b1 ht (.cons (dn_k (k:="table")) (.cons (d2.same (aq s1 sp)) (.cons b2 34#(d1.same 80#(s2.trans sp)))));show 63
end
end K13
namespace Lw
open PySem L2 Lm
open Classical in
def srtQ (q:Bool)(r:0#a):Srt:=match aL r with
 | .quote x=>if q then .quote x else .plain 0 (aN r)
 |s=>s
def bj (q:Bool):0#m->Srt
 | [] => .empty
 |r::_=>srtQ q r
def tkW {α:Type}(f:Srt->Option α)(q:Bool):0#m->List α
 | []=>[]
 |r::rs=>match f 6#u with
  |some x=>x::0#fp
  |none=>[]
def c9:Srt->Option 16#Nat
 | .plain _ w=>some w
 |_=>none
def ci:Srt->Option 16#Nat
 | .plain far w=>if 1<=far then some w else none
 |_=>none
def eH:Srt->Option 16#Nat
 | .quote x=>some x
 |_=>none
def dk:Srt->Option 16#(7#b)
 | .cells ts=>some ts
 |_=>none
def litR:List 16#Nat->0#m×Nat
 | []=>([],0)
 |r::rs=>if bT (aL r)=bV then ([],1) else (r::(litR rs).1,(litR rs).2+1)
abbrev Itm:=Nat×Nat×List Nat
def bQ (q:Bool)(rs:0#m):List 16#Nat:=tkW ci q 30#1
def itR (q:Bool):Nat->0#m->9#a×Nat
 |0,_=>([],0)
 |k+1,rs=>match bj q rs with
  | .item far sg w=>((far,sg,ao [32] (w::bQ q rs))::(itR q k 30#(1+(bQ q rs).length)).1,1+(bQ q rs).length+(itR q k 30#(1+(bQ q rs).length)).2)
  |_=>([],0)
def lvl (first pv far:Nat):Nat:=min (min ((far - first) / 2) 5) pv
def lvR (first:Nat):Nat->9#a->9#a
 |_,[]=>[]
 |pv,x::r=>(lvl first pv x.1,x.2.1,x.2.2)::lvR first (lvl first pv x.1+1) r
def lvs (its:9#a):List Itm:=lvR ((its.head?.map (·.1)).getD 0) 0 its
def entF {β:Type}(k6:9#a->List β×Nat)(lv:Nat):Nat->9#a->List (EnF β)×Nat
 |0,_=>([],0)
 |_+1,[]=>([],0)
 |k+1,x::r=>if lv<=x.1 then (⟨decide (x.2.1=43),aT x.2.2,(k6 r).1⟩::(entF k6 lv k (r.drop (k6 r).2)).1,1+(k6 r).2+(entF k6 lv k (r.drop (k6 r).2)).2) else ([],0)
def entR:(n:Nat)->List Itm->List (En n)×Nat
 |0,_=>([],0)
 |n+1,its=>entF 159#n (5 - n) its.length its
def bU (ls:List 16#(7#b)):Nat:=(ls.map 4#g).foldr max 0
def bx (m:Nat)(ts:0#m):List 16#PC:=(ts++0#f 6#t []).map aT
def isR (t:0#a):Bool:=decide (t.getLast? = some 58)
def tblR {β:Type}(ls:List 16#(7#b)):BkF β:=
 if 5#H < 2 ∨ (ls.getD 1 []).all cC=false then .table [] [] (ls.map (bx (bU ls)))
 else .table (bx (bU ls) (ls.getD 0 [])) 8#O ((ls.drop 2).map (bx (bU ls)))
def rdF {β:Type}(q:Bool)(k6:0#m->List β)(rs:0#m):BkF β×Nat:=match bj q rs with
 | .heading lv w=>(.heading lv (aT w),1)
 | .name n t=>(.name n t,1)
 | .note n w=>(.note n (aT 71#(w::bQ q rs)),1+(bQ q rs).length)
 | .fence=>(.lit (litR 30#1).1,1+(litR 30#1).2)
 | .quote _=>(.quote (k6 (tkW eH q rs)),(tkW eH q rs).length)
 | .cells _=>(tblR (tkW dk q rs),(tkW dk q rs).length)
 | .item _ _ _=>(.lst (entR 6 (lvs (itR q rs.length rs).1)).1,(itR q rs.length rs).2)
 |_=>(.para (aT 71#(tkW c9 q rs)),(tkW c9 q rs).length)
def emp (r:0#a):Bool:=decide (bT (aL r)=oG)
def blkR {β:Type}(rd:0#m->β×Nat):Nat->Nat->0#m->List (β×Nat×Nat)
 |0,_,_=>[]
 |_+1,_,[]=>[]
 |k+1,p,r::rs=>if emp r then blkR rd k (p+1) rs else ((rd 5#h).1,p,p+(rd 5#h).2)::blkR rd k (p+(rd 5#h).2) ((r::rs).drop (rd 5#h).2)
def rd:(n:Nat)->List 16#Nat->Bl n×Nat
 |0,rs=>rdF false (λ_=>([]:List Empty)) rs
 |n+1,rs=>rdF true (λxs=>(blkR (rd n) xs.length 0 xs).map (·.1)) rs
def blks (n:Nat)(rs:0#m):List (Bl n×Nat×Nat):=blkR (rd n) rs.length 0 rs
structure SmR (rs:0#m):Prop where
 sum:(rs.map λr=>1#m+1).sum<=90000
 asc:∀r∈rs,Asc r
def km:∀{rs:List (List Nat)} {r:List Nat},r∈rs->1#m+1<=(rs.map λr=>1#m+1).sum
 |x::xs,r,h=>by
  rw[l16,l25];rcases 1#y h with z |z
  ·rw[z];omega
  ·have:=km z;omega
theorem nI:∀rs:List 16#Nat,1#r<=(rs.map λr=>1#m+1).sum
 | []=>7#j
 |x::xs=>by have:=nI xs;rw[l16,l25,l5];omega
def SmR.row {rs:0#m}{r:0#a}(h:SmR rs)(m:r∈rs):1#m<=90000:=by have:=km m;have:=h.sum;omega
def SmR.len {rs:0#m}(h:SmR rs):1#r<=90000:=l17 (nI rs) h.sum
def SmR.drop {rs : List 16#Nat} (h : SmR rs) (i : Nat) : SmR 30#i := ⟨by
 have e:=2#u (λl:List (List Nat)=>(l.map λr=>1#m+1).sum) (l63 i rs);simp only[l14,l45] at e;have:=h.sum;omega,λr hr=>h.asc r (l64 hr)⟩
def qE {s:Srt}(h:bT s=cU):∃x,s = .quote x:=by cases s <;> first |exact 0#F |cases h
def qF {s:Srt}(h:bT s=ia):∃k x,s = .plain k x:=by cases s <;> first |exact 98#_ |cases h
def qG {s:Srt}(h:bT s=gq):∃x,s = .cells x:=by cases s <;> first |exact 0#F |cases h
def mm {s:Srt}(h:bT s=mU):∃a b x,s = .item a b x:=by cases s <;> first |exact⟨_,_,_,rfl⟩ |cases h
section
variable {α:Type}{f:Srt->Option α}{q:Bool}{rs rs':0#m}{i:Nat}
def kn:bj q 30#i=match rs[i]? with |none => .empty |some r=>srtQ q r:=by
 by_cases h:i < 1#r
 ·rw[l31 h,0#l h];rfl
 ·rw[l49 nofun,3#b nofun];rfl
def sY (h0:f .empty=none){x:α}(h:f (bj q 30#i)=some x):i < 1#r/\tkW f q 30#i=x::tkW f q 30#(i+1):=by
 by_cases hi:i < 1#r
 ·refine 147#hi;rw[l31 hi] at h ⊢;have h:f (srtQ q rs[i])=some x:=h;show (match f (srtQ q rs[i]) with |some x=>x::tkW f q 30#(i+1) |none=>[])=_;rw[h]
 ·rw[l49 nofun] at h;rw[show bj q []=Srt.empty from rfl,h0] at h;cases h
def nJ (h:f (bj q rs)=none):0#fp=[]:=by
 cases rs with
 |nil=>rfl
 |cons r rs=>
  have h:f 6#u=none:=h;show 0#aY=_;rw[h]
def ko {r:0#a}{x:α}(h:f 6#u=some x):tkW f q 5#h=x::tkW f q rs:=by
 show 0#aY=_;rw[h]
theorem jo:∀rs:List 16#Nat,(0#fp).length<=1#r
 | []=>7#j
 |r::rs=>by
  have:=jo rs;show (match f 6#u with |some x=>x::0#fp |none=>[]).length<=_;split
  ·rw[l5,l5];omega
  ·exact l11 _
theorem oZ {x:α}:∀{rs:List (List Nat)},x∈tkW f q rs->∃r∈rs,f 6#u=some x
 | [],h=>nomatch h
 |r::rs,h=>by
  have h:x∈(match f 6#u with |some x=>x::0#fp |none=>[]):=h;show 36
  ·rename_i y e;rcases 1#y h with z |z
   ·exact⟨r,l7,by rw[z];exact e⟩
   ·obtain⟨r',h1,h2⟩:=oZ z;exact⟨r',l8 _ h1,h2⟩
  ·cases h
end
end Lw
namespace L2
open PySem PySem.Spec PyProof.Rows
section
variable {X:Cx}{pos:Pos}
def xbrk:XS X (.Break pos) wF:=⟨uN⟩
def B4 {x y z:V}{us:2#b}(r:Vals [x,y,z] us):∃u v w',us=[u,v,w']/\RelV x u/\RelV y v/\RelV z w':=by
 cases r with
 |cons r1 r2=>
  obtain⟨u,w',rfl,h1,h2⟩:=xQ r2;exact⟨_,_,_,rfl,r1,h1,h2⟩
inductive R_call_min3 (xs:0#t)(H:Hp)(Q:VK):Prop
 |mk (i j k)(_:xs=[.int i, .int j, .int k])(_:Q (.int (min (min i j) k)) H)
def sZ (hc:7#J=true):ck X (.builtin "min") R_call_min3:=by
 show 6;obtain⟨a,b,c,rfl,q⟩:=h;obtain⟨_,_,_,rfl,⟨t,rfl⟩,⟨t',rfl⟩,⟨t'',rfl⟩⟩:=B4 r;refine wpAny_with_toks (n:=1) I.tk (min_three_ints 3#t λh' tk k htk=>⟨_,H,I.kept k htk,?_,q⟩);by_cases hba:b < a <;> by_cases hc1:c < b <;> by_cases hc2:c < a <;> simp only[hba,hc1,hc2,if_true,if_false] <;> first |exact⟨_,2#u (λz=>0#fJ z _) nofun⟩
end
def tm (n d i:Nat):HT.sIx n d 23#(i:Int)=min i n:=by
 simp only[HT.sIx];rw[0#z nofun,l40]
def iE (xs:0#t)(a:Nat):cutV xs 23#(a:Int) none=xs.drop a:=by
 unfold cutV;rw[tm,show HT.sIx xs.length xs.length none=0#E from rfl];by_cases h:a<=0#E
 ·rw[l59 h,l41 4#M]
 ·rw[l72 nofun,l53,List.take_zero,l49 nofun]
def kq (xs:0#t)(b:Nat):cutV xs none 23#(b:Int)=xs.take b:=by
 unfold cutV;rw[tm,show HT.sIx xs.length 0 none=0 from rfl,l69,Nat.sub_zero];by_cases h:b<=0#E
 ·rw[l59 h]
 ·rw[l72 nofun,l41 nofun,l41 nofun]
end L2
namespace Lw
open PySem L2 Lm
def o0 {K:Frag}{a:Addr}{xs:0#t}{g:TG}{tb:TS}{D:Ends}{σ:St}{H:Hp}(Pv:Nat->St->Hp->Prop)(h0:Pv 0 σ H)(hl:∀i σ H,i<=0#E->Pv i σ H->6#S)
  (hs:∀i x σ H T,xs[i]? = some x->Pv i σ H->H T=none->g 11#T σ (4#b T (.tup [.int (i:Nat),x])) λσ2 H2=>tb 3#U σ2 H2) (hd:∀σ H,Pv xs.length σ H->D.nx σ H):
  ∃W:Nat->Nat->St->Hp->Prop,0#dg/\∀i m σ H,W i m σ H →
   ((Ite K a).stop i H/\D.nx σ H) ∨ ((Ite K a).go i H/\∃N:St->Hp->Prop,2#q/\∀x H',(Ite K a).yld i H x H'->g x σ H' λσ2 H2=>0#fo):=by
 show 24
 ·refine .inr ⟨⟨xs,xs[i],q,by simp[hlt]⟩,Pv (i+1),λσ' H' p'=>⟨0#E - (i+1),by omega,rfl,hlt,p'⟩,?_⟩;rintro x H' ⟨T,y,hy,hT,rfl,rfl⟩;exact hs i y σ H T (hy xs q) p hT
 ·have e:i=xs.length:=by omega
  subst e;exact .inl 0#ax
def o2 {K:Frag}{a:Addr}{xs:0#t}{k:Nat}{fr:0#a}{g:TG}{tt:TT}{te:TE}{σ:St}{H0:Hp}{Q:Addr->Hp->Prop}(ts:0#m)(hx:0#eW)(w6:0#E=2#g)(hl:2#g<=1000000)
  (ht:∀(i:Nat) x t,xs[i]? = some x->ts[i]? = some t->∀H',3#q->∀(C:V->Hp->Prop)(N:Hp->Prop),(∀H4,7#x->C (vS t) H4) →
   g x 81#k H' λσ2 H2=>3#h/\tt σ2 H2 λb H3=>if b=true then te σ2 H3 C else N H3)
  (hq:∀D H',H0 D=none->3#q->H' D=some 14#(0#fT)->Q D H'):3#e (Itl K a) H0 Q:=by
 intro D hD;refine⟨λi m a1 H=>m=0#E - i/\i<=0#E/\Same H0 H/\H D=some 14#a1/\a1=(ts.take i).map vS,0#gq,?_⟩;show 51;show 119
 ·show 43;have a3:ts[i]? = some ts[i]:=0#l nofun;refine ht i x _ (y xs (9#R)) a3 _ sm _ _ λH4 s4=>?_;refine⟨4#k a2,by rw[l4,l29,0#Z];omega,0#E - (i+1),by omega,rfl,hlt,aj hD 9#t,ac,?_⟩;rw[List.take_add_one,a3,l14];rfl
 ·have e:i=xs.length:=by omega
  subst e;refine .inl ⟨0#en,hq D H hD sm ?_⟩;rw[a2,w6,l62]
section
variable {K:Frag}{σ:St}{H:Hp}{ta tb:TE}
def wZ {a b : Bool} (h1 : Ev ta σ H (.bl a)) (h2 : Ev tb σ H (.bl b)) : Ev (tAndV ta tb) σ H (.bl (a && b)) := fun R r => h1 _ ⟨a,rfl,by
 cases a with
 |true=>exact h2 _ r
 |false=>exact r⟩
end
end Lw
namespace K13
open PySem L2 Lm Lw
structure TxD (K:Frag)(mg:Str->0#B)(c:Cb)(BT:Addr):Prop extends TxB K mg c BT where
 q15:∃t,mg "MOST_QUOTES"=some 123#4
 u16:∃t,mg "MOST_ENTRIES"=some 123#6
 q11:mg "min"=none
 u12:mg "max"=none
def dj {a b:Prop} [Decidable a] [Decidable b](h:a ↔ b):V.bl 28#a=V.bl 28#b:=2#u V.bl (2#F h)
section
variable {K:Frag}{σ:St}{H:Hp}{p:Addr}{s:Srt}
def aU {k:Nat}{x:Str}(w:0#a)(hσ:σ[k]? = some 23#11#p)(hp:0#fH s)(hw:V.str x=vS w:=by rfl):Tells 112#(tOp rEq (tOp (rIxT K) 44#k (tC 21#0)) (tC 82#x)) σ H 28#(bT s=w):=λR h=>by
 show 126;refine⟨_,hσ,p,_,0,_,rfl,rfl,2#m ep,ag (j:=0) rfl,rfl,_,rfl,?_⟩;have e:decide (vS (bT s)=V.str x)=decide (bT s=w):=by rw[hw];exact 2#F ⟨λz=>dt 102#z,λz=>by rw[z]⟩
 rw[e];exact h H 18#H
end
section
variable {c:Cb}{BT:Addr}
abbrev tq:Stmt:=top 87
inductive spEmpty (vs:0#t)(H:Hp)(Q:VK)(u3:XK):Prop
 |mk (l:List Nat)(_:vs=[vS l])(_:l.length<=1000000)(_:∀H',Same H H'->Q (.bl (emp l)) H')
def vP (F:2#k "is_empty" "is_empty" tq f fd)(Dh:0#c 4 "sort_of" 0#ej (spSort K)):0#b 5 f fd 0#ej spEmpty:=by
 have sc:1#b 0#ej 0#ej 55#tq:=mkS;show 0;show 15;refine az 13#(xcmp aY 47#(xcd Dh hr 19#(2#U)) xstr (ak _)) ?_;ac_nf;refine⟨_,rfl,l,rfl,hl,λp H1 s1 hp=>?_⟩;show 126;refine⟨p,_,0,_,rfl,rfl,2#m ep,ag (j:=0) rfl,rfl,?_⟩;have e:decide (vS (bT (aL l))=V.str (0#e "empty"))=emp l:=2#F 8#x;rw[e];exact q H1 s1
abbrev nK:Stmt:=top 89
inductive spSortAt (K:Frag)(vs:0#t)(H:Hp)(Q:VK)(u3:XK):Prop
 |mk (l:Addr)(rs:List (List Nat))(i d:Nat)(_:vs=[.ref l, .int i, .int d])(_:H l=some (.lst (rs.map vS)))(_:SmR rs)(_:∀p H',Same H H'->SrtAt K H' p (bj (decide (d < 4)) (rs.drop i))->Q (.ref p) H')
def tu {q:Bool}{r:0#a}(h:bT (aL r)≠cU):srtQ q r=aL r:=by
 unfold srtQ;split
 ·rename_i e;rw[e] at h;exact 0#A rfl h
 ·rfl
def Bb {r:0#a}:0#bR r=aL r:=by
 unfold srtQ;split
 ·rename_i e;rw[e];rfl
 ·rfl
def xb {r:0#a}(h:bT (aL r)=cU):srtQ false r = .plain 0 (aN r):=by
 obtain⟨x,e⟩:=qE h;unfold srtQ;rw[e];rfl
def tz (F:2#k "sort_at" "sort_at" nK f fd)(T:3#R)(Dh:0#c 4 "sort_of" 0#ej (spSort K))(Df:0#c 2 "tidy" 1#K spTidy):0#b 5 f fd p15 6#I:=by
 have sc:1#b ["rows","place","deep","sort"] p15 55#nK:=mkS;show 0;obtain⟨l,rs,i,d,rfl,el,hok,q⟩:=h;refine az (xbc (xif (aB qU (2#E) 15#ar (ak _)) 13#(xtup 19#xstr) xb0)
  (xbc 39#(xcd Dh hr 10#(4#t (2#U) (2#E) 0#n))
  (xbc (xif (xand 42#3 (gU 169#(qU,(xgI T.q15)))).xt 13#(xtup 142#(xac xint 19#(xcd Df hr 35#(4#t (2#U) (2#E) 6#J)))) xb0)
  13#(6#k)))) ?_
 ac_nf;rw[Av];have w6:=dI (K:=K) (σ:=[2#f,5#m,some 21#d,none]) (H:=H) (ta:=tVar 0) 0#u 119#74#el;refine s_if 28#(1#r<=i) (cx 0#u w6 (dj 1#A)) (λH1 s1 z=>?_) λH1 s1 z=>?_
 ·have hi:=0#s z;refine⟨bg1,λt ht=>q t _ (s1.trans 46#ht) ?_⟩;rw[l49 hi];exact ac
 have hi:i < rs.length:=by have:=1#u z;omega
 have a4:=l46 hi;have er:bj 28#(d < 4) 30#i=srtQ 28#(d < 4) rs[i]:=by rw[l31 hi];rfl
 rw[er] at q;have a2:(rs.map vS)[i]? = some (vS rs[i]):=by rw[0#x,0#l hi];rfl
 generalize rs[i]=r at a4 q a2;have a3:1#m<=1000000:=by have:=hok.row a4;omega
 refine⟨_,rfl,_,rfl,l,_,(i:Int),_,rfl,rfl,0#w 110#s1,ag (j:=i) a2,r,rfl,a3,λp H2 s2 hp=>?_⟩
 symm
 have a1:=2#c;refine s_if (decide (bT (aL r)=cU)&&decide (4<=d)) (dF _ _ (aU cU rfl hp) λ_ H3 s3=>7#h 0#bW) (λH3 s3 z=>?_) λH3 s3 z=>?_
 ·rw[0#r] at z;have hd:=0#s z.2;rw[0#D (show ¬ d < 4 by omega),xb (0#s z.1)] at q;refine⟨_,rfl,_,rfl,l,_,(i:Int),_,rfl,rfl,0#w 110#(3#n),ag (j:=i) a2,r,rfl,a3,λH4 s4=>⟨bg3,λt ht=>q t _ (((3#n).trans s4).trans 46#ht) ac⟩⟩
 ·refine⟨_,rfl,q p H3 (3#n) (hp.same s3|>λh=>?_)⟩;by_cases hd:d < 4
  ·rw[1#f hd,Bb];exact h
  ·rw[tu]
   ·exact h
   ·intro y;rw[1#f y,1#f (show 4<=d by omega)] at z;cases z
end
def Zp {α:Type}(R:V->α->Prop)(vs:0#t)(as:List α):Prop:=∃zs:List (V×α),vs=zs.map (·.1)/\as=zs.map (·.2)/\∀z∈zs,R z.1 z.2
section
variable {α:Type}{R R':V->α->Prop}{vs:0#t}{as:List α}
def Zp.mono (h:Zp R vs as)(k:∀v a,v∈vs->R v a->R' v a):Zp R' vs as:=let ⟨zs,a,b,d⟩:=h;⟨zs,a,b,λz hz=>k _ _ (by rw[a];exact List.mem_map_of_mem hz) (d z hz)⟩
def Zp.snoc {v : V} {a : α} (h : Zp R vs as) (k : R v a) : Zp R (vs ++ [v]) (as ++ [a]) := let ⟨zs, x, y, d⟩ := h; ⟨zs++[(v,a)],by rw[x,l14];rfl,by rw[y,l14];rfl,λz hz=>by
 rcases 2#n hz with z' |z'
 ·exact d z z'
 ·rw[2#R z'];exact k⟩
def Zp.nil:Zp R [] []:=⟨[],rfl,rfl,λ_ z=>0#k⟩
def Zp.len (h:Zp R vs as):6#h=as.length:=let ⟨zs,x,y,d⟩:=h;by rw[x,y,l4,l4]
def Zp.one (h:Zp R vs as){v:V}(hv:v∈vs):∃a,R v a:=let ⟨zs,x,y,d⟩:=h;by
 rw[x] at hv;obtain⟨z,hz,rfl⟩:=4#i hv;exact⟨_,d z hz⟩
end
def Zp.strs {vs:0#t}{as:0#m}(h:Zp (λv w=>v=vS w) vs as):vs=as.map vS:=let ⟨zs,x,y,d⟩:=h;by
 rw[x,y,l20];exact l56 λz hz=>d z hz
section
variable {K:Frag}{α:Type}{f:Srt->Option α}{Rl:Hp->V->α->Prop}{tt:TT}{k:Int}{σt:St}{l:Addr}{rs:0#m}{i d:Nat}{D:Ends}{u:TS}{H0:Hp}
def kr {Pr:Srt->Prop}(hPr:∀j,Pr (bj 28#(d < 4) 30#j))(h0:f .empty=none)(ht:∀σ H p s,σ[4]? = some 23#11#p->0#fH s->Tells tt σ H (f s).isSome)
  (hk:∀H p s a,Pr s->0#fH s->f s=some a->∃ys v,H p=some (.tup ys)/\atI ys k=some v/\Rl H v a)(mo:∀H H' v a,0#T->Rl H v a->Rl H' v a)
  (up:∀H X vs v v' a a',H X=0#cS->(∀x∈vs,∃b,Rl H x b)->Rl H v a->Rl H v' a'->Rl (4#b X 14#(vs++[v])) v' a')(el:H0 l=some 14#(rs.map vS))(hok:SmR rs)
  (q:∀X p vs H',3#q->H0 X=none->H' X=0#cS->Zp (Rl H') vs (tkW f 28#(d < 4) 30#i)->u D (2#f::5#m::some 21#d::2#y::some 11#p::σt) H'):
  tSeq (tAsg (tLst tNil) (am 3)) (tSeq (tAsg (tCall 6#I [] E0 (tCons 44#0 (tCons 44#1 108#44#2))) (am 4)) (tSeq (tWhile tt (tSeq (tDrop (tBM K "list" rAppend 44#3 108#(tOp (rIxT K) 44#4 (tC 21#k))))
   (tAsg (tCall 6#I [] E0 (tCons 44#0 (tCons (tOp (rI0 λi j=>V.int (i+j)) 44#1 (tCB 149#K 108#44#3)) 108#44#2))) (am 4)))) u)) D (2#f::5#m::some 21#d::none::none::σt) H0:=by
 refine 3#k;have s1:=0#bM;have e1:upd H0 X 0#y X=some 0#y:=ac
 symm
 generalize upd H0 X (.lst [])=H1 at s1 e1 ⊢;refine 8#Y
 symm
 refine cy (λm σ H=>Ex3 λ(p:Addr) (vs:List V) (as:List α)=>Al7 (σ=2#f::5#m::some 21#d::2#y::some 11#p::σt) (9#K) (H X=0#cS) (Zp (Rl H) vs as) (0#fH (bj 28#(d < 4) 30#(i+5#k))) (as++tkW f 28#(d < 4) 30#(i+5#k)=tkW f 28#(d < 4) 30#i) (m=1#r - (i+5#k))) (1#r - i) ⟨p,[],[],rfl,2#c,s2 _ _ e1,Zp.nil,hp,rfl,rfl⟩ ?_;rintro m σ H ⟨p,vs,as,rfl,sH,eX,hz,hp,a1,rfl⟩;ac_rfl;refine⟨_,ht _ _ p _ rfl hp,λz H' s'=>?_,λz H' s'=>?_⟩
 ·obtain⟨a,ha⟩:=l88.mp z;obtain⟨hlt,a2⟩:=sY h0 ha;obtain⟨ys,v,ep,ev,hv⟩:=hk H p _ a (hPr _) hp ha;rw[a2] at a1;have a3:=s' _ _ eX;have w6:=jo (f:=f) (q:=decide (d < 4)) 30#i;have a7:=hz.len;have hasl:5#k<=90000:=by
   have:=0#V a1;rw[l6] at this;rw[l15] at w6;have:=hok.len;omega
  refine⟨_,rfl, .inl 33#a3,_,rfl,p,ys,k,v,rfl,rfl,2#m (s' _ _ ep),ev,X,_,v,rfl,rfl,a3,by rw[0#Z];omega,?_⟩;have a5:Zp (Rl H') vs as:=hz.mono λx b _ hb=>mo _ _ _ _ s' hb;have a4:=mo _ _ _ _ s' hv;have sU:Same H0 (upd H' X 14#(vs++[v])):=aj hX (sH.trans s');refine⟨_,rfl,_,rfl,_,rfl,X,vs++[v],rfl, .inl 74#ac,_,_,rfl,rfl,_,rfl,l,rs,i+(5#k+1),d,?_,sU _ _ el,hok,λp2 H3 s3 a6=>?_⟩
  ·rw[l6,a7];rfl
  symm
  refine⟨_,(show 1#r - (i+(5#k+1)) < 1#r - (i+5#k) by omega),p2,vs++[v],as++[a],rfl,sU.trans s3,8#g ac,?_,?_,?_,?_⟩
  ·have j7:∀x∈vs,∃b,Rl H' x b:=λx hx=>a5.one hx;exact((a5.mono (R':=Rl (upd H' X 14#(vs++[v]))) λx b _ hb=>up _ _ _ _ _ _ _ a3 j7 a4 hb).snoc (up _ _ _ _ _ _ _ a3 j7 a4 a4)).mono λx b _ hb=>mo _ _ _ _ s3 hb
  ·rw[l6];exact a6
  ·rw[l6,l19];exact a1
  ·rw[l6];rfl
 ·have hn:f (bj 28#(d < 4) 30#(i+5#k))=none:=by simpa using z
  rw[nJ hn,l12] at a1;rw[<- a1] at q;exact q X p vs H' (sH.trans s') hX (s' _ _ eX) (hz.mono λx b _ hb=>mo _ _ _ _ s' hb)
end
section
variable {c:Cb}{BT:Addr}
abbrev ku:Stmt:=top 90
inductive spFurther (vs:0#t)(H:Hp)(Q:VK)(u3:XK):Prop
 |mk (l:Addr)(rs:List (List Nat))(i d:Nat)(_:vs=[.ref l, .int i, .int d])(_:H l=some (.lst (rs.map vS)))(_:SmR rs)(_:∀r H',Same H H'->H r=none->H' r=some (.lst ((tkW ci (decide (d < 4)) (rs.drop i)).map vS))->Q (.ref r) H')
def qH (F:2#k "further_words" "further_words" ku f fd)(T:3#R)(Da:0#c 5 "sort_at" p15 6#I):FnOk P w K mg base CX0 6 f fd p15 spFurther:=by
 have sc:1#b 0#eY p15 55#ku:=mkS;show 14;obtain⟨l,rs,i,d,rfl,el,hok,q⟩:=h;refine az (xbc 20#3
  (xbc 31#(2#E)
  (xbc (di 1#x (xand 42#4 (gU (aB qU 12#(xv 4) xint (ak _)))).xt
  (xbc 75#3
  5#p))
  13#(6#k)))) ?_
 ac_nf;refine kr (K:=K) (f:=ci) (Rl:=λ_ v w=>v=vS w) (l:=l) (rs:=rs) (i:=i) (d:=d) (σt:=[]) (Pr:=λ_=>True) (λ_=>trivial) rfl 9#x 0#dm 3#I 0#aS el hok λX p vs H' s' hX eX hz=>⟨_,rfl,q X H' s' hX (by rw[eX,hz.strs])⟩
 ·by_cases hk:bT s=ia
  ·obtain⟨a1,w,rfl⟩:=qF hk;refine Tells.eq (dF _ 28#(1<=a1) (aU ia hσ hp) λ_ H1 s1=>cx (λR k=>⟨_,hσ,p,_,1,_,rfl,rfl,2#m (s1 _ _ hp),ag (j:=1) rfl,k⟩) ev_c 0#bW) ?_;show (decide _&&_)=(if 1<=a1 then some w else none).isSome;rw[1#f hk];by_cases h:1<=a1
   ·rw[1#d h,1#f h];rfl
   ·rw[0#z h,0#D h];rfl
  ·refine Tells.eq (dF false false ((aU ia hσ hp).eq (0#D hk)) λz=>0#k) ?_;cases s <;> first |rfl |exact 0#A rfl hk
 ·cases s with
  |plain a1 w=>
   have ha:(if 1<=a1 then some w else none)=some a:=ha;split at ha
   ·cases ha;exact⟨_,_,hp,ag (j:=2) rfl,rfl⟩
   ·cases ha
  |_=>cases ha
end
end K13
namespace Lw
open PySem L2 Lm
def szP:Pc->Nat
 | .star=>2
 |p=>sPc p
def szQ:Qc->Nat
 | .txt l=>0#L
 | .part p=>szC p
def okQ:Qc->Prop
 | .txt l=>Asc l/\l≠[]
 | .part p=>OkC p
def smQ (qs:6#n):Nat:=(qs.map szQ).sum
def zc (a b:6#n):smQ (a++b)=smQ a+smQ b:=by unfold smQ;rw[l14,l45]
def xg:∀(n:Nat) {s:List Nat},s.length<=n->Asc s->((aF s).map szP).sum<=21 * s.length/\∀p∈aF s,PcG p
 |n,[],_,_=>by rw[bX];exact 0#gr
 |0,x::s,h,_=>by simp at h
 |n+1,x::s,h,ha=>by
  show 103;obtain⟨g1,g2,g3,g4⟩:=sT ha e;obtain⟨i1,i2⟩:=xg n (s:=r) (by rw[l5] at g4 h;omega) g2;have hp:szP p+21 * 1#m<=21 * (x::s).length:=by
   cases p with
   |star=>show 2+_<=_;omega
   |_=>exact g3
  rw[bC e];refine⟨by rw[l16,l25];omega,λq hq=>?_⟩;rcases 1#y hq with z |z
  ·rw[z];exact g1
  ·exact i2 q z
def Bc {p:Pc}(hg:PcG p):okQ (toQ p)/\szQ (toQ p)<=szP p:=by
 cases p with
 |sign c=>exact⟨⟨λx hx=>by rw[2#R hx];exact hg,by simp⟩,7#j⟩
 |star=>exact⟨3#g,by show 1<=2;decide⟩
 |code l=>exact⟨by show Asc (S l).cps.toList;rw[ce];exact hg.1,by show (S l).cps.toList.length+2<=0#L+2;rw[ce];exact l9 _⟩
 |note n=>exact⟨by show Asc (S n).cps.toList;rw[ce];exact hg.1,by show (S n).cps.toList.length+20<=n.length+20;rw[ce];exact l9 _⟩
 |link w n=>exact⟨by show Asc (S w).cps.toList/\Asc (S n).cps.toList;rw[ce,ce];exact⟨hg.1,hg.2.2.1⟩,by show (S w).cps.toList.length+(S n).cps.toList.length+20<=4#J+n.length+20;rw[ce,ce];exact l9 _⟩
def vQ:∀(qs:List Qc) (sg:List (List Nat)),(∀q∈qs,okQ q)->(∀l∈sg,Asc l/\l≠[])->(∀p∈mgGo sg qs,OkC p)/\((mgGo sg qs).map szC).sum<=sg.flatten.length+smQ qs
 |qs,sg,hq,hs=>by
  have pl:(∀p∈bw sg,OkC p)/\((bw sg).map szC).sum<=sg.flatten.length:=by
   unfold bw;split
   ·exact⟨λ_ z=>(0#k),4#r⟩
   ·rename_i hn;refine⟨λp hp=>?_,?_⟩
    ·rw[2#R hp];show Asc (S sg.flatten).cps.toList/\(S sg.flatten).cps.toList≠[];rw[ce];refine⟨λc hc=>?_,λz=>?_⟩
     ·obtain⟨l,h1,h2⟩:=List.mem_flatten.mp hc;exact(hs l h1).1 c h2
     ·cases sg with
      |nil=>exact hn rfl
      |cons l sg=>exact(hs l l7).2 (List.append_eq_nil_iff.mp z).1
    ·show (S sg.flatten).cps.toList.length+0<=_;rw[ce];exact l9 _
  cases qs with
  |nil=>exact⟨pl.1,pl.2⟩
  |cons q qs=>
   cases q with
   |txt l=>
    have hl:Asc l/\l≠[]:=hq _ l7;obtain⟨i1,i2⟩:=vQ qs 0#et (λq h=>hq q 38#h) λx hx=>(2#n hx).elim (hs x) λz=>by rw[2#R z];exact hl
    refine⟨i1,l17 i2 ?_⟩;rw[l74,l6];show _+(l++[]).length+_<=_+(0#L+smQ qs);rw[l12];omega
   |part p=>
    obtain⟨i1,i2⟩:=vQ qs [] (λq h=>hq q 38#h) λ_ z=>0#k;refine⟨λx hx=>?_,?_⟩
    ·rcases 2#n 0#eu with z |z
     ·exact pl.1 x z
     ·rcases 1#y z with z |z
      ·rw[z];exact hq _ l7
      ·exact i1 x z
    ·show ((bw sg++p::mgGo [] qs).map szC).sum<=_+(szC p+smQ qs);rw[l14,l45,l16,l25];have:=pl.2;have i2:((mgGo [] qs).map szC).sum<=0+smQ qs:=i2;omega
 termination_by qs=>qs.length
theorem o3:∀{ps:List PC},(∀p∈ps,OkC p)->(∀p∈ones ps,Ok1 p)/\((ones ps).map sz1).sum<=(ps.map szC).sum
 | [],_=>⟨λ_ z=>(0#k),7#j⟩
 |p::ps,h=>by
  obtain⟨i1,i2⟩:=o3 λq hq=>h q 38#hq;have hp:=h p l7;cases p with
  |one q=>
   refine⟨λx hx=>?_,?_⟩
   ·rcases 1#y (show x∈q::ones ps from hx) with z |z
    ·rw[z];exact hp
    ·exact i1 x z
   ·show sz1 q+_<=sz1 q+_;exact Nat.add_le_add_left i2 _
  |strong q=>exact⟨i1,l17 i2 (by rw[l16,l25];omega)⟩
def tD {inn:6#n}(h:∀q∈inn,okQ q):okQ (bt inn)/\szQ (bt inn)<=smQ inn+2:=by
 unfold bt;split
 ·exact⟨3#g,by show 2<=_;omega⟩
 ·obtain⟨a,b⟩:=vQ inn [] h λ_ z=>0#k;obtain⟨d,e⟩:=o3 a;have b:((mgGo [] inn).map szC).sum<=0+smQ inn:=b;exact⟨d,by show _+2<=_;omega⟩
theorem tF:∀(ps:List Pc) (o:Option (List Qc)),(∀p∈ps,PcG p)->(∀q∈o.getD [],okQ q)->(∀q∈wsGo o ps,okQ q)/\smQ (wsGo o ps)<=smQ (o.getD [])+(ps.map szP).sum+(if o.isSome then 2 else 0)
 | [],none,_,_=>⟨λ_ z=>(0#k),4#r⟩
 | [], some inn, _, h => ⟨λq hq=>by
   rcases 1#y 0#gv with z |z
   ·rw[z];exact 3#g
   ·exact h q z,by show 1+smQ inn<=smQ inn+0+2;omega⟩
 |p::r,o,hp,h=>by
  have hr:=λq hq=>hp q 38#hq;have h1:=hp p l7;rw[l16,l25];by_cases hs:p = .star
  ·subst hs;cases o with
   |none=>
    obtain⟨a,b⟩:=tF r 0#bu hr λ_ z=>0#k;exact⟨a,l17 b (by show smQ []+_+2<=smQ []+(2+_)+0;omega)⟩
   |some inn=>
    obtain⟨a,b⟩:=tF r none hr λ_ z=>0#k;obtain⟨d,e⟩:=tD h;refine⟨λq hq=>?_,?_⟩
    ·rcases 1#y (show q∈bt inn::1#P r from hq) with z |z
     ·rw[z];exact d
     ·exact a q z
    ·have b:smQ (1#P r)<=0+(r.map szP).sum+0:=b;show szQ (bt inn)+smQ (1#P r)<=smQ inn+(2+_)+2;have e:szQ (bt inn)<=smQ inn+2:=e;omega
  ·obtain⟨t1,t2⟩:=Bc h1;cases o with
   |none=>
    obtain⟨a,b⟩:=tF r none hr λ_ z=>0#k;rw[eV hs];refine⟨λq hq=>?_,?_⟩
    ·rcases 1#y hq with z |z
     ·rw[z];exact t1
     ·exact a q z
    ·have b:smQ (1#P r)<=0+(r.map szP).sum+0:=b;show szQ (toQ p)+smQ (1#P r)<=0+(szP p+_)+0;omega
   |some inn=>
    rw[eZ hs];obtain⟨a,b⟩:=tF r 23#(inn++[toQ p]) hr λq hq=>(2#n hq).elim (h q) λz=>by rw[2#R z];exact t1
    refine⟨a,l17 b ?_⟩;show smQ (inn++[toQ p])+_+2<=smQ inn+(szP p+_)+2;rw[zc];show smQ inn+(szQ (toQ p)+0)+_+2<=_;omega
def o5:∀(qs:List Qc) (sg:List (List Nat)),(mgGo sg qs).length<=qs.length+(if sg=[] then 0 else 1)
 |qs,sg=>by
  have pl:(bw sg).length=if sg=[] then 0 else 1:=by
   unfold bw;cases sg <;> rfl
  cases qs with
  |nil=>show (bw sg).length<=0+_;omega
  |cons q qs=>
   cases q with
   |txt l=>
    have:=o5 qs 0#et;rw[0#z 0#h] at this;show (mgGo 0#et qs).length<=_;rw[l5];omega
   |part p=>
    have:(mgGo [] qs).length<=qs.length+0:=o5 qs [];show (bw sg++p::mgGo [] qs).length<=_;rw[l6,l5,l5];omega
 termination_by qs=>qs.length
def r2Q (m:Nat):Qc->Prop
 | .part (.strong ps)=>2#x<=m
 |_=>True
def vR (ps:7#E):(ones ps).length<=ps.length:=by
 unfold ones;exact List.length_filterMap_le _ _
def xh (m:Nat)(p:Pc):r2Q m (toQ p):=by cases p <;> trivial
theorem tG {m:Nat}:∀(ps:List Pc) (o:Option (List Qc)),(o.getD []).length+2#x<=m->(∀q∈o.getD [],r2Q m q)->∀q∈wsGo o ps,r2Q m q
 | [],none,_,_=>λ_ z=>0#k
 | [],some inn,_,h=>λq hq=>by
  rcases 1#y 0#gv with z |z
  ·rw[z];trivial
  ·exact h q z
 |p::r,o,hl,h=>by
  rw[l5] at hl;by_cases hs:p = .star
  ·subst hs;cases o with
   |none=>exact tG r 0#bu 0#cv λ_ z=>0#k
   |some inn=>
    have hl:0#cR+(1#m+1)<=m:=hl;intro q hq;rcases 1#y (show q∈bt inn::1#P r from hq) with z |z
    ·rw[z];unfold bt;split
     ·trivial
     ·show (ones (mgGo [] inn)).length<=m;have h1:=vR (mgGo [] inn);have h2:=o5 inn [];rw[1#d rfl] at h2;omega
    ·exact tG r none 0#cv 1#F q z
  ·cases o with
   |none=>
    have e:1#P (p::r)=toQ p::wsGo none r:=by cases p <;> first |rfl |exact 0#A rfl hs
    rw[e];intro q hq;rcases 1#y hq with z |z
    ·rw[z];exact xh m p
    ·exact tG r none 0#cv 1#F q z
   |some inn=>
    have hl:0#cR+(1#m+1)<=m:=hl;have e:0#fU (p::r)=wsGo 23#(inn++[toQ p]) r:=by cases p <;> first |rfl |exact 0#A rfl hs
    rw[e];exact tG r 23#(inn++[toQ p]) (by show (inn++[toQ p]).length+1#m<=m;rw[l6];show 0#cR+1+_<=_;omega) λq hq=>(2#n hq).elim (h q) λz=>by rw[2#R z];exact xh m p
def zd:∀(qs:List Qc) (sg:List (List Nat)),(∀q∈qs,r2Q 100000 q)->∀p∈mgGo sg qs,R2 p
 |qs,sg,hq=>by
  have pl:∀p∈bw sg,R2 p:=by
   unfold bw;split
   ·exact λ_ z=>0#k
   ·exact λp hp=>by rw[2#R hp];trivial
  cases qs with
  |nil=>exact pl
  |cons q qs=>
   have hr:=λx hx=>hq x 38#hx;cases q with
   |txt l=>exact zd qs 0#et hr
   |part p=>
    intro x hx;rcases 2#n 0#eu with z |z
    ·exact pl x z
    ·rcases 1#y z with z |z
     ·rw[z];have:=hq _ l7;cases p with
      |one _=>trivial
      |strong ps=>exact this
     ·exact zd qs [] hr x z
 termination_by qs=>qs.length
def cG {t:0#a}(ha:Asc t)(hl:1#n<=90000):OkPs (aT t):=by
 obtain⟨a1,a2⟩:=xg _ (7#j) ha;obtain⟨b1,b2⟩:=tF (aF t) none a2 λ_ z=>0#k;obtain⟨c1,c2⟩:=vQ 0#co [] b1 λ_ z=>0#k;have b2:smQ 0#co<=0+((aF t).map szP).sum+0:=b2;have c2:((aT t).map szC).sum<=0+smQ 0#co:=c2;have e1:(aT t).length<=(1#P (aF t)).length+0:=o5 0#co [];have e2:(1#P (aF t)).length<=(aF t).length+0:=(b9 (aF t) none).2;have e3:=gc _ t (7#j);exact⟨by omega,c1,zd _ _ (tG (m:=100000) _ _ (by show 0+_<=_;omega) λ_ z=>0#k)⟩
def SzS (n:Nat):Srt->Prop
 | .empty=>True
 | .fence=>True
 | .quote r=>1#m+1<=n
 | .heading lv w=>lv<=3/\4#J<=n
 | .cells ts=>1<=2#g/\2#g<=n/\∀t∈ts,1#n<=n
 | .note a w=>3#x<=n/\4#J<=n
 | .name a w=>3#x<=n/\4#J<=n
 | .item _ sg w=>(sg=43 ∨ sg=45)/\4#J<=n
 | .plain _ w=>4#J<=n
def nL:∀{ls:List (List Nat)} {w:List Nat},w∈ls->4#J<=(ls.map 4#g).sum
 |x::r,w,h=>by
  rw[l16,l25];rcases 1#y h with z |z
  ·rw[z];omega
  ·have:=nL z;omega
def vT {l w:0#a}(h:w∈ax l):4#J<=l.length:=by
 have h2:=g8 l;have h3:=nL h;have h4:1<=(ax l).length:=List.length_pos_of_mem h;omega
def mn (l:0#a):(aR l).length=l.length:=l4 _
def ze {l t:0#a}(h:t∈bv l):1#n<=l.length:=by
 have h2:((bv l).map 4#g).sum+(bv l).length=0#L+1:=mS l 0;have h3:=nL h;have h4:=List.length_pos_of_mem h;omega
def zf (l:0#a):SzS l.length (aL l):=by
 have hbl:=oE l;have td:∀x:0#a,7#k<=0#L->(aN x).length<=l.length:=λx hx=>l17 (jH x) hx;show 18;split
 ·trivial
 split
 ·rename_i h;have:1<=(bN l).length:=by cases e:bN l with |nil=>rw[e] at h;cases h |cons _ _=>simp
  show (dz l).length+1<=_;unfold dz;split <;> rw[l15] <;> omega
 split
 ·trivial
 split
 ·refine⟨?_,td _ 4#M⟩;unfold cw;split <;> omega
 split
 ·rename_i h;unfold bA at h;rw[0#r,0#r] at h;have h2:=0#s h.1.1;have hi:(((bN l).drop 1).take ((bN l).length - 2)).length<=0#L - 2:=by rw[l29,l15];omega
  refine⟨?_,?_,λt ht=>?_⟩
  ·unfold cT;rw[l4];unfold bv;cases e:aA 0 _ with
   |nil=>exact 0#A e 163#cZ
   |cons _ _=>simp
  ·unfold cT;rw[l4];have:=lB (((bN l).drop 1).take ((bN l).length - 2));omega
  ·obtain⟨x,hx,rfl⟩:=4#i ht;have:=ze hx;have:=lA x;exact td _ nofun
 have hdw:=fF ([32]:0#a).contains (bN l);have hi:SzS l.length (fA (bN l)):=by
  show 76;split
  ·rename_i h;refine⟨?_,td _ 4#M⟩;rcases h with h |h <;> (cases e:(bN l).dropWhile ([32]:0#a).contains with |nil=>rw[e] at h;cases h |cons x r=>?_) <;> rw[e] at h <;> simp at h
   ·exact .inr h.1.symm
   ·exact .inl h.1.symm
  ·exact td _ nofun
 cases hd:defC (bN l) with
 |none=>exact hi
 |some d=>
  unfold defC at hd;split at hd
  ·cases hd
  ·split at hd
   ·cases hd
   split at hd
   ·cases hd;exact⟨by rw[mn,l29,l15];omega,td _ 4#M⟩
   split at hd
   ·cases hd;refine⟨by rw[mn,l29,l15];omega,?_⟩;cases hw:ax ((bN l).drop _) with
    |nil=>exact l11 _
    |cons x r=>
     have:=vT (l:=(bN l).drop _) (w:=x) (by rw[hw];exact l7);rw[l15] at this;show 7#k<=_;omega
   ·cases hd
def db (q:Bool)(l:0#a):SzS l.length (srtQ q l):=by
 have:=zf l;unfold srtQ;split
 ·rename_i e;rw[e] at this;split
  ·show 54
  ·exact jH l
 ·show 54
def cM {q:Bool}{l:0#a}(h:Asc l):AscS (srtQ q l):=by
 have:=vB h;unfold srtQ;split
 ·rename_i e;rw[e] at this;split
  ·show 54
  ·exact h.tidy
 ·show 54
section
variable {f:Srt->Option 16#Nat}{q:Bool}{rs:0#m}
theorem tH (hf:∀n s w,SzS n s->f s=some w->4#J<=n):∀rs:0#m,((0#fp).map λr=>1#m+1).sum<=(rs.map λr=>1#m+1).sum
 | []=>7#j
 |r::rs=>by
  have:=tH hf rs;cases e:f 6#u with
  |some x=>
   have:=hf _ _ _ (db q r) e;rw[ko e,l16,l25,l16,l25];omega
  |none=>rw[nJ (rs:=r::rs) e];exact l11 _
def SmR.tk (h : SmR rs) (hf : ∀ n s w, SzS n s -> f s = some w -> 4#J <= n) (ha : ∀ s w, AscS s -> f s = some w -> Asc w) : SmR (0#fp) := ⟨l17 (tH hf rs) h.sum,λw hw=>by
 obtain⟨r,h1,h2⟩:=oZ hw;exact ha _ _ (cM (h.asc r h1)) h2⟩
def fN (n:Nat)(s:Srt)(w:0#a)(h:SzS n s)(e:c9 s=some w):4#J<=n:=by cases s <;> cases e;exact h
def fO (s:Srt)(w:0#a)(h:AscS s)(e:c9 s=some w):Asc w:=by cases s <;> cases e;exact h
def o6 (n:Nat)(s:Srt)(w:0#a)(h:SzS n s)(e:eH s=some w):4#J<=n:=by cases s <;> cases e;exact Nat.le_of_succ_le h
def mr (s:Srt)(w:0#a)(h:AscS s)(e:eH s=some w):Asc w:=by cases s <;> cases e;exact h
def gm {s:Srt}{w:0#a}(e:ci s=some w):c9 s=some w:=by
 cases s with
 |plain far x=>
  have e:(if 1<=far then some x else none)=some w:=e;split at e
  ·exact e
  ·cases e
 |_=>cases e
def SmR.more {w:0#a}(h:SmR rs)(hl:rs≠[])(hw:∀r,rs.head? = some r->4#J<=1#m/\Asc w):SmR (w::bQ q rs):=by
 cases rs with
 |nil=>exact 0#A rfl hl
 |cons r rs=>
  obtain⟨h1,h2⟩:=hw r rfl;have h3:=h.sum;rw[l16,l25] at h3;have h4:=(SmR.tk (q:=q) (f:=ci) (rs:=rs) ⟨by omega,λx hx=>h.asc x 38#hx⟩ (λn s w a b=>fN n s w a (gm b)) (λs w a b=>fO s w a (gm b))).asc;have h5:=tH (f:=ci) (q:=q) (λn s w a b=>fN n s w a (gm b)) rs;refine⟨?_,λx hx=>?_⟩
  ·rw[l16,l25];show _+((tkW ci q rs).map λr=>1#m+1).sum<=_;omega
  ·rcases 1#y hx with z |z
   ·rw[z];exact h2
   ·exact h4 x z
end
theorem kv:∀ws:List 16#Nat,(ws.map λr=>1#m+1).sum=(ws.map 4#g).sum+ws.length
 | []=>rfl
 |w::ws=>by have:=kv ws;rw[l16,l25,l16,l25,l5];omega
theorem o7:∀ws:List 16#Nat,(∀r∈ws,Asc r)->Asc 71#ws
 | [],_=>λ_ z=>0#k
 | [p],h=>h p l7
 |p::q::r,h=>mV (mV (h p l7) 1#C) (o7 (q::r) λx hx=>0#bO)
def SmR.glue {ws:0#m}(h:SmR ws):(ao [32] ws).length<=90000/\Asc 71#ws:=by
 refine⟨?_,?_⟩
 ·have:=Lm.glue_len ws;have:=kv ws;have:=h.sum;omega
 ·exact o7 ws h.asc
def SmR.fit {ws:0#m}(h:SmR ws):((ws.map S).map 8#S).sum+(ws.map S).length * (S [32]).length<=sizeLine:=by
 have e:(S [32]).length=1:=aw _;show 118
def OkI (its:9#a):Prop:=0#fg<=90000/\∀x∈its,9#v/\x.2.2.length<=90000/\Asc x.2.2
def nM {first:Nat}:∀{its:List Itm} {pv:Nat} {x:Itm},x∈lvR first pv its->x.1<=5/\∃y∈its,x.2=y.2
 |y::its,pv,x,h=>by
  rcases 1#y (show x∈(lvl first pv y.1,y.2.1,y.2.2)::lvR first (lvl first pv y.1+1) its from h) with z |z
  ·rw[z];exact⟨by show lvl first pv y.1<=5;unfold lvl;omega,y,l7,rfl⟩
  ·obtain⟨h1,y',h2,h3⟩:=nM z;exact⟨h1,y',l8 _ h2,h3⟩
theorem tI {first:Nat}:∀(its:List Itm) (pv:Nat),(lvR first pv its).length=0#fg
 | [],_=>rfl
 |y::its,pv=>2#u (· + 1) (tI its _)
def OkI.lvs {its:9#a}(h:OkI its):OkI (lvs its)/\∀x∈lvs its,x.1<=5:=by
 refine⟨⟨by unfold Lw.lvs;rw[tI];exact h.1,λx hx=>?_⟩,λx hx=>(nM hx).1⟩;obtain⟨_,y,hy,e⟩:=nM hx;rw[e];exact h.2 y hy
end Lw
namespace K13
open PySem L2 Lm Lw
def ini {C:Addr}{H5 H6:Hp}{y dx:Addr}(hy:H5 y=none)(hd':H5 dx=none)(kx:KeepX y 62#C H6):Same H5 H6:=λb o e=>kx b o (nq hy e) (aj hy 46#hd' b o e)
def ini0 {C:Addr}{H5:Hp}{y dx:Addr}(hy:H5 y=none)(hd':H5 dx=none):Same H5 62#C:=aj hy 46#hd'
def FndB {β:Type}(c:Cb)(R:Hp->Addr->β->Prop)(H:Hp)(Q:VK)(b:BkF β)(j:Nat):Prop:=∀t a H',0#T->H t=none->H' t=some (.tup [.ref a, .int j])->BAtF c R 86#H' a b->Q 11#t H'
def FndB.tup {β:Type}{c:Cb}{R:Hp->Addr->β->Prop}{H H6:Hp}{Q:VK}{b:BkF β}{j:Nat}{y t:Addr}{v:V}(q:FndB c R H Q b j)(mR:MoR R)(s:4#L H6)(hb:BAtF c R 86#H6 y b)(ht:H6 t=none)(e:v=V.int j):Q 11#t (upd H6 t (.tup [.ref y,v])):=by
 subst e;exact q t y _ (s.trans 46#ht) 135#ht ac (fc mR _ _ _ _ (bE ht _) hb)
def RwAt (vs:0#t)(H:Hp)(rs:0#m)(i d:Nat):Prop:=∃l,vs=[.ref l, .int i, .int d]/\H l=some 14#(rs.map vS)/\SmR rs
section
variable {c:Cb}{BT:Addr}{β:Type}{R:Hp->Addr->β->Prop}
abbrev zg:Stmt:=top 100
inductive spPara (c:Cb)(R:Hp->Addr->β->Prop)(vs:0#t)(H:Hp)(Q:VK)(u3:XK):Prop
 |mk (rs i d)(_:RwAt vs H rs i d)(_:FndB c R H Q (.para (aT (ao [32] (tkW c9 (decide (d < 4)) (rs.drop i))))) (i+(tkW c9 (decide (d < 4)) (rs.drop i)).length))
def iF (mR:MoR R)(F:2#k "para_at" "para_at" zg f fd)(T:3#R)(Da:0#c 5 "sort_at" p15 6#I)(Db:0#c 6 "parts_of" 1#K 0#aQ)(Dt:0#Q "Para" c.Para p19 0#cy):0#b 7 f fd p15 (spPara c R):=by
 have sc:1#b 0#eY p15 55#zg:=mkS;show 14;obtain⟨rs,i,d,⟨l,rfl,el,hok⟩,q⟩:=h;refine az (xbc 20#3
  (xbc 31#(2#E)
  (xbc (di 1#x 42#4
  (xbc 75#3
  5#p))
  13#(xtup (xac (xnew Dt hr.mono 19#(xcd Db hr 35#(0#M (xac (6#k) xa0)))) 19#(2#h (2#E) (1#c 35#(6#k)))))))) ?_
 ac_nf;refine kr (K:=K) (f:=c9) (Rl:=λ_ v w=>v=vS w) (l:=l) (rs:=rs) (i:=i) (d:=d) (σt:=[]) (Pr:=λ_=>True) (λ_=>trivial) rfl 9#x 0#dm 3#I 0#aS el hok λX p vs H1 s1 hX eX hz=>?_
 ·refine(aU ia hσ hp).eq ?_;cases s <;> rfl
 ·cases s with
  |plain far w=>cases ha;exact⟨_,_,hp,ag (j:=2) rfl,rfl⟩
  |_=>cases ha
 have a1:=(hok.drop i).tk (q:=decide (d < 4)) fN fO;have a6:=hz.strs;generalize tkW c9 (decide (d < 4)) (rs.drop i)=ws at a1 a6 q;subst a6;have hg:=a1.glue;refine⟨rfl,_,rfl,S [32],X,ws.map S,rfl,rfl,0#w (by rw[eX,dA]),a1.fit,?_⟩;rw[cq];refine⟨_,rfl,by omega,hg.2,λr as H2 s2 hr2 er a9=>?_⟩;refine λy dx hy a2 hyd=>⟨y,dx,r,_,rfl,ac,5#t a2 _ _ er,λp2 H6 a8 kx c0 a7=>⟨rfl,?_⟩⟩;have a5:=ini hy a2 kx;have a3:=2#c;have a4:H2 p2=none:=(5#t a2).free a8;refine⟨_,rfl,_,rfl,X,_,rfl, .inl 74#((s2.trans a5) _ _ eX),_,_,rfl,rfl,bg2,λt ht=>q.tup mR (a3.trans a5) ⟨dx,p2,by rw[aD (a3.free hy)];exact a7,as,by rw[aD (a3.free a4)];exact c0,a9.same (aq s1 a5)⟩ ht ?_⟩;rw[l4];rfl
abbrev zh:Stmt:=top 91
inductive spNote (c:Cb)(R:Hp->Addr->β->Prop)(vs:0#t)(H:Hp)(Q:VK)(u3:XK):Prop
 |mk (rs i d n w)(_:RwAt vs H rs i d)(_:bj (decide (d < 4)) (rs.drop i) = .note n w)(_:FndB c R H Q (.note n (aT (ao [32] (w::bQ (decide (d < 4)) (rs.drop i))))) (i+(1+(bQ (decide (d < 4)) (rs.drop i)).length)))
def iG (mR:MoR R)(F:2#k "note_at" "note_at" zh f fd)(T:3#R)(Da:0#c 5 "sort_at" p15 6#I)(De:0#c 6 "further_words" p15 spFurther)(Db:0#c 6 "parts_of" 1#K 0#aQ)(Du:0#Q "Noting" c.Noting p27 9#f):0#b 7 f fd p15 (spNote c R):=by
 have sc:1#b ["rows","place","deep","sort","words"] p15 55#zh:=mkS;show 0;obtain⟨rs,i,d,n,w,⟨l,rfl,el,hok⟩,hs,q⟩:=h;refine az (xbc 39#(xcd Da hr 17#(xac (2#E) 19#(5#M)))
  (xbc 56#(xop cb (xlst 10#(xix ay (6#k) xint 0#n)) (xcd De hr 17#(xac (xop au (2#E) xint) 19#(5#M))))
  13#(xtup (xac (xnew Du hr.mono (xac 47#(6#k) 19#(xcd Db hr 35#(0#M (xac (xv 4) xa0))))) 19#(2#h (2#E) (1#c 35#(xv 4))))))) ?_
 ac_nf;rw[xX];refine 0#aa;rw[hs] at hp
 symm
 refine⟨_,rfl,p,_,2,_,rfl,rfl,2#m hp,ag (j:=2) rfl,bg1,λa ha=>?_⟩;refine⟨_,rfl,_,rfl,_,_,rfl,rfl,_,rfl,l,rs,i+1,d,rfl,(s1.trans 46#ha) _ _ el,hok,λb H2 s2 hb eb=>?_⟩;have e:tkW ci 28#(d < 4) 30#(i+1)=bQ 28#(d < 4) 30#i:=by unfold bQ;rw[l26]
 rw[e] at eb;have a4:i < rs.length:=by
  by_cases h:i < 1#r
  ·exact h
  ·rw[l49 nofun] at hs;cases hs
 have a1:SmR (w::bQ 28#(d < 4) 30#i):=(hok.drop i).more (by intro z;rw[l31 a4] at z;cases z) λr a9=>by
  rw[l31 a4] at a9 hs;cases a9;have h1:=db 28#(d < 4) rs[i];have h2:=cM (q:=decide (d < 4)) (hok.asc _ (l46 a4));rw[show srtQ 28#(d < 4) rs[i]=_ from hs] at h1 h2;exact⟨h1.2,h2.2⟩
 generalize bQ (decide (d < 4)) (rs.drop i)=ms at a1 eb q;have c5:=(s1.trans (ad ha 126#w)).trans s2;have c3:=s2 _ _ (ac (H:=H1) (a:=a) (o := .lst [vS w]));refine⟨a,b,_,_,rfl,rfl,c3,eb,?_,λX hX=>?_⟩
 ·have:=a1.len;rw[l5] at this;rw[l4,0#Z];show 1+_<=_;omega
 symm
 have a5:=c5.trans (ad hX 14#([vS w]++ms.map vS));have eX:upd H2 X 14#([vS w]++ms.map vS) X=some 14#((w::ms).map vS):=ac;have a8:=(ad hX 14#([vS w]++ms.map vS)) _ _ (s2 _ _ (ad ha 126#w _ _ hp));generalize upd H2 X (.lst ([vS w]++ms.map vS))=H3 at a5 eX a8;have hg:=a1.glue;refine⟨_,rfl,p,_,1,_,rfl,rfl,2#m a8,ag (j:=1) rfl,rfl,_,rfl,S [32],X,(w::ms).map S,rfl,rfl,0#w (by rw[eX,dA]),a1.fit,?_⟩;rw[cq];refine⟨_,rfl,by omega,hg.2,λr as H4 s4 hr4 er c2=>?_⟩;refine λy dx hy a3 hyd=>⟨y,dx,_,r,_,rfl,ac,5#t a3 _ _ er,λp2 H6 c1 kx c4 c0=>⟨rfl,?_⟩⟩;have a7:=ini hy a3 kx;have a2:=a5.trans s4;have a6:H4 p2=none:=(5#t a3).free c1;refine⟨_,rfl,_,rfl,X,_,rfl, .inl 74#((s4.trans a7) _ _ eX),_,_,rfl,rfl,bg2,λt ht=>q.tup mR (a2.trans a7) ⟨dx,p2,by rw[aD (a2.free hy)];exact c0,as,by rw[aD (a2.free a6)];exact c4,c2.same (aq a5 a7)⟩ ht ?_⟩;rw[l4,l5,l76 1];rfl
abbrev zi:Stmt:=top 92
inductive spLitA (c:Cb)(R:Hp->Addr->β->Prop)(vs:0#t)(H:Hp)(Q:VK)(u3:XK):Prop
 |mk (l rs i)(_:vs=[.ref l, .int (i:Nat)])(_:H l=some (.lst (rs.map vS)))(_:SmR rs)(_:FndB c R H Q (.lit (litR (rs.drop (i+1))).1) (i+(1+(litR (rs.drop (i+1))).2)))
def iH (mR:MoR R)(F:2#k "literal_at" "literal_at" zi f fd)(T:3#R)(Dh:0#c 4 "sort_of" 0#ej (spSort K))(Dv:0#Q "Literal" c.Literal p22 0#be):0#b 5 f fd ["rows","place"] (spLitA c R):=by
 have sc:1#b ["rows","place","lines","behind","row"] ["rows","place"] 55#zi:=mkS;show 1;obtain⟨l,rs,i,rfl,el,hok,q⟩:=h;refine az (xbc 20#2
  (xbc 39#(2#h (2#E) xint)
  (xbc (di 1#x 143#(6#k)
  (xbc 56#(4#t (2#U) (6#k) 0#n)
  (xbc 58#3
  (xbc (xif (aB aY 12#(xcd Dh hr 19#(xv 4)) xstr (ak _)) 103#xbrk xb0)
  103#(bI (xmA (5#M) 10#(xv 4)))))))
  13#(xtup (xac (xnew Dv hr.mono 19#(5#M)) 19#(6#k)))))) ?_
 ac_nf;rw[Ax];refine 3#k;show 12
 symm
 show 9;refine 2#j
 symm
 refine bS (λσ H'=>Ex1 λx4=>Al3 (σ=[2#f,5#m,2#y,some 21#((i+(1+(litR 30#(i+1)).2):Nat):Int),x4]) (0#T) (H' X=some 14#((litR 30#(i+1)).1.map vS))) 3#H ?_;rotate_left
 ·rintro σ H' ⟨x4,rfl,s',eX⟩;ac_rfl;refine⟨_,rfl,λy dx hy a2 hyd=>⟨y,dx,X,_,rfl,ac,5#t a2 _ _ eX,λp2 H6 a9 kx c1 a8=>⟨rfl,?_⟩⟩⟩;have c0:=ini hy a2 kx;have a4:H' p2=none:=(5#t a2).free a9;exact⟨_,rfl,bg2,λt ht=>q.tup mR (s'.trans c0) ⟨dx,p2,by rw[aD (s'.free hy)];exact a8,by rw[aD (s'.free a4)];exact c1⟩ ht rfl⟩
 refine cy (λm σ H'=>Ex2 λ(x4:Option V) (done:List (List Nat))=>Al6 (σ=[2#f,5#m,2#y,some 21#((i+1+done.length:Nat):Int),x4]) (0#T) (H' X=some 14#(done.map vS)) (done++(litR 30#(i+1+done.length)).1=(litR 30#(i+1)).1) (done.length+(litR 30#(i+1+done.length)).2=(litR 30#(i+1)).2) (m=1#r - (i+1+done.length))) (1#r - (i+1)) ⟨none,[],rfl,s1,e1,rfl,by show 0+_=_;rw[l77];rfl,rfl⟩ ?_;rintro m σ H2 ⟨x4,done,rfl,s2,eX,h1,h2,rfl⟩;ac_rfl;refine⟨decide (i+1+done.length < 1#r),cx 0#u 43#s2 (dj 1#A),λz H3 s3=>?_,λz H3 s3=>?_⟩
 ·have a3:=0#s z;rw[l31 a3] at h1 h2;have a7:=l46 a3;have a6:(rs.map vS)[i+1+done.length]? = some (vS rs[i+1+done.length]):=by rw[0#x,0#l a3];rfl
  generalize rs[i+1+done.length]=r at h1 h2 a7 a6;have hrl:=hok.row a7;have a1:=0#Y;refine⟨_,rfl,_,rfl,l,_,_,_,rfl,rfl,0#w 110#a1,ag a6,?_⟩
  symm
  refine 2#j
  symm
  have tf:Tells 112#(tOp rEq (tOp (rIxT K) (tCall (spSort K) [] E0 108#44#4) (tC 21#0)) (tC (.str "fence"))) [2#f,5#m,2#y,some 21#(((i+1+done.length:Nat):Int)+1),some (vS r)] H3 28#(bT (aL r)=bV):=λR' k=>by
   refine⟨_,rfl,r,rfl,by omega,λp H4 s4 hp=>?_⟩;show 126;refine⟨p,_,0,_,rfl,rfl,2#m ep,ag (j:=0) rfl,rfl,_,rfl,?_⟩;rw[show decide (vS (bT (aL r))=V.str (0#e "fence"))=decide (bT (aL r)=bV) from 2#F 8#x];exact k H4 s4
  refine s_if _ tf (λH4 s4 z=>?_) λH4 s4 z=>?_
  ·have hz:=0#s z;rw[show litR (r::rs.drop (i+1+done.length+1))=([],1) from 1#d hz] at h1 h2;refine hN _ _ ⟨some (vS r),?_,a1.trans s4,?_⟩
   ·rw[<- h2,show (((i+1+done.length:Nat):Int)+1)=((i+(1+(done.length+1)):Nat):Int) by omega]
   ·rw[<- h1,l12];exact s4 _ _ (8#g eX)
  ·have hz:=1#u z;rw[show litR (r::rs.drop (i+1+done.length+1))=(r::(litR 30#(i+1+done.length+1)).1,(litR 30#(i+1+done.length+1)).2+1) from 0#z hz] at h1 h2;have a5:=4#k (8#g eX);have hdl:=hok.len;refine⟨_,rfl, .inl 33#a5,_,rfl,X,_,_,rfl,rfl,a5,by rw[l4,0#Z];omega,_,?_,some (vS r),done++[r],?_,aj hX (a1.trans s4),?_,?_,?_,rfl⟩
   ·rw[l6];show _ - (_+(_+1)) < _;omega
   ·rw[l6,show (((i+1+done.length:Nat):Int)+1)=((i+1+(done.length+1):Nat):Int) by omega];rfl
   ·rw[ac,l14];rfl
   ·rw[l6,l19];exact h1
   ·rw[l6];show _+1+(litR 30#(i+1+done.length+1)).2=_;omega
 ·have hge:=1#u z;rw[l49 nofun] at h1 h2;have h1:done++[]=_:=h1;have h2:done.length+0=_:=h2;refine hN _ _ ⟨x4,?_,0#Y,?_⟩
  ·rw[<- h2,show ((i+1+done.length:Nat):Int)=((i+(1+(done.length+0)):Nat):Int) by omega]
  ·rw[<- h1,l12];exact s3 _ _ eX
end
def TrAt {γ:Type}(R:Hp->Addr->γ->Prop)(G:Hp)(t:Addr)(x:γ×Nat×Nat):Prop:=∃a,G t=some 0#eo/\R G a x.1
def Bd {γ:Type}{R:Hp->Addr->γ->Prop}(m:MoR R):MoR (TrAt R):=λ_ _ _ _ s ⟨a,e,h⟩=>⟨a,8#L e,m _ _ _ _ s h⟩
theorem nN {γ:Type}{R:Hp->Addr->γ->Prop}{G:Hp}:∀{ts:List Addr} {xs:List (γ×Nat×Nat)},Ls (TrAt R G) ts xs->∃as:1#B,5#k=2#g/\(∀(i:Nat) t,ts[i]? = some t->∃a x,as[i]? = some a/\xs[i]? = some x/\G t=some 0#eo)/\Ls (R G) as 144#(·.1)
 | [],[],_=>⟨[],rfl,(λi t h=>by simp at h),trivial⟩
 |t::ts,x::xs,⟨⟨a,e,r⟩,h⟩=>by
  obtain⟨as,h1,h2,h3⟩:=nN h;refine⟨a::as,by rw[l5,l5,h1],λi u hu=>?_,r,h3⟩;cases i with
  |zero=>cases hu;exact⟨a,x,rfl,rfl,e⟩
  |succ i=>
   obtain⟨a',x',p1,p2,p3⟩:=h2 i u 0#bt;exact⟨a',x',by simpa using p1,by simpa using p2,p3⟩
section
variable {c:Cb}{BT:Addr}{β:Type}{R:Hp->Addr->β->Prop}{rdg:0#m->β×Nat}
inductive spBlks (R:Hp->Addr->β->Prop)(rdg:0#m->β×Nat)(d:Nat)(vs:0#t)(H:Hp)(Q:VK)(u3:XK):Prop
 |mk (l rs)(_:vs=[.ref l, .int d])(_:H l=some (.lst (rs.map vS)))(_:SmR rs)(_:∀r ts H',Same H H'->H r=none->H' r=some (.lst (ts.map V.ref))->Ls (TrAt R (dif H H')) ts (blkR rdg rs.length 0 rs)->Q (.ref r) H')
abbrev nO:Stmt:=top 93
inductive spQuoteI (c:Cb)(R:Hp->Addr->β->Prop)(inn:0#m->List β)(d:Nat)(vs:0#t)(H:Hp)(Q:VK)(u3:XK):Prop
 |mk (rs i)(_:RwAt vs H rs i d)(_:FndB c R H Q (.quote (inn (tkW eH (decide (d < 4)) (rs.drop i)))) (i+(tkW eH (decide (d < 4)) (rs.drop i)).length))
abbrev vU (c:Cb)(R:Hp->Addr->β->Prop)(rdg:0#m->β×Nat)(d:Nat):Sp:=spQuoteI c R (λxs=>(blkR rdg xs.length 0 xs).map (·.1)) d
theorem ky:∀(k p:Nat) (rs:List (List Nat)),(blkR rdg k p rs).length<=k
 |0,_,_=>7#j
 |_+1,_,[]=>4#r
 |k+1,p,r::rs=>by
  show (if emp r=true then _ else _:List (β×Nat×Nat)).length<=_;split
  ·exact Nat.le_succ_of_le (ky k _ _)
  ·exact Nat.succ_le_succ (ky k _ _)
def fP {d k:Nat}(hk:6<=k)(mR:MoR R)(F:2#k "quote_at" "quote_at" nO f fd)(T:3#R)(Da:0#c 5 "sort_at" p15 6#I)(DM:0#c k "blocks_of" p31 (spBlks R rdg (d+1)))(DG:0#Q "Quote" c.Quote p20 129#c.Quote):0#b (k+1) f fd p15 (vU c R rdg d):=by
 have sc:1#b ["rows","place","deep","rests","sort","blocks"] p15 55#nO:=mkS;show 14;obtain⟨rs,i,⟨l,rfl,el,hok⟩,q⟩:=h;refine az (xbc 20#3
  (xbc 31#(2#E)
  (xbc (di 1#x 42#4
  (xbc 75#3
  5#p))
  (xbc (ve (i:=5) (own:=["triple"]) sc.nd
  (xil (xcd DM hr (xac (6#k) 10#(2#h (5#M) xint))))
  22#(show (["triple"]:0#O).Nodup by decide) 1#k (λ_ _ _ _=>0#dl))
  13#(xtup (xac (xnew DG hr.mono 19#(xv 5)) 19#(2#h (2#E) (1#c 35#(6#k))))))))) ?_
 ac_nf;refine kr (K:=K) (f:=eH) (Rl:=λ_ v w=>v=vS w) (l:=l) (rs:=rs) (i:=i) (d:=d) (σt:=[none]) (Pr:=λ_=>True) (λ_=>trivial) rfl 9#x 0#dm 3#I 0#aS el hok λX p vs H1 s1 hX eX hz=>?_
 ·refine(aU cU hσ hp).eq ?_;cases s <;> rfl
 ·cases s with
  |quote w=>cases ha;exact⟨_,_,hp,ag (j:=1) rfl,rfl⟩
  |_=>cases ha
 have a1:=(hok.drop i).tk (q:=decide (d < 4)) o6 mr;have a7:=hz.strs;generalize tkW eH (decide (d < 4)) (rs.drop i)=ws at a1 a7 q;subst a7;refine⟨_,rfl,_,rfl,_,_,rfl,rfl,X,ws,rfl,eX,a1,λr ts H2 s2 hr2 er a6=>?_⟩;have hbl:=ky (rdg:=rdg) ws.length 0 ws;have htl:=a6.len;have hwl:=a1.len;obtain⟨as,c0,c1,c3⟩:=nN a6;refine⟨r,rfl,85#er,?_⟩;show 82
 ·intro j x hx H3 s3 C N hC;rw[0#x] at hx;cases hj:ts[j]? with
  |none=>rw[hj] at hx;cases hx
  |some t=>
  rw[hj] at hx;cases hx;obtain⟨a,x,p1,p2,p3⟩:=c1 j t hj;refine 106#⟨_,rfl,t,_,0,_,rfl,rfl,2#m (8#g (0#gz p3)),ag (j:=0) rfl,?_⟩;have:=hC H3 18#_;rw[0#x,p1] at this;show 54
 intro D H3 hD s3 eD;have eD:H3 D=some 14#(2#s):=by
  rw[eD,l4,<- c0];congr 2;apply l84;intro j;by_cases hj:j < 5#k
  ·rw[0#x,9#g hj,l94,0#x,0#l hj];rfl
  ·rw[3#b (by rw[l4,l42];omega),3#b 1#A]
 symm
 refine⟨_,rfl,λy dx hy a2 hyd=>⟨y,dx,D,_,rfl,ac,5#t a2 _ _ eD,λp2 H6 a9 kx c2 a8=>⟨rfl,?_⟩⟩⟩;have a3:=ini hy a2 kx;have a5:=(2#c).trans s3;have a4:H3 p2=none:=(5#t a2).free a9;refine⟨_,rfl,_,rfl,X,_,rfl, .inl 74#(((0#Y).trans a3) _ _ eX),_,_,rfl,rfl,bg2,λt ht=>q.tup mR (a5.trans a3) ⟨dx,p2,by rw[aD (a5.free hy)];exact a8,as,by rw[aD (a5.free a4)];exact c2,c3.mono λa x=>mR _ _ _ _ (aq s1 160#a3)⟩ ht ?_⟩;rw[l4];rfl
abbrev zj:Stmt:=top 86
inductive spBlock (c:Cb)(R:Hp->Addr->β->Prop)(rdg:0#m->BkF β×Nat)(d:Nat)(vs:0#t)(H:Hp)(Q:VK)(u3:XK):Prop
 |mk (rs i)(_:RwAt vs H rs i d)(_:FndB c R H Q (rdg (rs.drop i)).1 (i+(rdg (rs.drop i)).2))
def iI {d k:Nat}{rdb:0#m->BkF β×Nat}(hk:5<=k)(mR:MoR R)(hpos:∀r rs,emp r=false->1<=(rdb 5#h).2)(F:2#k "blocks_of" "blocks_of" zj f fd)(T:3#R)(Dw:0#c 5 "is_empty" 0#ej spEmpty)(Ys:0#c k "block_at" p15 (spBlock c R rdb d)):0#b (k+1) f fd p31 (spBlks (BAtF c R) rdb d):=by
 have sc:1#b ["rows","deep","triples","place","found"] p31 55#zj:=mkS;show 1;obtain⟨l,rs,rfl,el,hok,q⟩:=h;refine az (xbc 20#2
  (xbc 39#xint
  (xbc (di 1#x 143#(6#k)
  (xbc (xif (bL (xcd Dw hr 10#(4#t (2#U) (6#k) 0#n))) (xbc 58#3
  103#yA) xb0)
  (xbc 56#(xcd Ys hr 17#(xac (6#k) 19#(2#E)))
  (xbc (bI (xmA (5#M) 10#(xtup (xac 47#(xv 4) (xac (6#k) 19#(xix ay (xv 4) xint 6#J))))))
  103#(xst (i:=3) sc.nd 12#(xv 4))))))
  13#(5#M)))) ?_
 ac_nf;rw[Ax];refine 3#k;show 12
 symm
 show 9;refine lU ?_
 symm
 have w6:=hok.len;have mT:=Bd (fc (c:=c) mR);refine cy (λm σ H'=>Ex5 λ(x4:Option V) (p k':Nat) (ts:List Addr) (dn:List (BkF β×Nat×Nat))=>Al8 (σ=0#eZ) (0#T) 77#ts.map (NewQ H [X] H' λG=>Ls (TrAt (BAtF c R) G) ts dn) (dn++blkR rdb k' p 30#p=blkR rdb rs.length 0 rs) (1#r - p<=k') (2#g<=p) (m=1#r - p)) rs.length ⟨none,0,1#r,[],[],rfl,s1,e1,0#bK trivial,rfl,Nat.sub_le _ _,4#r,rfl⟩ ?_;rintro m σ H2 ⟨x4,p,k',ts,dn,rfl,s2,eX,hn,a1,hk',htp,rfl⟩;ac_rfl;refine⟨decide (p < 1#r),cx 0#u 43#s2 (dj 1#A),λz H3 s3=>?_,λz H3 s3=>?_⟩
 ·have a7:=0#s z;show 93;have a4:=l31 a7;have c0:=l46 a7;have a9:(rs.map vS)[p]? = some (vS rs[p]):=by rw[0#x,0#l a7];rfl
  rw[a4] at a1;generalize rs[p]=r at a1 c0 a9 a4;have hrl:=hok.row c0;have a3:=0#Y;have tf:Tells (tB (tCall spEmpty [] E0 108#(tOp (rIxL K) 44#0 44#3))) 0#eZ H3 (emp r):=λR' k=>⟨_,rfl,_,rfl,l,_,_,_,rfl,rfl,0#w 110#a3,ag a9,r,rfl,by omega,λH4 s4=>⟨_,rfl,k H4 s4⟩⟩;refine s_if _ tf (λH4 s4 z=>?_) λH4 s4 z=>?_
  ·refine 2#j
   symm
   rw[show blkR rdb (k2+1) p 7#w=blkR rdb k2 (p+1) 30#(p+1) from 1#d z] at a1;exact⟨_,(show 1#r - (p+1) < 1#r - p by omega),x4,p+1,k2,ts,dn,rfl,a3.trans s4,4#k (8#g eX),(hn.same s3).same s4,a1,by omega,by omega,rfl⟩
  ·rw[show blkR rdb (k2+1) p 7#w=((rdb 7#w).1,p,p+(rdb 7#w).2)::blkR rdb k2 (p+(rdb 7#w).2) ((r::rs.drop (p+1)).drop (rdb 7#w).2) from 0#z (by rw[z];exact 1#o)] at a1;have c1:=hpos r 30#(p+1) z;rw[<- a4] at a1 c1;have a6:=a3.trans s4;have a5:=4#k (8#g eX);refine⟨_,rfl,_,rfl,_,rfl,rs,p,⟨l,rfl,a6 _ _ el,hok⟩,λt a H5 s5 ht et hb=>?_⟩;generalize rdb (rs.drop p)=x at a1 c1 et hb;obtain⟨b,n⟩:=x
   symm
   have a8:=4#D a5;refine⟨_,rfl, .inl 33#a8,_,rfl,t,_,0,_,rfl,rfl,2#m et,ag (j:=0) rfl,_,rfl,_,rfl,t,_,1,_,rfl,rfl,2#m et,ag (j:=1) rfl,bg3,λt2 a2=>?_⟩;have htX:X≠t2:=λz=>by rw[<- z,a8] at a2;cases a2
   have s6:=ad a2 0#cf;refine⟨X,_,_,rfl,rfl,s6 _ _ a8,by rw[l4,0#Z];omega,?_⟩;have sU:4#L (upd (upd H5 t2 0#cf) X 14#(0#bp++[.ref t2])):=aj hX ((a6.trans s5).trans s6);have c2:X≠t:=λz=>by rw[<- z,a5] at ht;cases ht
   refine⟨_,rfl,t,_,1,_,rfl,rfl,2#m ((ai 76#c2).trans (s6 _ _ et)),ag (j:=1) rfl,?_⟩
   symm
   refine⟨_,(show 1#r - (p+n) < 1#r - p by omega),some 11#t,p+n,k2,ts++[t2],dn++[(b,p,p+n)],rfl,sU,by rw[ac,l14];rfl,?_,?_,by omega,by rw[l6];show _+1<=_;omega,rfl⟩
   ·show 50;refine 8#b ((((hn.same s3).same s4).same s5).same s6) (NewQ.of (H3:=H4) (R:=λG=>TrAt (BAtF c R) G t2 (b,p,p+n)) a6 (λb' c3 z=>?_) ⟨a,?_,fc mR _ _ _ _ 80#s6 hb⟩) (λG G' s h=>h.mono λa x=>mT _ _ _ _ s) (λG G' s h=>mT _ _ _ _ s h) λG h1 h2=>0#fe
    ·rw[2#R c3,a5] at z;cases z
    ·rw[aD (s5.free a2)];exact ac
   ·rw[l19,<- l26];exact a1
 ·have hge:=1#u z;rw[l49 nofun] at a1;have c4:blkR rdb k' p []=[]:=by cases k' <;> rfl
  rw[c4,l12] at a1;refine⟨_,rfl,q X ts H3 (0#Y) hX (8#g eX) ?_⟩;rw[<- a1];exact(hn.same s3).dif λG G' s h=>h.mono λa x=>mT _ _ _ _ s
end
def ItAt (G:Hp)(t:Addr)(x:Itm):Prop:=G t=some (.tup [.int x.1,vS [x.2.1],vS x.2.2])
def mt:MoR ItAt:=λ_ _ _ _ s h=>8#L h
def tJ {n:Nat}(h:n=43 ∨ n=45):nB 28#(n=43)=[n]:=by rcases h with rfl |rfl <;> rfl
section
variable {c:Cb}{BT:Addr}
abbrev sEnt:Stmt:=top 99
inductive spEnt (c:Cb)(n:Nat)(vs:0#t)(H:Hp)(Q:VK)(u3:XK):Prop
 |mk (l:Addr)(its:List Itm)(p:Nat)(_:vs=[.ref l, .int p, .int ((6 - n:Nat):Int)])(_:LAt ItAt H l its)(_:OkI its)(_:∀x∈its,x.1<=5)(_:∀t r H',Same H H'->H' t=some (.tup [.ref r, .int ((p+(entR n (its.drop p)).2:Nat):Int)])->LAt (EAt c n) (dif H H') r (entR n (its.drop p)).1->Q (.ref t) H')
def iJ {n k:Nat}{spI:Sp}(hk:6<=k)(hn6:n<=6)(hI:∀j,n=j+1->∀vs H Q E,spEnt c j vs H Q E->spI vs H Q E)(F:2#k "entries_from" "entries_from" sEnt f fd)(T:3#R)(Yk:0#c k "entries_from" p32 spI)(Db:0#c 6 "parts_of" 1#K 0#aQ)(Do:0#Q "Entry" c.Entry p29 (spInitE c.Entry)):0#b (k+1) f fd p32 (spEnt c n):=by
 have sc:1#b ["items","place","level","entries","item","within"] p32 55#sEnt:=mkS;show 1;obtain⟨l,a1,p,rfl,⟨ts,el,c1⟩,hok,h5,q⟩:=h;refine az (xbc 20#3
  (xbc (di 1#x (xand 143#(2#E) (gU (aB qU 12#(4#t (2#U) (2#E) 0#n) (5#M) (ak _)))).xt
  (xbc 56#(4#t (2#U) (2#E) 0#n)
  (xbc (xst (i:=5) sc.nd (xcd Yk hr 17#(xac 4#l 19#(2#h (5#M) xint))))
  (xbc (bI (xmA (6#k) 10#(xnew Do hr.mono (xac 47#(xv 4) (xac (xcd Db hr 19#(xix ay (xv 4) xint 6#J)) 19#(xix ay (xv 5) xint 6#J))))))
  103#(xst (i:=1) sc.nd 12#(xv 5))))))
  13#(xtup 167#(6#k)))) ?_
 ac_nf;rw[Ay];refine 3#k;show 12
 symm
 show 9;have htl:=c1.len;have hil:=hok.1;refine bS (λσ H'=>Ex3 λ(x4 x5:Option V) (es:List Addr)=>Al4 6#L (0#T) 77#es.map (NewQ H [X] H' λG=>Ls (EAt c n G) es (entR n 67#p).1)) 3#H ?_;rotate_left
 ·rintro σ H' ⟨x4,x5,es,rfl,s',eX,hn⟩;ac_rfl;refine⟨_,rfl,_,rfl,bg2,λt ht=>q t X _ (s'.trans 46#ht) ac ⟨es,?_,?_⟩⟩
  ·rw[aD hX];exact ad ht _ _ _ eX
  ·exact(hn.same 46#ht).dif λG G' s h=>h.mono λa x=>fM n _ _ _ _ s
 have tl:∀{H':Hp} {p':Nat} {x4 x5:Option V},0#T->Tells (tAnd 112#(tOp (rI0 λi j=>V.bl 28#(i < j)) 44#1 (tCB 149#K 108#44#0)) 112#(tOp (rI0 λi j=>V.bl 28#(j<=i)) 0#bv 44#2)) 0#ah H' 9#C:=λ{H' p' x4 x5} s'=>by
  cases hx:a1[p']? with
  |none=>
   show 138
  |some x=>
   have c2:=(0#C hx).1;show 39;have a9:(0#bp)[p']? = some 11#t:=by rw[0#x,ht];rfl
   obtain⟨a,x',hv,a8,_,d3⟩:=c1.get a9;cases hv;rw[hx] at a8;cases a8;exact Tells.eq (dF true 28#(6 - n<=x.1) 0#gi λ_ H2 s2=>cx (λR' k=>⟨_,rfl,_,rfl,l,_,_,_,rfl,rfl,0#w 110#(s'.trans s2),ag a9,t,_,0,_,rfl,rfl,2#m ((s'.trans s2) _ _ d3),ag (j:=0) rfl,k⟩) 0#u 0#bW) (3#Q _)
 cases n with
 |zero=>
  show 116;refine⟨false,(tl s1).eq ?_,(λz=>1#o z),λ_ H2 s2=>hN _ _ ⟨none,none,[],rfl,2#c,s2 _ _ e1,0#bK trivial⟩⟩;cases hx:a1[p]? with
  |none=>rfl
  |some x=>
   have:=h5 x 125#hx;exact 0#D nofun
 |succ j=>
  have elv:6 - (j+1)=5 - j:=by omega
  refine cy (λm σ H'=>Ex6 λ(x4 x5:Option V) (p' k':Nat) (es:List Addr) (dn:List (EnF (En j)))=>Al9 8#U (0#T) 77#es.map (NewQ H [X] H' λG=>Ls (EAt c (j+1) G) es dn) (dn++(9#k (5 - j) k' 67#p').1=(9#k (5 - j) (a1.drop p).length 67#p).1) (p'+(9#k (5 - j) k' 67#p').2=p+(9#k (5 - j) (a1.drop p).length 67#p).2) (6#E - p'<=k') (es.length<=p') (m=6#E - p')) (6#E - p) ⟨none,none,p,(a1.drop p).length,[],[],rfl,s1,e1,0#bK trivial,rfl,rfl,by rw[l15];exact l9 _,4#r,rfl⟩ ?_;rintro m σ H2 ⟨x4,x5,p',k',es,dn,rfl,s2,eX,hn,a3,a2,hk',hes,rfl⟩;ac_rfl;refine⟨_,tl s2,λz H3 s3=>?_,λz H3 s3=>?_⟩
  ·cases hx:a1[p']? with
   |none=>rw[hx] at z;cases z
   |some x=>
   rw[hx] at z;have hlv:=0#s z;obtain⟨c2,c5⟩:=0#C hx;obtain⟨f5,hwl,g1⟩:=hok.2 x 125#hx;show 39;have a9:(0#bp)[p']? = some 11#t:=by rw[0#x,ht];rfl
   obtain⟨a,x',hv,a8,_,d3⟩:=c1.get a9;cases hv;rw[hx] at a8;cases a8;show 93;have f1:a1.drop p'=x::a1.drop (p'+1):=by rw[l31 c2,c5]
   rw[f1,show entF 159#j (5 - j) (k2+1) (x::a1.drop (p'+1))=(⟨decide (x.2.1=43),aT x.2.2,(entR j 67#(p'+1)).1⟩::(9#k (5 - j) k2 0#ck).1,1+(entR j 67#(p'+1)).2+(9#k (5 - j) k2 0#ck).2) from 1#d nofun] at a3 a2;have a4:=0#Y;refine⟨_,rfl,_,rfl,l,_,_,_,rfl,rfl,0#w 110#a4,ag a9,?_⟩
   symm
   refine⟨_,rfl,_,rfl,_,_,rfl,rfl,_,rfl,_,_,rfl,rfl,hI j rfl _ _ _ _ ⟨l,a1,p'+1,?_,⟨ts,a4 _ _ el,c1.mono λa x=>mt _ _ _ _ a4⟩,hok,h5,λt5 r H4 s4 c0 d6=>?_⟩⟩
   ·show 104
   generalize entR j (a1.drop (p'+1))=e4 at a3 a2 c0 d6;obtain⟨ew,en⟩:=e4;obtain⟨bs,e3,f4⟩:=d6
   symm
   have c3:=8#g eX;have d7:=4#k c3;have a7:=4#k (a4 _ _ d3);refine⟨_,rfl, .inl 33#d7,_,rfl,t,_,1,_,rfl,rfl,2#m a7,ag (j:=1) rfl,_,rfl,t,_,2,_,rfl,rfl,2#m a7,ag (j:=2) rfl,x.2.2,rfl,by omega,g1,λr2 as H5 s5 hr2 g2 e9=>?_⟩;refine⟨_,rfl,t5,_,0,_,rfl,rfl,2#m (4#D c0),ag (j:=0) rfl,λy dx hy a6 hyd=>⟨y,dx,_,r2,_,r,_,rfl,ac,5#t a6 _ _ g2,5#t a6 _ _ (4#D (0#gz e3)),λp2 p3 H6 e7 f3 kx e5 e8 e6=>⟨rfl,?_⟩⟩⟩;have d8:=ini hy a6 kx;have d2:=s5.trans d8;have d5:=s4.trans d2;have f2:=d5 _ _ c3;refine⟨X,_,_,rfl,rfl,f2,by rw[l4,0#Z];omega,?_⟩;have f0:t5≠X:=(nq d7 c0);refine⟨_,rfl,t5,_,1,_,rfl,rfl,2#m ((ai f0).trans (d2 _ _ c0)),ag (j:=1) rfl,?_⟩
   symm
   have c4:H5 p2=none:=(5#t a6).free e7;have d4:H5 p3=none:=(5#t a6).free f3;have d0:=9#h;refine⟨_,0#dj,some 11#t,some 11#t5,p'+1+en,k2,es++[y],dn++[5#E],rfl,aj hX (a4.trans d5),by rw[ac,l14];rfl,?_,?_,?_,by omega,by rw[l6];show _+1<=_;omega,rfl⟩
   ·show 50;refine 8#b ((hn.same s3).same d5) (NewQ.of (H3:=H3) (R:=λG=>EAt c (j+1) G y 5#E) a4 (λb' e2 z=>?_) ⟨dx,p2,p3,?_,⟨as,?_,e9.same (aq s4 d8)⟩,bs,?_,f4.mono λa x=>fM j _ _ _ _ 80#d2⟩) (λG G' s h=>h.mono λa x=>fM (j+1) _ _ _ _ s) (λG G' s h=>fM (j+1) _ _ _ _ s h) λG h1 h2=>0#fe
    ·rw[2#R e2,c3] at z;cases z
    ·rw[aD (d0.free hy),e6];show _=some (HO.ins c.Entry dx [("sign",vS (nB 28#(x.2.1=43))),_,_]);rw[tJ f5]
    ·rw[aD (d0.free c4)];exact e5
    ·rw[aD (d0.free d4)];exact e8
   ·rw[l19,<- l26];exact a3
   ·rw[<- l26];have a2:p'+(1+en+(9#k (5 - j) k2 ((a1.drop (p'+1)).drop en)).2)=_:=a2;omega
  ·have a5:9#k (5 - j) k' 67#p'=([],0):=by
    cases k' with
    |zero=>rfl
    |succ k2=>
     cases hx:a1[p']? with
     |none=>rw[l49 (7#H hx)];rfl
     |some x=>
      rw[hx] at z;have:=1#u z;obtain⟨c2,c5⟩:=0#C hx;rw[l31 c2,c5];exact 0#z nofun
   rw[a5] at a3 a2;have a3:dn++[]=_:=a3;have a2:p'+0=_:=a2;refine hN _ _ ⟨x4,x5,es,?_,0#Y,8#g eX,?_⟩
   ·rw[show entR (j+1) 67#p=9#k (5 - j) (a1.drop p).length 67#p from rfl,<- a2];rfl
   ·rw[show entR (j+1) 67#p=9#k (5 - j) (a1.drop p).length 67#p from rfl,<- a3,l12];exact hn.same s3
end
section
variable {c:Cb}{BT:Addr}{β:Type}{R:Hp->Addr->β->Prop}
abbrev sLvl:Stmt:=top 98
inductive spLvl (vs:0#t)(H:Hp)(Q:VK)(u3:XK):Prop
 |mk (l:Addr)(its:List Itm)(_:vs=[.ref l])(_:LAt ItAt H l its)(_:its≠[])(_:its.length<=90000)(_:∀r H',Same H H'->H r=none->LAt ItAt (dif H H') r (lvs its)->Q (.ref r) H')
def Be (F:2#k "leveled" "leveled" sLvl f fd)(T:3#R):2#Q ["items"] spLvl:=by
 have sc:1#b ["items","told","first","level","far","sign","words"] ["items"] 55#sLvl:=mkS;show 1;obtain⟨l,a5,rfl,⟨ts,el,a2⟩,a8,hil,q⟩:=h;refine az (xbc 20#1
  (xbc (xst (i:=2) sc.nd 12#(4#t (2#U) xint 0#n))
  (xbc 39#(5#c)
  (xbc (xfor 1#x rfl 122#xil 92#(xgsc 27#6 xgs0)
  (xbc 39#(xcB (sZ rfl) T.q11 rfl (xac (xcB (qV rfl) T.u12 rfl (xac xint 10#(xop aS (xop cP (xv 4) (5#M)) xint))) (xac (xop cP (xgI T.u16) xint) 10#(2#h (6#k) xint))))
  103#(bI (xmA (2#E) 10#(xtup (xac (6#k) (xac (xv 5) 19#(xv 6))))))))
  13#(2#E))))) ?_
 ac_nf;rw[BG];have a3:=a2.len;refine 3#k;show 12
 symm
 show 9;obtain⟨x0,ir,rfl⟩:∃x0 ir,a5=x0::ir:=by cases a5 with |nil=>exact 0#A rfl a8 |cons a b=>exact 0#em
 obtain⟨t0,tr,rfl⟩:∃t0 tr,ts=t0::tr:=by cases ts with |nil=>cases a3 |cons a b=>exact 0#em
 refine⟨_,rfl,l,_,0,_,rfl,rfl,0#w 110#s1,ag (j:=0) rfl,t0,_,0,_,rfl,rfl,2#m (s1 _ _ a2.1),ag (j:=0) rfl,?_⟩
 symm
 refine 118#1
 symm
 refine 50#(s1 _ _ el);refine gA (xs:=(t0::tr).map V.ref) (λi σ H'=>Ex6 λ(pv:Nat) (x4 x5 x6:Option V) (rs:List Addr) (dn:List Itm)=>Al6 (σ=[2#f,2#y,some 21#(x0.1:Int),some 21#((pv:Int) - 1),x4,x5,x6]) (0#T) 77#rs.map (NewQ H [X] H' λG=>Ls (ItAt G) rs dn) (dn++lvR x0.1 pv ((x0::ir).drop i)=lvs (x0::ir)) (1#r=i)) ⟨0,none,none,none,[],[],rfl,s1,e1,0#bK trivial,rfl,rfl⟩ ?_ ?_ ?_
 ·rintro i σ H3 _ ⟨_,_,_,_,_,_,_,s3,_⟩;ac_rfl;exact 0#w 110#s3
 ·rintro i v σ H3 hv ⟨pv,x4,x5,x6,rs,dn,rfl,s3,eX,hn,a1,a4⟩;ac_rfl;obtain⟨t,x,rfl,hx,c1,a9⟩:=a2.get hv;have hlt:=(0#C hx).1;rw[c1] at a1;refine⟨t,_,rfl,2#m (8#g a9),rfl,_,_,rfl,_,_,rfl,_,_,rfl,rfl,?_⟩
  symm
  ac_nf;refine⟨_,rfl,_,rfl,_,_,rfl,rfl,_,_,rfl,rfl,⟨by decide,by decide⟩,_,_,rfl,_,_,rfl,rfl,_,rfl,_,_,rfl,rfl,_,_,_,rfl,?_⟩
  symm
  have c0:min (min (if ((x.1:Int) - (x0.1:Int)) / 2 > 0 then ((x.1:Int) - (x0.1:Int)) / 2 else 0) (6 - 1)) ((pv:Int) - 1+1)=((lvl x0.1 pv x.1:Nat):Int):=by
   unfold lvl;split <;> omega
  rw[c0];refine⟨_,rfl, .inl 33#eX,_,rfl,_,rfl,_,rfl,bg3,λt2 a6=>?_⟩;have s4:=ad a6 (.tup [.int ((lvl x0.1 pv x.1:Nat):Int),vS [x.2.1],vS x.2.2]);refine⟨X,_,_,rfl,rfl,4#k eX,by rw[l4,0#Z];omega,?_⟩;refine⟨0#gF+1,some 21#(x.1:Int),some (vS [x.2.1]),some (vS x.2.2),rs++[t2],dn++[(0#gF,x.2.1,x.2.2)],?_,aj hX (4#j),by rw[ac,l14];rfl,?_,by rw[l19];exact a1,by rw[l6,a4];rfl⟩
  ·rw[show (((0#gF+1:Nat):Int) - 1)=((lvl x0.1 pv x.1:Nat):Int) by omega]
  ·show 50;refine 8#b (0#cQ) (NewQ.of (H3:=H3) (R:=λG=>ItAt G t2 (0#gF,x.2.1,x.2.2)) s3 (λb' a7 z=>?_) ?_) 0#ec (λG G' s h=>mt _ _ _ _ s h) λG h1 h2=>0#fe
   ·rw[2#R a7,eX] at z;cases z
   ·show dif _ _ _=_;rw[aD a6];exact ac
 ·rintro σ H3 ⟨pv,x4,x5,x6,rs,dn,rfl,s3,eX,hn,a1,a4⟩;ac_rfl;rw[l4,a3,l58] at a1;have a1:dn++[]=_:=a1;refine⟨_,rfl,q X H3 s3 hX ⟨rs,by rw[aD hX];exact eX,?_⟩⟩;rw[<- a1,l12];exact hn.dif λG G' s h=>h.mono λa x=>mt _ _ _ _ s
abbrev tK:Stmt:=top 97
inductive spListA (c:Cb)(R:Hp->Addr->β->Prop)(vs:0#t)(H:Hp)(Q:VK)(u3:XK):Prop
 |mk (rs i d)(_:RwAt vs H rs i d)(_:bT (bj (decide (d < 4)) (rs.drop i))=mU)(_:FndB c R H Q (.lst (entR 6 (lvs (itR (decide (d < 4)) (rs.drop i).length (rs.drop i)).1)).1) (i+(itR (decide (d < 4)) (rs.drop i).length (rs.drop i)).2))
def fQ {k:Nat}(hk:6<=k)(mR:MoR R)(F:2#k "list_at" "list_at" tK f fd)(T:3#R)(Da:0#c 5 "sort_at" p15 6#I)(De:0#c 6 "further_words" p15 spFurther)(Dx:0#c 1 "leveled" ["items"] spLvl)(Yk:0#c k "entries_from" p32 (spEnt c 6))(Dy:0#Q "Listing" c.Listing p25 0#aB):0#b (k+1) f fd p15 (spListA c R):=by
 have sc:1#b ["rows","place","deep","items","sort","words"] p15 55#tK:=mkS;show 1;obtain⟨rs,i,d,⟨l,rfl,el,hok⟩,d4,q⟩:=h;refine az (xbc 20#3
  (xbc 31#(2#E)
  (xbc (di 1#x 42#4
  (xbc (xst (i:=5) sc.nd (xop cb (xlst 10#(xix ay (xv 4) xint 0#n)) (xcd De hr 17#(xac 4#l 19#(5#M)))))
  (xbc (bI (xmA (6#k) 10#(xtup (xac 47#(xv 4) (xac 47#(xv 4) 19#(0#M 35#(xv 5)))))))
  (xbc (xaug (i:=1) sc.nd rfl (Or.inl rfl) (1#c 10#(xv 5)) gK)
  (xb1 31#(2#E))))))
  13#(xtup 167#(xnew Dy hr.mono 19#(xix ay (xcd Yk hr (xac (xcd Dx hr 35#(6#k)) (xac xint 35#xint))) xint 6#J)))))) ?_
 ac_nf;rw[Ay];generalize hq:decide (d < 4)=qq at d4 q;have hrl:=hok.len;refine 3#k;show 12
 symm
 show 9;refine 8#Y;rw[hq] at hp
 symm
 refine bS (λσ H'=>Ex3 λ(x4 x5:Option V) (ts:List Addr)=>Al5 (σ=[2#f,some 21#((i+(itR qq (rs.drop i).length 30#i).2:Nat):Int),some 21#d,2#y,x4,x5]) (0#T) 77#ts.map (NewQ H [X] H' λG=>Ls (ItAt G) ts (itR qq (rs.drop i).length 30#i).1) (OkI (itR qq (rs.drop i).length 30#i).1)) 3#H ?_;rotate_left
 ·rintro σ H' ⟨x4,x5,ts,rfl,s',eX,hn,c5⟩;ac_rfl;have d2:(itR qq (rs.drop i).length 30#i).1≠[]:=by
   obtain⟨a,b,x,e⟩:=mm d4;cases hd:rs.drop i with
   |nil=>rw[hd] at e;cases e
   |cons r rr=>
    rw[hd] at e;rw[l5,itR,e];simp
  generalize (itR qq (rs.drop i).length (rs.drop i))=z at d2 hn c5 q;obtain⟨d5,n⟩:=z;obtain⟨f4,f5⟩:=c5.lvs;refine⟨_,rfl,X,d5,rfl,⟨ts,eX,?_⟩,d2,c5.1,λr H3 s3 hr3 g4=>?_⟩
  ·obtain⟨G,g1,_,_,g2⟩:=hn;exact g2.mono λa x=>mt _ _ _ _ g1
  refine⟨r,lvs d5,0,rfl,g4.same mt 4#X,f4,f5,λt r2 H4 s4 et e9=>?_⟩;obtain⟨bs,er,f3⟩:=e9;refine⟨t,_,0,_,rfl,rfl,2#m et,ag (j:=0) rfl,λy dx hy c3 hyd=>⟨y,dx,r2,_,rfl,ac,5#t c3 _ _ (0#gz er),λp2 H6 e7 kx e5 e6=>⟨rfl,?_⟩⟩⟩;have a3:=ini hy c3 kx;have c2:=(s'.trans s3).trans s4;have a9:H4 p2=none:=(5#t c3).free e7;exact⟨_,rfl,bg2,λt ht=>q.tup mR (c2.trans a3) ⟨dx,p2,by rw[aD (c2.free hy)];exact e6,bs,by rw[aD (c2.free a9)];exact e5,f3.mono λa x=>fM 6 _ _ _ _ (aq (s'.trans s3) a3)⟩ ht rfl⟩
 refine cy (λm σ H'=>Ex6 λ(p:Addr) (x5:Option V) (p' k':Nat) (ts:List Addr) (dn:List Itm)=>Al12 (σ=[2#f,some 21#(p':Int),some 21#d,2#y,some 11#p,x5]) (0#T) 77#ts.map (NewQ H [X] H' λG=>Ls (ItAt G) ts dn) (SrtAt K H' p (bj qq 30#p')) (dn++(itR qq k' 30#p').1=(itR qq (rs.drop i).length 30#i).1) (p'+(itR qq k' 30#p').2=i+(itR qq (rs.drop i).length 30#i).2) (1#r - p'<=k') (dn.length<=p') (dn≠[]->p'<=90000) (∀x∈dn,9#v/\x.2.2.length<=90000/\Asc x.2.2) (m=1#r - p')) (1#r - i) ⟨p,none,i,(rs.drop i).length,[],[],rfl,2#c,s2 _ _ e1,0#bK trivial,hp,rfl,rfl,by rw[l15];exact l9 _,4#r,λz=>0#A rfl z,1#F,rfl⟩ ?_;rintro m σ H3 ⟨p,x5,p',k',ts,dn,rfl,s3,eX,hn,hp,a1,a2,hk',hdl,e8,d6,rfl⟩;ac_rfl;have htl:2#g=dn.length:=let ⟨_,_,_,_,h⟩:=hn;h.len
 refine⟨_,aU mU rfl hp,λz H4 s4=>?_,λz H4 s4=>?_⟩
 ·obtain⟨a4,sg,wd,hs⟩:=mm (0#s z);have a6:p' < rs.length:=by
   by_cases h:p' < 1#r
   ·exact h
   ·rw[l49 nofun] at hs;cases hs
  show 93;have f1:itR qq (k2+1) 30#p'=((a4,sg,ao [32] (wd::bQ qq 30#p'))::(itR qq k2 0#cl).1,1+(bQ qq 30#p').length+(itR qq k2 0#cl).2):=by rw[itR,hs]
  rw[f1] at a1 a2;rw[hs] at hp;have c4:SzS (rs[p']).length (.item a4 sg wd)/\AscS (.item a4 sg wd):=by
   rw[l31 a6] at hs;have h1:=db qq rs[p'];have h2:=cM (q:=qq) (hok.asc _ (l46 a6));rw[show srtQ qq rs[p']=_ from hs] at h1 h2;exact⟨h1,h2⟩
  have a8:SmR (wd::bQ qq 30#p'):=(hok.drop p').more (by intro z;rw[l31 a6] at z;cases z) λr e2=>by
   rw[l31 a6] at e2;cases e2;exact⟨c4.1.2,c4.2.2⟩
  have g5:(bQ qq 30#p').length<=1#r - (p'+1):=by
   have:=jo (f:=ci) (q:=qq) ((rs.drop p').drop 1);rw[l15,l15] at this;unfold bQ;omega
  have d8:=4#k hp;refine⟨_,rfl,p,_,3,_,rfl,rfl,2#m d8,ag (j:=3) rfl,bg1,λa ha=>?_⟩;have c0:=4#j;refine⟨_,rfl,_,rfl,_,_,rfl,rfl,_,rfl,l,rs,p'+1,d,rfl,(c0.trans 46#ha) _ _ el,hok,λb H5 s5 hb eb=>?_⟩;have e:tkW ci 28#(d < 4) 30#(p'+1)=bQ qq 30#p':=by unfold bQ;rw[l26,hq]
  rw[e] at eb;generalize bQ qq (rs.drop p')=ms at a8 eb a1 a2 g5;have f0:=4#D (ac (H:=H4) (a:=a) (o := .lst [vS wd]));refine⟨a,b,_,_,rfl,rfl,f0,eb,?_,λY hY=>?_⟩
  ·have:=a8.len;rw[l5] at this;rw[l4,0#Z];show 1+_<=_;omega
  symm
  have a3:=((ad ha 126#wd).trans s5).trans (ad hY 14#([vS wd]++ms.map vS));have eY:upd H5 Y 14#([vS wd]++ms.map vS) Y=some 14#((wd::ms).map vS):=ac;generalize upd H5 Y (.lst ([vS wd]++ms.map vS))=H6 at a3 eY ⊢;have d7:=a3 _ _ d8;have a7:=a3 _ _ (4#k eX);have hg:=a8.glue;refine⟨_,rfl, .inl 33#a7,_,rfl,p,_,1,_,rfl,rfl,2#m d7,ag (j:=1) rfl,_,rfl,p,_,2,_,rfl,rfl,2#m d7,ag (j:=2) rfl,rfl,_,rfl,S [32],Y,(wd::ms).map S,rfl,rfl,0#w (by rw[eY,dA]),a8.fit,?_⟩;rw[cq];refine⟨bg3,λt2 d3=>?_⟩;have s7:=ad d3 6#l;refine⟨X,_,_,rfl,rfl,0#gp a7,by rw[l4,0#Z];omega,?_⟩;have f2:=a3.trans s7;have g3:Y≠X:=λz=>by rw[z,a7] at eY;exact 0#A (2#u (λo=>match o with |some (HO.lst (v::_))=>some v |_=>none) eY) (by cases ts <;> simp[vS])
  have sU:4#L (upd (upd H6 t2 6#l) X 14#(0#bp++[.ref t2])):=aj hX (c0.trans f2);have e4:upd (upd H6 t2 6#l) X 14#(0#bp++[.ref t2]) Y=some 14#((wd::ms).map vS):=(ai g3).trans (0#gp eY);refine⟨_,rfl,_,rfl,Y,_,rfl, .inl 74#e4,_,_,rfl,rfl,?_⟩
  symm
  refine⟨_,rfl,_,rfl,_,rfl,l,rs,p'+0#dU,d,?_,sU _ _ el,hok,λp3 H8 s8 d0=>?_⟩
  ·rw[l4,l5,l76 1];rfl
  symm
  rw[hq] at d0;have c1:(p':Int)+(((wd::ms).map vS).length:Nat)=((p'+0#dU:Nat):Int):=by rw[l4,l5];omega
  rw[c1];refine⟨_,(show 1#r - (p'+0#dU) < 1#r - p' by omega),p3,some 11#Y,p'+0#dU,k2,ts++[t2],dn++[(a4,sg,ao [32] (wd::ms))],rfl,sU.trans s8,s8 _ _ (by rw[ac,l14];rfl),?_,d0,?_,?_,by omega,by rw[l6];show _+1<=_;omega,λ_=>by omega,λx hx=>?_,rfl⟩
  ·refine NewQ.same ?_ s8;show 50;refine 8#b (((0#cQ).same a3).same s7) (NewQ.of (H3:=H6) (R:=λG=>ItAt G t2 (a4,sg,ao [32] (wd::ms))) (c0.trans a3) (λb' e3 z=>?_) ?_) 0#ec (λG G' s h=>mt _ _ _ _ s h) λG h1 h2=>0#fe
   ·rw[2#R e3,a7] at z;cases z
   ·show dif _ _ _=_;rw[aD d3];exact ac
  ·rw[l19,<- l26];exact a1
  ·rw[<- l26];have a2:p'+(1+ms.length+(itR qq k2 ((rs.drop p').drop 0#dU)).2)=_:=a2;omega
  ·rcases 2#n hx with z |z
   ·exact d6 x z
   ·rw[2#R z];exact⟨c4.1.1,hg.1,hg.2⟩
 ·have a5:itR qq k' 30#p'=([],0):=by
   have hz:=1#u z;cases k' with
   |zero=>rfl
   |succ k2=>
    rw[itR];split
    ·rename_i e;rw[e] at hz;exact 0#A rfl hz
    ·rfl
  rw[a5] at a1 a2;have a1:dn++[]=_:=a1;have a2:p'+0=_:=a2;rw[l12] at a1;refine hN _ _ ⟨some 11#p,x5,ts,?_,4#j,4#k eX,?_,?_⟩
  ·rw[<- a2];rfl
  ·rw[<- a1];exact hn.same s4
  ·rw[<- a1];refine⟨?_,d6⟩;by_cases hz:dn=[]
   ·rw[hz];exact l11 _
   ·have:=e8 hz;omega
end
def Zs {α γ:Type}(P:α->γ->Prop):List α->List γ->Prop
 | [],[]=>True
 |a::as,b::bs=>P a b/\Zs P as bs
 |_,_=>False
theorem Zs.len {α γ:Type}{P:α->γ->Prop}:∀{as:List α} {bs:List γ},Zs P as bs->5#k=bs.length
 | [],[],_=>rfl
 |_::_,_::_,h=>2#u (· + 1) h.2.len
theorem Zs.mono {α γ:Type}{P P':α->γ->Prop}(k:∀a b,P a b->P' a b):∀{as:List α} {bs:List γ},Zs P as bs->Zs P' as bs
 | [],[],_=>trivial
 |_::_,_::_,h=>⟨k _ _ h.1,h.2.mono k⟩
theorem Zs.all {α γ:Type}{P:α->γ->Prop}{Pr:α->Prop}:∀{as:List α} {bs:List γ},(∀a b,b∈bs->P a b->Pr a)->Zs P as bs->∀a∈as,Pr a
 | [],[],_,_=>λ_ z=>0#k
 |_::_,_::_,k,h=>λa ha=>(1#y ha).elim (λz=>z▸k _ _ l7 h.1) (h.2.all (λa b hb=>k a b 38#hb) a)
theorem kz {α γ:Type}{Q:Addr->α->Prop}{P:α->γ->Prop}:∀{as:List Addr} {zs:List γ},Ls (λa z=>∃x,Q a x/\P x z) as zs->∃xs,Ls Q as xs/\Zs P xs zs
 | [],[],_=>⟨[],trivial,trivial⟩
 |_::_,_::_,h=>let ⟨x,h1,h2⟩:=h.1;let ⟨xs,h3,h4⟩:=kz h.2;⟨x::xs,⟨h1,h3⟩,h2,h4⟩
theorem kA {α γ:Type}{Q:Addr->α->Prop}{P:α->γ->Prop}{R:Addr->γ->Prop}(k:∀a x z,Q a x->P x z->R a z):∀{as:List Addr} {xs:List α} {zs:List γ},Ls Q as xs->Zs P xs zs->Ls R as zs
 | [],[],[],_,_=>trivial
 |_::_,_::_,_::_,h1,h2=>⟨k _ _ _ h1.1 h2.1,kA k h1.2 h2.2⟩
def PX (c:Cp)(G:Hp)(xs:0#t)(ps:7#E):Prop:=∃as:1#B,xs=2#s/\PCs c G as ps
def PX.same {c:Cp}{G G':Hp}{xs:0#t}{ps:7#E}(s:Same G G')(h:PX c G xs ps):PX c G' xs ps:=let ⟨as,e,k⟩:=h;⟨as,e,k.same s⟩
def xj {c:Cp}{G:Hp}{r:Addr}{cs:List 16#PC}(h:LAt (PL c) G r cs):∃hss,LV G r hss/\Zs (PX c G) hss cs:=by
 obtain⟨as,e,k⟩:=h;obtain⟨xs,h1,h2⟩:=kz (Q:=λa x=>G a=some 14#x) (P:=PX c G) (k.mono λa ps ⟨bs,e,k⟩=>⟨bs.map V.ref,e,bs,rfl,k⟩);exact⟨xs,⟨as,e,h1⟩,h2⟩
def xn {c:Cp}{G:Hp}{as:1#B}{ls:List 16#(7#E)}(k:Ls (LAt (PL c) G) as ls):∃lss,Ls (LV G) as lss/\Zs (Zs (PX c G)) lss ls:=
 kz (Q:=λa x=>LV G a x) (P:=Zs (PX c G)) (k.mono λa cs h=>xj h)
def xo {c:Cp}{G:Hp}{r:Addr}{hss:List 16#V}{cs:List 16#PC}(h:LV G r hss)(k:Zs (PX c G) hss cs):LAt (PL c) G r cs:=
 let ⟨as,e,h1⟩:=h;⟨as,e,kA (λa x z h1 ⟨bs,e2,h2⟩=>⟨bs,by rw[h1,e2],h2⟩) h1 k⟩
def Bf {c:Cp}{G:Hp}{r:Addr}{lss:List 16#(0#t)}{ls:List 16#(7#E)}(h:LAt LV G r lss)(k:Zs (Zs (PX c G)) lss ls):LAt (LAt (PL c)) G r ls:=
 let ⟨as,e,h1⟩:=h;⟨as,e,kA (Q:=LV G) (P:=Zs (PX c G)) (R:=LAt (PL c) G) (λa x z h1 h2=>xo h1 h2) h1 k⟩
def TxAt (H:Hp)(a:Addr)(ts:0#m):Prop:=H a=some 14#(0#fT)
def B5:MoR TxAt:=λ_ _ _ _ s h=>8#L h
structure OkT (ts:0#m):Prop where
 pos:1<=2#g
 len:2#g<=90000
 ok:∀t∈ts,1#n<=90000/\Asc t
def kB:∀{ls:List (List (List Nat))} {ts:List (List Nat)},ts∈ls->2#g<=bU ls
 |x::ls,ts,h=>by
  show _<=max x.length (bU ls);rcases 1#y h with z |z
  ·rw[z];omega
  ·have:=kB z;omega
theorem nP:∀{ls:List (List (List Nat))},ls≠[]->∃ts∈ls,bU ls=2#g
 | [x],_=>⟨x,l7,by show max x.length 0=_;omega⟩
 |x::y::ls,_=>by
  obtain⟨ts,h1,h2⟩:=nP (ls:=y::ls) 0#h;have e:bU (x::y::ls)=max x.length (bU (y::ls)):=rfl;by_cases h:bU (y::ls)<=7#k
  ·exact⟨x,l7,by rw[e];omega⟩
  ·exact⟨ts,l8 _ h1,by rw[e];omega⟩
section
variable {c:Cb}{BT:Addr}{β:Type}{R:Hp->Addr->β->Prop}
abbrev kC:Stmt:=top 96
inductive spCellsOf (c:Cb)(vs:0#t)(H:Hp)(Q:VK)(u3:XK):Prop
 |mk (l:Addr)(ts:List (List Nat))(m:Nat)(_:vs=[.ref l, .int m])(_:TxAt H l ts)(_:OkT ts)(_:ts.length<=m)(_:m<=90000)(_:∀r H',Same H H'->H r=none->LAt (PL c.cp) (dif H H') r (bx m ts)->Q (.ref r) H')
def qI (F:2#k "cells_of" "cells_of" kC f fd)(T:3#R)(Db:0#c 6 "parts_of" 1#K 0#aQ):0#b 7 f fd ["texts","columns"] (spCellsOf c):=by
 have sc:1#b ["texts","columns","lacking"] ["texts","columns"] 55#kC:=mkS;show 1;obtain⟨l,ts,m,rfl,el,hok,hm,hm9,q⟩:=h;refine az (xbc 49#(xop cP (2#E) 15#ar)
  (xb1 (xret (xlc0 (own:=1#K)
  (xil (xop cb (2#U) (xop la 130#10#xstr (5#M))))
  22#(show (1#K:0#O).Nodup by decide) 1#k 101#Db)))) ?_
 show 13;have el:H l=some 14#(0#fT):=el;refine⟨_,rfl,_,rfl,l,_,rfl, .inl 74#el,_,_,rfl,rfl,?_⟩
 symm
 refine⟨_,rfl,bg1,λa ha=>⟨_,rfl,a,_,_,rfl,rfl,ac,?_,?_,?_,λb hb=>?_⟩⟩
 ·rw[l4];omega
 ·rw[l4];omega
 ·rw[l4,hs];show 1 * _<=_;omega
 rw[l4,show ((m:Int) - (ts.length:Int)).toNat=m - 2#g by omega,l100];have s1:=(ad ha (.lst [vS []])).trans (ad hb 14#(1#G 6#t (vS [])));refine⟨l,b,_,_,rfl,rfl,s1 _ _ el,ac,by rw[l4,l23,hs];omega,λL hL=>⟨L,rfl,85#ac,?_⟩⟩;have a2:0#fT++0#f 6#t (vS [])=(ts++0#f 6#t []).map vS:=by rw[l14,l65]
 rw[show (upd (upd (4#b a 124#(0#e "")) b 14#(1#G 6#t 5#Y)) L 14#(0#fT++1#G 6#t 5#Y))=0#eb by rw[<- a2];rfl];have s2:4#L 0#eb:=s1.trans 46#(show upd (4#b a (.lst [vS []])) b 14#(1#G 6#t (vS [])) L=none from hL);have eL:upd 4#H L 14#((ts++1#G 6#t []).map vS) L=some 14#((ts++1#G 6#t []).map vS):=ac;have a1:∀t∈ts++0#f 6#t [],1#n<=90000/\Asc t:=λt ht=>by
  rcases 2#n ht with z |z
  ·exact hok.ok t z
  ·rw[(l85.mp z).2];exact⟨4#r,λ_ y=>nomatch y⟩
 have a7:(ts++0#f 6#t []).length=m:=by rw[l6,l23];omega
 have q:∀r H',0#T->H r=none->LAt (PL c.cp) 86#H' r ((ts++0#f 6#t []).map aT)->Q 11#r H':=q;generalize ts++List.replicate (m - ts.length) []=fs at a1 a7 q s2 eL ⊢;generalize upd (upd (upd H a (.lst [vS []])) b (.lst (List.replicate (m - ts.length) (vS [])))) L (.lst (fs.map vS))=H2 at s2 eL ⊢;refine iA (λj b G=>PL c.cp G b (aT ((fs[j]?).getD []))) (λi b G G' s h=>gx _ _ _ _ s h) 74#eL 1#A ?_ ?_
 ·intro j v hv H3 s3 C N hC;rw[0#x] at hv;cases hj:fs[j]? with
  |none=>rw[hj] at hv;cases hv
  |some t=>
  rw[hj] at hv;cases hv;obtain⟨h1,h2⟩:=a1 t 125#hj;refine 106#⟨_,rfl,t,rfl,by omega,h2,λr as H4 s4 a3 er a4=>hC r H4 s4 a3 ⟨as,by rw[aD a3];exact er,?_⟩⟩;rw[hj];exact a4
 ·intro D H3 bs hD s3 eD a6 a5;refine q D H3 (0#Y) (s2.free hD) ⟨bs,by rw[aD (s2.free hD)];exact eD,qC (by rw[a6,l4,l4]) λi b x hb hx=>?_⟩;show 27;have:=a5 i b hb;rw[ht] at this;exact gx _ _ _ _ (aq s2 18#_) this
abbrev tL:Stmt:=top 95
inductive spTblOf (c:Cb)(R:Hp->Addr->β->Prop)(vs:0#t)(H:Hp)(Q:VK)(u3:XK):Prop
 |mk (l ls)(_:vs=[.ref l])(_:LAt TxAt H l ls)(_:ls≠[])(_:ls.length<=90000)(_:∀ts∈ls,OkT ts)(_:∀a H',Same H H'->BAtF c R (dif H H') a (tblR ls)->Q (.ref a) H')
def o8 {H H1 H2 H3 H5 H6:Hp}{y dx h' s' l':Addr}{hss:List 16#V}{lss:List 16#(0#t)}{sd:List Bool}{hd:List 16#PC}{ls:List 16#(7#E)}(s1:4#L H1)(s12:Same H1 H2)(s3:4#L H3)(s35:Same H3 H5)(s25:Same H2 H5)(hy:H5 y=none)(hd':H5 dx=none)(kx:KeepX y 62#c.Table H6)
  (z1:Zs (PX c.cp (dif H1 H2)) hss hd)(z2:Zs (Zs (PX c.cp (dif H3 H5))) lss ls)(d1:LV (dif 62#c.Table H6) h' hss)(d2:dif 62#c.Table H6 s'=some 14#(sd.map λb=>vS (bZ b)))(d3:LAt LV (dif 62#c.Table H6) l' lss)
  (e:H6 y=some (.ins c.Table dx [("head", .ref h'),("sides", .ref s'),("lines", .ref l')])):4#L H6/\BAtF c R 86#H6 y (.table hd sd ls):=by
 have a1:=ini hy hd' kx;have a2:=s3.trans s35;have g:=aq (a2.trans (ini0 (C:=c.Table) hy hd')) 18#H6;exact⟨a2.trans a1,dx,h',s',l',by rw[aD (a2.free hy)];exact e,xo (nE _ _ _ _ g d1) (z1.mono λ_ _ h=>h.same (aq s1 (s25.trans a1))),g _ _ d2,Bf (d3.same nE g) (z2.mono λ_ _ h=>h.mono λ_ _ h=>h.same (aq s3 a1))⟩
def LV.sm {G G':Hp}{l:Addr}{xss:List 16#V}(s:Same G G')(h:LV G l xss):LV G' l xss:=nE _ _ _ _ s h
def iK {m:Nat}{ts:0#m}(h:2#g<=m):(bx m ts).length=m:=by
 unfold bx;rw[l4,l6,l23];omega
def fR (F:2#k "table_of" "table_of" tL f fd)(T:3#R)(Dz:0#c 1 "is_rule" 1#K spRule)(Dp:0#c 7 "cells_of" ["texts","columns"] (spCellsOf c))(Dr:New P w K mg base 2 "Table" c.Table p30 (spInitT c.Table)):0#b 8 f fd ["lines"] (spTblOf c R):=by
 have sc:1#b ["lines","columns","sides"] ["lines"] 55#tL:=mkS;show 1;obtain⟨l,ls,rfl,⟨as,el,a5⟩,f4,hll,hok,q⟩:=h;refine az (xbc (xset (i:=1) sc.nd rfl 0#gd (xcB (rz rfl) T.u12 rfl (xac (xlc0 (own:=["line"])
  122#xil
  22#(show (["line"]:0#O).Nodup by decide) 1#k (λ_ _ _ _=>15#jO)) xa0)))
  (xbc (xif (xor 152#15#ar (xor1 (fW (bL (xcB (ow rfl) T.g12 rfl (xac (xlc0 (own:=1#K)
  (xil 164#(2#U))
  22#(show (1#K:0#O).Nodup by decide) 1#k 101#Dz) xa0)))))).xt (xb1 (xret (xnew Dr hr.mono (xac 130#xa0 (xac 130#xa0 (xac (xlc (cl:=[("columns",0#g+1)]) (own:=["line"]) (fr:=[1]) (N':=p34) rfl 0#bC ∅ ∅ 1#q
  122#xil
  22#(show (p34:0#O).Nodup by decide) 1#k 0#dd) xa0)))))) xb0)
  (xbc (ve (i:=2) (own:=1#K) sc.nd
  (xil 164#(2#U))
  22#(show (1#K:0#O).Nodup by decide) 1#k (λ_ _ _ _=>(xifE (bL (xmC 2#P PySem.F.slot_str_endswith PySem.F.type_str_endswith gS (2#U) 10#xstr)) xstr xstr)))
  (xbc 49#(xop cb (5#M) (xop la 130#10#xstr (xop cP (2#E) (1#c 10#(5#M)))))
  (xb1 (xret (xnew Dr hr.mono (xac (xcd Dp hr (xac 164#(2#U) 10#(2#E))) (xac (5#M) (xac (xlc (cl:=[("columns",0#g+1)]) (own:=["line"]) (fr:=[1]) (N':=p34) rfl 0#bC ∅ ∅ 1#q
  (xil (xsl dm (2#U) 93#xint xo0))
  22#(show (p34:0#O).Nodup by decide) 1#k 0#dd) xa0)))))))))) ?_
 show 13;have e3:=a5.len;rw[uV];refine 50#el;refine qv (λj=>((ls[j]?).map λts=>V.int (ts.length:Nat)).getD .non) 74#el (by rw[l4,hs];omega) ?_ ?_
 ·intro j x hx H2 s2 C N hC;obtain⟨a,ts,rfl,a7,_,ha⟩:=a5.get hx;refine 51#⟨_,rfl,a,_,rfl, .inl 74#(s2 _ _ ha),?_⟩;have:=hC H2 18#_;rw[a7] at this;rw[l4];show 54
 intro D H1 hD s1 eD;rw[l4,e3,bG] at eD;refine⟨D,ls.map λts=>((ts.length:Nat):Int),rfl,0#w (by rw[eD,l20];rfl),by rw[l4];exact List.length_pos_iff.mpr f4,λmi j3 c4=>?_⟩;obtain⟨t9,f3,e9⟩:=nP f4;have hm:mi=((bU ls:Nat):Int):=by
  obtain⟨ts,h1,h2⟩:=4#i j3;have h3:=kB h1;have h4:=c4 _ (List.mem_map_of_mem f3);omega
 subst hm;have c2:bU ls<=90000:=by rw[e9];exact(hok t9 f3).len
 symm
 have a6:∀ts∈ls,2#g<=bU ls:=λts h=>kB h;have q:∀a H',0#T->BAtF c R 86#H' a (if 5#H < 2 ∨ (ls.getD 1 []).all cC=false then .table [] [] (ls.map (bx (bU ls))) else .table (bx (bU ls) (ls.getD 0 [])) 8#O ((ls.drop 2).map (bx (bU ls))))->Q 11#a H':=q;generalize bU ls=m at c2 a6 q;have hlA:∀{H':Hp},0#T->Ls (TxAt H') as ls:=λs'=>a5.mono λa x=>B5 _ _ _ _ s';refine s_if (decide (5#H < 2) || !(ls.getD 1 []).all cC) (t_or _ _ (cx 43#s1 ev_c (dj 1#A)) λhz H2 s2=>iT _ λR' k=>?_) (λH2 s2 z=>?_) λH2 s2 z=>?_
 ·have h2:=1#u hz;obtain⟨a1,d7⟩:∃a1,as[1]? = some a1:=4#v;have h8:(2#s)[1]? = some 11#a1:=by rw[0#x,d7];rfl
  obtain⟨a',ts,hv,a8,_,hx⟩:=a5.get h8;cases hv;have e1:ls.getD 1 []=ts:=by rw[l24,a8];rfl
  rw[e1] at k;have e5:=hok ts 125#a8;have a2:=2#c;refine⟨_,rfl,l,_,1,_,rfl,rfl,0#w 110#a2,ag (j:=1) h8,a1,rfl,85#(a2 _ _ hx),?_⟩;refine qv (λj=>((ts[j]?).map λt=>V.bl (cC t)).getD .non) 74#(a2 _ _ hx) (by rw[l4,hs];have:=e5.len;omega) ?_ ?_
  ·intro j x hx H3 s3 C N hC;show 27;refine 106#⟨_,rfl,t,rfl,by have:=(e5.ok t 125#ht).1;omega,λH4 s4=>?_⟩;have:=hC H4 s4;rw[ht] at this;show 54
  ·intro D2 H3 hD2 s3 f2;rw[l4,bG] at f2;refine⟨D2,ts.map cC,rfl,0#w (by rw[f2,l20];rfl),_,rfl,?_⟩;rw[List.all_map];exact k H3 s3
 ·have hc:5#H < 2 ∨ (ls.getD 1 []).all cC=false:=by
   rw[7#Y] at z;rcases z with z |z
   ·exact .inl (0#s z)
   ·exact .inr (by simpa using z)
  rw[1#d hc] at q;have a2:=2#c;refine⟨bg0,λp1 e4=>⟨bg0,λp2 d4=>?_⟩⟩;have s3:=a2.trans ((ad e4 0#y).trans (ad d4 0#y));have h9:upd (upd H2 p1 0#y) p2 0#y p1=some 0#y:=ad d4 _ _ _ ac;have e7:upd (upd H2 p1 0#y) p2 0#y p2=some 0#y:=ac;have n1:=a2.free e4;have n2:=(a2.trans 46#e4).free d4;generalize upd (upd H2 p1 (.lst [])) p2 (.lst [])=H3 at s3 h9 e7 ⊢;refine 50#(8#g el);refine iA (λj b G=>LAt (PL c.cp) G b (bx m ((ls[j]?).getD []))) (λi b G G' s h=>h.same gx s) 74#(8#g el) 1#A ?_ ?_
  ·intro j v hv H4 s4 C N hC;show 125;refine⟨(1#l).set ∅ _,iteT (B:=N H4) ⟨_,rfl,_,rfl,a,ts,m,rfl,(4#j) _ _ ha,hok ts a3,a6 ts a3,c2,λr H5 s5 j2 d5=>hC r H5 s5 j2 ?_⟩⟩;rw[a7];exact d5
  intro D3 H4 bs i4 s4 c1 c3 e2;have hL:Ls (LAt (PL c.cp) (dif H3 H4)) bs (ls.map (bx m)):=qC (by rw[c3,l4,l4,e3]) λi b x hb hx=>by
   show 27;have:=e2 i b hb;rw[ht] at this;show 54
  obtain⟨d6,h1,h2⟩:=xn hL;refine λy dx hy a4 i2=>⟨y,dx,p1,p2,D3,[],[],d6,rfl,ac,⟨[],(s4.trans (5#t a4)) _ _ h9,trivial⟩,4#r,(s4.trans (5#t a4)) _ _ e7,⟨bs,5#t a4 _ _ c1,h1.mono λa x h=>h.sm (dif_same.trans (5#t a4))⟩,by rw[h2.len,l4];omega,h2.all λa b hb h=>?_,λh' s' l' H6 kx d1 d2 d3 e6=>⟨rfl,?_⟩⟩
  ·obtain⟨ts,a8,rfl⟩:=4#i hb;rw[h.len,iK (a6 ts a8)];omega
  ·obtain⟨sf,hb⟩:=o8 (R:=R) (sd:=[]) (hd:=[]) (hss:=[]) 18#H 18#H s3 s4 (4#j) hy a4 kx trivial h2 d1 d2 d3 e6;exact q y H6 sf hb
 ·have hz:=z;rw[0#bh] at z;have h2:=1#u z.1;have hc:¬ (5#H < 2 ∨ (ls.getD 1 []).all cC=false):=by
   rintro(h |h)
   ·exact h2 h
   ·rw[h] at z;exact 1#o z.2
  rw[0#z hc] at q;clear hc hz z;have a2:=2#c;obtain⟨a0,j8⟩:∃a0,as[0]? = some a0:=4#v;have c0:(2#s)[0]? = some 11#a0:=by rw[0#x,j8];rfl
  obtain⟨_,t0,hv,f5,_,j7⟩:=a5.get c0;cases hv;have e0:ls.getD 0 []=t0:=by rw[l24,f5];rfl
  obtain⟨a1,d7⟩:∃a1,as[1]? = some a1:=4#v;have a9:(2#s)[1]? = some 11#a1:=by rw[0#x,d7];rfl
  obtain⟨_,t1,hv,f0,_,i1⟩:=a5.get a9;cases hv;have e1:ls.getD 1 []=t1:=by rw[l24,f0];rfl
  rw[e0,e1] at q;have m0:=l22 f5;have m1:=l22 f0;have g6:=hok t1 m1;refine⟨_,rfl,l,_,1,_,rfl,rfl,0#w 110#a2,ag (j:=1) a9,a1,rfl,85#(a2 _ _ i1),?_⟩;refine qv (λj=>((t1[j]?).map λt=>vS (bZ (isR t))).getD .non) 74#(a2 _ _ i1) (by rw[l4,hs];have:=g6.len;omega) ?_ ?_
  ·intro j x hx H3 s3 C N hC;show 27;have hc:=hC H3 18#_;rw[ht] at hc;have htl:=(g6.ok t 125#ht).1;refine 106#⟨_,rfl,rfl,_,_,rfl,rfl,bigS nofun,_,rfl,?_⟩;rw[show Txt.endswith (S t) (0#e ":")=isR t from wV t 58];have hc:C (vS (bZ (isR t))) H3:=hc;cases hb:isR t with
   |true=>rw[hb] at hc;exact iteT hc
   |false=>rw[hb] at hc;exact iteF hc
  intro D3 H3 i4 s3 c1;rw[l4,bG] at c1
  symm
  have j0:=a2.trans s3;have ht1m:=a6 t1 m1;refine⟨_,rfl,bg1,λb1 e8=>⟨_,rfl,_,rfl,D3,_,rfl, .inl 74#(ad e8 _ _ _ c1),_,_,rfl,rfl,b1,_,_,rfl,rfl,ac,?_,?_,?_,λb2 j5=>?_⟩⟩
  ·rw[l4];omega
  ·rw[l4];omega
  ·rw[l4,hs];show 1 * _<=_;omega
  rw[l4,show ((m:Int) - (t1.length:Int)).toNat=m - t1.length by omega,l100];have f1:=(ad e8 124#(0#e "left")).trans (ad j5 14#(1#G 0#bD (V.str (Str.ofString "left"))));refine⟨D3,b2,_,_,rfl,rfl,f1 _ _ c1,ac,by rw[l4,l23,hs];omega,λS3 j9=>?_⟩;have j1:(t1.map λt=>vS (bZ (isR t)))++0#f 0#bD (V.str (0#e "left"))=(t1.map isR++0#f 0#bD false).map λb=>vS (bZ b):=by
   rw[l14,l20,l65];rfl
  symm
  rw[j1] at *;have s4:=(j0.trans f1).trans (ad j9 14#((t1.map isR++1#G 0#bD false).map λb=>vS (bZ b)));generalize hH4:upd (upd (upd H3 b1 (.lst [V.str (Str.ofString "left")])) b2 (.lst (List.replicate (m - t1.length) (V.str (Str.ofString "left"))))) S3 (.lst ((t1.map isR++List.replicate (m - t1.length) false).map λb=>vS (bZ b)))=H4 at s4;have eS:H4 S3=some 14#((t1.map isR++1#G 0#bD false).map λb=>vS (bZ b)):=by rw[<- hH4];exact ac
  generalize t1.map isR++List.replicate (m - t1.length) false=sd at eS q;refine⟨_,rfl,l,_,0,_,rfl,rfl,0#w (4#k el),ag (j:=0) c0,_,rfl,a0,t0,m,rfl,4#k j7,hok t0 m0,a6 t0 m0,c2,λr0 H5 s5 hr0 d0=>?_⟩;obtain⟨hss,g1,g2⟩:=xj d0;have g4:=9#h;refine⟨_,rfl,_,rfl,_,rfl,l,_,rfl,0#w 110#g4,λL2 g5=>⟨L2,rfl,85#ac,?_⟩⟩;rw[show cutV (2#s) 23#2 none=(2#s).drop 2 from iE _ 2,<- List.map_drop] at *;have s6:=g4.trans (ad g5 14#((as.drop 2).map V.ref));have g3:=ad g5 14#((as.drop 2).map V.ref);have eL:upd H5 L2 14#((as.drop 2).map V.ref) L2=some 14#((as.drop 2).map V.ref):=ac;generalize upd H5 L2 (.lst ((as.drop 2).map V.ref))=H6 at s6 g3 eL ⊢;refine iA (λj b G=>LAt (PL c.cp) G b (bx m (((ls.drop 2)[j]?).getD []))) (λi b G G' s h=>h.same gx s) 74#eL (by rw[l4,l15];omega) ?_ ?_
  ·intro j v hv H7 s7 C N hC;rw[List.map_drop,2#X] at hv;show 125;refine⟨(1#l).set ∅ _,iteT (B:=N H7) ⟨_,rfl,_,rfl,a,ts,m,rfl,(9#i) _ _ ha,hok ts a3,a6 ts a3,c2,λr H8 s8 i3 d8=>hC r H8 s8 i3 ?_⟩⟩;rw[2#X,a7];exact d8
  intro D7 H7 bs hD7 s7 j4 c3 e2;have hL:Ls (LAt (PL c.cp) (dif H6 H7)) bs ((ls.drop 2).map (bx m)):=qC (by rw[c3,l4,l4,l15,l15,e3]) λi b x hb hx=>by
   show 27;have:=e2 i b hb;rw[ht] at this;show 54
  obtain⟨d6,h1,h3⟩:=xn hL;have c5:=g3.trans s7;refine λy dx hy a4 i2=>⟨y,dx,r0,S3,D7,hss,_,d6,rfl,ac,g1.sm (dif_same.trans (c5.trans (5#t a4))),by rw[g2.len,iK (a6 t0 m0)];omega,((s5.trans c5).trans (5#t a4)) _ _ eS,⟨bs,5#t a4 _ _ j4,h1.mono λa x h=>h.sm (dif_same.trans (5#t a4))⟩,by rw[h3.len,l4,l15];omega,h3.all λa b hb h=>?_,λh' s' l' H9 kx d1 d2 d3 e9=>⟨rfl,?_⟩⟩
  ·obtain⟨ts,a8,rfl⟩:=4#i hb;rw[h.len,iK (a6 ts (l64 a8))];omega
  ·obtain⟨sf,hb⟩:=o8 (R:=R) (sd:=sd) s4 s5 s6 s7 c5 hy a4 kx g2 h3 d1 d2 d3 e9;exact q y H9 sf hb
end
def FndB.from {β:Type}{c:Cb}{R:Hp->Addr->β->Prop}{H H1:Hp}{Q:VK}{b:BkF β}{j:Nat}(q:FndB c R H Q b j)(mR:MoR R)(s:4#L H1):FndB c R H1 Q b j:=λt a H' s' ht e hb=>q t a H' (s.trans s') 135#ht e (fc mR _ _ _ _ (aq s 18#_) hb)
def RlC (H:Hp)(v:V)(ts:0#m):Prop:=∃q,v = .ref q/\H q=some 14#(0#fT)/\ts≠[]
def B6 {H:Hp}{vs:0#t}{ls:List 16#(7#b)}(h:Zp (RlC H) vs ls):∃as:1#B,vs=2#s/\Ls (TxAt H) as ls:=by
 obtain⟨zs,rfl,rfl,hz⟩:=h
 induction zs with
 |nil=>exact⟨[],rfl,trivial⟩
 |cons z zs ih=>
  obtain⟨as,e,k⟩:=ih λx hx=>hz x 38#hx;obtain⟨q,e1,e2,_⟩:=hz z l7;exact⟨q::as,by rw[l16,l16,e,e1],e2,k⟩
section
variable {c:Cb}{BT:Addr}{β:Type}{R:Hp->Addr->β->Prop}
abbrev nQ:Stmt:=top 94
inductive spTableA (c:Cb)(R:Hp->Addr->β->Prop)(vs:0#t)(H:Hp)(Q:VK)(u3:XK):Prop
 |mk (rs i d)(_:RwAt vs H rs i d)(_:bT (bj (decide (d < 4)) (rs.drop i))=gq)(_:FndB c R H Q (tblR (tkW dk (decide (d < 4)) (rs.drop i))) (i+(tkW dk (decide (d < 4)) (rs.drop i)).length))
def vV {s:Srt}{ts:0#m}(h:dk s=some ts):s = .cells ts:=by cases s <;> cases h;rfl
def dU (mR:MoR R)(F:2#k "table_at" "table_at" nQ f fd)(T:3#R)(Da:0#c 5 "sort_at" p15 6#I)(Yt:0#c 8 "table_of" ["lines"] (spTblOf c R)):0#b 9 f fd p15 (spTableA c R):=by
 have sc:1#b ["rows","place","deep","lines","sort"] p15 55#nQ:=mkS;show 14;obtain⟨rs,i,d,⟨l,rfl,el,hok⟩,a7,q⟩:=h;refine az (xbc 20#3
  (xbc 31#(2#E)
  (xbc (di 1#x 42#4
  (xbc 75#3
  5#p))
  13#(xtup (xac (xcd Yt hr 19#(6#k)) 19#(2#h (2#E) (1#c 35#(6#k)))))))) ?_
 ac_nf;have a5:tkW dk 28#(d < 4) 30#i≠[]:=by
  obtain⟨ts,e⟩:=qG a7;obtain⟨_,e2⟩:=sY (f:=dk) (q:=decide (d < 4)) (rs:=rs) (i:=i) (x:=ts) rfl (by rw[e];rfl);rw[e2];exact λz=>0#k
 have j7:∀ts∈tkW dk 28#(d < 4) 30#i,OkT ts:=λts h=>by
  obtain⟨r,h1,h2⟩:=oZ h;have h3:=l64 h1;have h4:=db 28#(d < 4) r;have h5:=cM (q:=decide (d < 4)) (hok.asc r h3);have h6:=hok.row h3;rw[vV h2] at h4 h5;obtain⟨a1,a2,a3⟩:=h4;exact⟨a1,by omega,λt ht=>⟨by have:=a3 t ht;omega,h5 t ht⟩⟩
 have w6:(tkW dk 28#(d < 4) 30#i).length<=90000:=by
  have:=jo (f:=dk) (q:=decide (d < 4)) 30#i;have:=(hok.drop i).len;omega
 refine kr (K:=K) (f:=dk) (Rl:=RlC) (l:=l) (rs:=rs) (i:=i) (d:=d) (σt:=[]) (Pr:=λs=>∀ts,s = .cells ts->ts≠[]) (λj ts e=>?_) rfl 9#x (λH p s a a6 hp ha=>?_) (λ_ _ _ _ s ⟨q,e1,e2,e3⟩=>⟨q,e1,8#L e2,e3⟩) (λH X vs v v' a a' eX hx _ ⟨q,e1,e2,e3⟩=>⟨q,e1,?_,e3⟩) el hok λX p vs H1 s1 hX eX hz=>?_
 ·rw[kn] at e;cases hr:rs[j]? with
  |none=>rw[hr] at e;cases e
  |some r=>
   rw[hr] at e;have h4:=db 28#(d < 4) r;rw[show srtQ 28#(d < 4) r = .cells ts from e] at h4;intro z;rw[z] at h4;exact 0#A h4.1 ∅
 ·refine(aU gq hσ hp).eq ?_;cases s <;> rfl
 ·cases s with
  |cells w=>
   cases ha;obtain⟨q,e1,e2⟩:=hp;exact⟨_,_,e1,ag (j:=1) rfl,q,rfl,e2,a6 _ rfl⟩
  |_=>cases ha
 ·refine(ai λz=>?_).trans e2;rw[z,eX] at e2;cases a' with
  |nil=>exact e3 rfl
  |cons t ts=>
   cases e2;obtain⟨b,q',h1,_⟩:=hx (vS t) l7;cases h1
 obtain⟨as,rfl,a4⟩:=B6 hz;generalize tkW dk (decide (d < 4)) (rs.drop i)=ls at a5 j7 w6 a4 q;refine⟨_,rfl,X,ls,rfl,⟨as,eX,a4⟩,a5,w6,j7,λa H2 s2 hb=>?_⟩;refine⟨_,rfl,_,rfl,X,_,rfl, .inl 74#(s2 _ _ eX),_,_,rfl,rfl,bg2,λt ht=>q.tup mR (2#c) (fc mR _ _ _ _ (aq s1 18#_) hb) ht ?_⟩;rw[l4,a4.len];rfl
abbrev zk:Stmt:=top 88
def iL {k d:Nat}{inn:0#m->List β}{spQ:Sp}(hk:20<=k)(mR:MoR R)(F:2#k "block_at" "block_at" zk f fd)(T:3#R)(Da:0#c 5 "sort_at" p15 6#I)(Db:0#c 6 "parts_of" 1#K 0#aQ)
  (DA:0#Q "Heading" c.Heading p26 8#H)(DB:0#Q "Naming" c.Naming p28 9#e)(Yu:0#c 7 "note_at" p15 (spNote c R))(Yv:0#c 5 "literal_at" ["rows","place"] (spLitA c R))
  (Yw:0#c k "quote_at" p15 spQ)(hQ:d < 4->∀vs H Q E,spQuoteI c R inn d vs H Q E->spQ vs H Q E)(Yx:0#c 9 "table_at" p15 (spTableA c R))(Yy:0#c 20 "list_at" p15 (spListA c R))(Yz:0#c 7 "para_at" p15 (spPara c R)):
  FnOk P w K mg base CX0 (k+1) f fd p15 (spBlock c R (rdF 28#(d < 4) inn) d):=by
 have sc:1#b ["rows","place","deep","sort"] p15 55#zk:=mkS;show 0;obtain⟨rs,i,⟨l,rfl,el,hok⟩,q⟩:=h;refine az (xbc 39#(xcd Da hr 17#(xac (2#E) 19#(5#M)))
  (xbc (xif 42#3 13#(xtup 113#(xnew DA hr.mono (xac 47#(6#k) 19#(xcd Db hr 35#(xix ay (6#k) xint 6#J))))) xb0)
  (xbc (xif 42#3 13#(xtup 113#(xnew DB hr.mono (xac 47#(6#k) 19#(xix ay (6#k) xint 6#J)))) xb0)
  (xbc 69#Yu
  (xbc (xif 42#3 13#(xcd Yv hr 167#(2#U)) xb0)
  (xbc 69#Yw
  (xbc 69#Yx
  (xbc 69#Yy
  13#(xcd Yz hr (xac (2#U) (xac (2#E) 19#(5#M)))))))))))) ?_
 ac_nf;rw[Av];refine 0#aa
 symm
 have tail:∀{H2:Hp} {b:BkF β} {n:Nat},4#L H2->rdF 28#(d < 4) inn 30#i=(b,n)->FndB c R H2 Q b (i+n):=λs2 e=>by
  rw[e] at q;exact q.from mR s2
 have a3:∀{H2:Hp},4#L H2->RwAt [.ref l, .int i, .int d] H2 rs i d:=λs2=>⟨l,rfl,s2 _ _ el,hok⟩;cases hs:bj 28#(d < 4) 30#i with
 |heading lv w=>
  rw[hs] at hp;refine cz 3#B λH2 s2=>?_;have e:rdF 28#(d < 4) inn 30#i=(.heading lv (aT w),1):=by unfold rdF;rw[hs]
  have a1:=s2 _ _ hp;have d3:4#J<=90000/\Asc w:=by
   rw[kn] at hs;cases hr:rs[i]? with
   |none=>rw[hr] at hs;cases hs
   |some r=>
    rw[hr] at hs;have hm:=l22 hr;have h1:=db 28#(d < 4) r;have h2:=cM (q:=decide (d < 4)) (hok.asc r hm);have h3:=hok.row hm;rw[show srtQ 28#(d < 4) r=_ from hs] at h1 h2;exact⟨l17 h1.2 h3,h2⟩
  refine⟨_,rfl,p,_,1,_,rfl,rfl,2#m a1,ag (j:=1) rfl,_,rfl,p,_,2,_,rfl,rfl,2#m a1,ag (j:=2) rfl,w,rfl,by omega,d3.2,λr as H3 s3 hr3 er d2=>?_⟩;refine λy dx hy a2 c4=>⟨y,dx,_,r,_,rfl,ac,5#t a2 _ _ er,λp2 H6 a1 kx c5 d0=>⟨rfl,?_⟩⟩;have c2:=ini hy a2 kx;have c3:=2#c;have a5:=c3.trans s3;have a6:H3 p2=none:=(5#t a2).free a1;exact⟨_,rfl,_,_,rfl,rfl,bg2,λt ht=>(tail 18#H e).tup mR (a5.trans c2) ⟨dx,p2,by rw[aD (a5.free hy)];exact d0,as,by rw[aD (a5.free a6)];exact c5,d2.same (aq c3 c2)⟩ ht rfl⟩
 |name n t=>
  rw[hs] at hp;refine br 3#B λH2 s2=>cz 2#I λH2' c0=>?_;have e:rdF 28#(d < 4) inn 30#i=(.name n t,1):=by unfold rdF;rw[hs]
  have a1:=(s2.trans c0) _ _ hp;refine⟨_,rfl,p,_,1,_,rfl,rfl,2#m a1,ag (j:=1) rfl,_,rfl,p,_,2,_,rfl,rfl,2#m a1,ag (j:=2) rfl,λy dx hy a2 c4=>?_⟩;obtain⟨m1,m2⟩:=A0 (C:=c.Naming) (o1 := .ins c.Naming dx [("name",vS n)]) (o := .ins c.Naming dx [("name",vS n),("target",vS t)]) (s1.trans (s2.trans c0)) hy a2;exact⟨y,dx,_,_,rfl,ac,rfl,_,rfl,_,_,rfl,rfl,bg2,λt ht=>(tail 18#H e).tup mR m1 ⟨dx,m2⟩ ht rfl⟩
 |note n w=>
  rw[hs] at hp;refine br 3#B λH2 s2=>br 2#I λH3 s3=>cz 3#L λH4 s4=>?_;have a9:=s1.trans ((0#Y).trans s4);exact⟨_,rfl,_,rfl,_,rfl,rs,i,d,n,w,a3 a9,hs,tail a9 7#r⟩
 |fence=>
  rw[hs] at hp;refine br 3#B λH2 s2=>br 2#I λH3 s3=>br 3#L λH4 s4=>cz 2#O λH5 s5=>?_;have c1:=s1.trans (((0#Y).trans s4).trans s5);exact⟨_,rfl,_,rfl,l,rs,i,rfl,c1 _ _ el,hok,tail c1 (by unfold rdF;rw[hs,l26])⟩
 |quote x=>
  rw[hs] at hp;refine br 3#B λH2 s2=>br 2#I λH3 s3=>br 3#L λH4 s4=>br 2#O λH5 s5=>cz 3#s λH6 s6=>?_;have a8:=s1.trans ((((0#Y).trans s4).trans s5).trans s6);have d4:d < 4:=by
   rw[kn] at hs;cases hr:rs[i]? with
   |none=>rw[hr] at hs;cases hs
   |some r=>
    rw[hr] at hs;have hs:srtQ 28#(d < 4) r = .quote x:=hs;by_cases h:d < 4
    ·exact h
    ·rw[0#D h] at hs;by_cases hk:bT (aL r)=cU
     ·rw[xb hk] at hs;cases hs
     ·rw[tu hk] at hs;rw[hs] at hk;exact 0#A rfl hk
  exact⟨_,rfl,_,rfl,_,rfl,hQ d4 _ _ _ _ ⟨rs,i,a3 a8,tail a8 7#r⟩⟩
 |cells x=>
  rw[hs] at hp;refine br 3#B λH2 s2=>br 2#I λH3 s3=>br 3#L λH4 s4=>br 2#O λH5 s5=>br 3#s λH6 s6=>cz 4#f λH7 s7=>?_;have a7:=s1.trans (((((0#Y).trans s4).trans s5).trans s6).trans s7);exact⟨_,rfl,_,rfl,_,rfl,rs,i,d,a3 a7,by rw[hs];rfl,tail a7 7#r⟩
 |item a b x=>
  rw[hs] at hp;refine br 3#B λH2 s2=>br 2#I λH3 s3=>br 3#L λH4 s4=>br 2#O λH5 s5=>br 3#s λH6 s6=>br 4#f λH7 s7=>cz 7#T λH8 s8=>?_;have a4:=s1.trans 9#W;exact⟨_,rfl,_,rfl,_,rfl,rs,i,d,a3 a4,by rw[hs];rfl,tail a4 7#r⟩
 |_=>
  rw[hs] at hp;refine br 3#B λH2 s2=>br 2#I λH3 s3=>br 3#L λH4 s4=>br 2#O λH5 s5=>br 3#s λH6 s6=>br 4#f λH7 s7=>br 7#T λH8 s8=>?_;have a4:=s1.trans 9#W;exact⟨_,rfl,_,rfl,_,rfl,rs,i,d,a3 a4,tail a4 7#r⟩
end
structure TxF (K:Frag)(mg:Str->0#B)(c:Cb)(dc:Addr)(BT:Addr):Prop extends TxD K mg c BT where
 z37:Inst K dc
 q37:4#s dc "blocks"
section
variable {c:Cb}{BT dc:Addr}{β:Type}{R:Hp->Addr->β->Prop}
abbrev tM:Stmt:=top 22
def Odd (K:Frag)(H:Hp)(v:V):Prop:=(∃t,TyOf K H v t/\PySem.W.kitOne K t 3#N=2#p) ∨ ∃l,v=vS l/\9∈l
structure TxR (K:Frag)(mg:Str->0#B)(BX:Addr):Prop where
 u11:mg "isinstance"=none
 g11:mg "str"=none
 g14:mg "BadText"=some 11#BX
 q21:OwnX K BX
inductive spNeedT (K:Frag)(BX:Addr)(vs:0#t)(H:Hp)(Q:VK)(E:XK):Prop
 |mk (l:List Nat)(_:vs=[vS l])(_:9∉l->∀H',Same H H'->Q (vS l) H')(_:9∈l->∀H',Same H H'->E (.ref BX) none H')
 |no:∀v t,(vs=[v])->TyOf K H v t->PySem.W.kitOne K t (.type "str")=some false->(∀H',Same H H'->E (.ref BX) none H')->spNeedT K BX vs H Q E
def spNeedT.odd {BX:Addr}{v:V}{H:Hp}{Q:VK}{E:XK}(h:Odd K H v)(q:∀H',0#T->E 11#BX none H'):spNeedT K BX [v] H Q E:=by
 rcases h with ⟨t,h1,h2⟩ |⟨l,rfl,h9⟩
 ·exact .no v t rfl h1 h2 q
 ·exact .mk l rfl (λz=>0#A h9 z) λ_=>q
def vW {BX:Addr}(F:2#k "need_text" "need_text" tM f fd)(T:TxR K mg BX):4#U 9#r 1 f fd 5#D (spNeedT K BX):=by
 have sc:1#b 5#D 5#D 55#tM:=mkS;refine F.okR sc (λvs H Q E h=>?_) 8#T
 ·rcases h with ⟨l,rfl,_⟩ |⟨v,t,rfl,_⟩ <;> rfl
 refine az (xbc (xif 8#M 103#(wN T.q21 T.g14 rfl lu 10#xstr) xb0)
  (xbc (xif (aB gM xstr (2#U) 1#q) 103#(wN T.q21 T.g14 rfl lu 10#xstr) xb0)
  13#(2#U))) ?_
 ac_nf;rcases h with ⟨l,rfl,q1,q2⟩ |⟨v,t,rfl,ty,kt,q⟩
 ·refine⟨_,rfl,_,_,_,true,rfl, .str _,fw _ _,_,rfl,ite2 (λz=>0#A z ∅) λ_=>?_⟩;refine s_if _ (t_in 9 (l:=l) (ta:=tC 82#(0#e "\t")) ev_c 0#u) (λH1 s1 d=>?_) λH1 s1 d=>?_
  ·exact⟨bg1,q2 (l83.mp d) H1 s1⟩
  ·exact⟨_,rfl,q1 (λz=>by rw[l83.mpr z] at d;cases d) H1 s1⟩
 ·refine⟨_,rfl,_,_,_,false,rfl,ty,kt,_,rfl,ite2 8#J λz=>0#A rfl z⟩;exact⟨bg1,q H 18#H⟩
abbrev nR:Stmt:=top 23
inductive spRowsOf (vs:0#t)(H:Hp)(Q:VK)(u3:XK):Prop
 |mk (l:List Nat)(_:vs=[vS l])(_:l.length<=1000000)(_:∀r H',Same H H'->H r=none->H' r=some (.lst ((aG 10 l).map vS))->Q (.ref r) H')
def tO (F:2#k "rows_of" "rows_of" nR f fd):0#b 1 f fd 1#K spRowsOf:=by
 have sc:1#b 1#K 1#K 55#nR:=mkS;show 0;show 15;refine az 13#(8#j (2#U) 19#xstr) ?_;ac_nf;refine⟨_,rfl,rfl,S l,S [10],rfl,rfl,rfl,by rw[aw];omega,λp hp=>q p _ 46#hp hp ?_⟩;rw[ac,gW,l20];rfl
abbrev kD:Stmt:=meth 55 0
abbrev kE:Stmt:=meth 55 1
def qJ (F:2#k "__init__" "Document.__init__" kD f fd)(T:TxF K mg c dc BT):2#Q p20 129#dc:=by
 have sc:1#b p20 p20 55#kD:=mkS;show 0;show 7;refine⟨_,rfl,l,_,rfl, .inl 74#el,λp hp=>⟨_,rfl,x,_,dx,_,rfl,7#f e,T.z37.cls,T.q37,by decide,?_⟩⟩;show 17
def Bg (dc:Addr)(R:Hp->Addr->β->Prop)(H:Hp)(a:Addr)(bs:List β):Prop:=∃dx l,H a=some (.ins dc dx [("blocks", .ref l)])/\LAt R H l bs
inductive spDocTold (dc:Addr)(R:Hp->Addr->β->Prop)(f:β->PyData)(ok:β->Prop)(vs:0#t)(H:Hp)(Q:VK)(u3:XK):Prop
 |mk (a bs)(_:vs=[.ref a])(_:Bg dc R H a bs)(_:bs.length<=90000)(_:∀b∈bs,ok b)(_:∀v H',Same H H'->Dn (dif H H') v (.list (bs.map f))->Q v H')
def qK {k:Nat}{fB:β->PyData}{ok:β->Prop}(F:2#k "told" "Document.told" kE f fd)(T:TxF K mg c dc BT)(hM:5#b k "told" R ok (tellsB fB))(mR:MoR R):0#b (k+1) f fd 1#D (spDocTold dc R fB ok):=by
 have sc:1#b 1#D 1#D 55#kE:=mkS;show 0;obtain⟨a,bs,rfl,⟨dx,l,e,as,el,a1⟩,hl,hok,q⟩:=h;refine az (xb1 (xret (xlc0 (own:=["block"])
  (xil 122#xfld)
  22#(show (["block"]:0#O).Nodup by decide) 1#k 95#(2#U)))) ?_
 ac_nf;have w6:=a1.len;refine⟨_,rfl,a,_,dx,_,_,rfl,e,T.z37.cls,T.q37,rfl,l,rfl,85#el,?_⟩;refine dH 0#gw 74#el 1#A ?_ ?_
 ·show 38;obtain⟨a,b,rfl,a2,_,ha⟩:=a1.get hx;obtain⟨Cc,dx,fs,sp,e1,e2,V,a3⟩:=hM b (hok b 125#a2) H2 a (mR _ _ _ _ s2 ha);show 44
 ·show 47;exact q _ _ s2 dD
abbrev tP:Stmt:=top 85
inductive spReadT (K:Frag)(BX dc:Addr)(R:Hp->Addr->β->Prop)(rdg:0#m->β×Nat)(vs:0#t)(H:Hp)(Q:VK)(u3:XK):Prop
 |mk (l:List Nat)(_:vs=[vS l])(_:9∉l)(_:l.length<=100000)(_:SmR (aG 10 l))(_:∀a H',Same H H'->Bg dc R (dif H H') a ((blkR rdg (aG 10 l).length 0 (aG 10 l)).map (·.1))->Q (.ref a) H')
 |no:∀v,(vs=[v])->Odd K H v->(∀H',Same H H'->u3 (.ref BX) none H')->spReadT K BX dc R rdg vs H Q u3
def vX {BX:Addr}{k:Nat}{rdg:0#m->β×Nat}(hk:5<=k)(mR:MoR R)(F:2#k "read" "read" tP f fd)(T:TxF K mg c dc BT)(Yl:0#cF 1 "need_text" 5#D (spNeedT K BX))(Ym:0#c 1 "rows_of" 1#K spRowsOf)(DM:0#c k "blocks_of" p31 (spBlks R rdg 0))(Yn:0#Q "Document" dc p20 129#dc):4#U 9#r (k+1) f fd 1#K (spReadT K BX dc R rdg):=by
 have sc:1#b ["text","triples"] 1#K 55#tP:=mkS;refine F.okR sc (λvs H Q E h=>?_) 8#T
 ·rcases h with ⟨l,rfl,_⟩ |⟨v,rfl,_⟩ <;> rfl
 refine az (xbc 84#(xcd DM hr (xac (xcd Ym hr 10#(xcP Yl hr.mono 19#(2#U))) 10#xint))
  (xb1 (xret (xnew Yn hr.mono (xac (xlc0 (own:=["triple"])
  (xil (2#E))
  22#(show (["triple"]:0#O).Nodup by decide) 1#k (λ_ _ _ _=>0#dl)) xa0))))) ?_
 ac_nf;rcases h with ⟨l,rfl,h9,hl,hok,q⟩ |⟨v,rfl,hv,q⟩
 rotate_left
 ·exact⟨_,rfl, .odd hv q⟩
 refine⟨_,rfl, .mk l rfl (λ_ H1 s1=>⟨l,rfl,l17 hl ∅,λc1 H2 s2 hr2 a9=>⟨c1,aG 10 l,rfl,a9,hok,λr ts H3 s3 hr3 er a4=>?_⟩⟩) λz=>0#A z h9⟩
 symm
 have hbl:=ky (rdg:=rdg) (aG 10 l).length 0 (aG 10 l);have htl:=a4.len;have hwl:=hok.len;obtain⟨as,c2,c0,c4⟩:=nN a4;refine⟨_,rfl,r,rfl,85#er,?_⟩;show 82
 ·intro j x hx H4 s4 C N hC;rw[0#x] at hx;cases hj:ts[j]? with
  |none=>rw[hj] at hx;cases hx
  |some t=>
  rw[hj] at hx;cases hx;obtain⟨a,x,p1,p2,p3⟩:=c0 j t hj;refine⟨(1#l).set ∅ _,iteT (B:=N H4) ⟨_,rfl,t,_,0,_,rfl,rfl,2#m (4#k (0#gz p3)),ag (j:=0) rfl,?_⟩⟩;have:=hC H4 18#_;rw[0#x,p1] at this;show 54
 intro D H4 hD s4 eD;have eD:H4 D=some 14#(2#s):=by
  rw[eD,l4,<- c2];congr 2;apply l84;intro j;by_cases hj:j < 5#k
  ·rw[0#x,9#g hj,l94,0#x,0#l hj];rfl
  ·rw[3#b (by rw[l4,l42];omega),3#b 1#A]
 refine λy dx hy a2 hyd=>⟨y,dx,D,_,rfl,ac,5#t a2 _ _ eD,λp2 H6 a8 kx c3 a7=>⟨rfl,?_⟩⟩;have a5:=ini hy a2 kx;have a6:=2#c;have a1:=(a6.trans s3).trans s4;have a3:H4 p2=none:=(5#t a2).free a8;exact q y H6 (a1.trans a5) ⟨dx,p2,by rw[aD (a1.free hy)];exact a7,as,by rw[aD (a1.free a3)];exact c3,c4.mono λa x=>mR _ _ _ _ (aq a6 (s4.trans a5))⟩
end
end K13
namespace Lw
open PySem L2 Lm
def o9 {r:0#a}(h:aL r = .empty):emp r=true:=by unfold emp;rw[h];rfl
def vY {q:Bool}{r:0#a}(h:srtQ q r = .empty):emp r=true:=by
 unfold srtQ at h;show 36
 ·split at h <;> cases h
 ·exact o9 h
section
variable {β:Type}{q:Bool}{inn:0#m->List β}{r:0#a}{rs:0#m}
def tQ {α:Type}{f:Srt->Option α}{x:α}(h:f 6#u=some x):1<=(tkW f q 5#h).length:=by rw[ko h,l5];omega
def Bh {k:Nat}{a b:Nat}{x:0#a}(h:bj q rs = .item a b x):1<=(itR q (k+1) rs).2:=by
 rw[itR,h];show 1<=1+_+_;omega
def tR (h:emp r=false):1<=(rdF q inn 5#h).2:=by
 unfold rdF;cases hs:bj q 5#h with
 |empty=>rw[vY hs] at h;cases h
 |heading _ _=>exact l9 _
 |name _ _=>exact l9 _
 |note _ _=>exact Nat.le_add_right _ _
 |fence=>exact Nat.le_add_right _ _
 |quote x=>exact tQ (f:=eH) (show eH (bj q 5#h)=some x by rw[hs];rfl)
 |cells x=>exact tQ (f:=dk) (show dk (bj q 5#h)=some x by rw[hs];rfl)
 |item a b x=>exact Bh hs
 |plain a x=>exact tQ (f:=c9) (show c9 (bj q 5#h)=some x by rw[hs];rfl)
def zl (h:rs≠[]):1+(bQ q rs).length<=rs.length:=by
 cases rs with
 |nil=>exact 0#A rfl h
 |cons r rs=>
  have:=jo (f:=ci) (q:=q) rs;show 1+(tkW ci q rs).length<=_;rw[l5];omega
theorem xp:∀rs:List 16#Nat,(litR rs).2<=1#r/\(litR rs).1.length<=1#r/\∀x∈(litR rs).1,x∈rs
 | []=>⟨7#j,7#j,λ_ z=>0#k⟩
 |r::rs=>by
  obtain⟨h1,h2,h3⟩:=xp rs;by_cases h:bT (aL r)=bV
  ·rw[show litR 5#h=([],1) from 1#d h,l5];exact⟨by show 1<=_;omega,4#r,λ_ z=>0#k⟩
  ·rw[show litR 5#h=(r::(litR rs).1,(litR rs).2+1) from 0#z h,l5];refine⟨by show _+1<=_;omega,by show (litR rs).1.length+1<=_;omega,λx hx=>?_⟩;rcases 1#y hx with z |z
   ·rw[z];exact l7
   ·exact l8 _ (h3 x z)
def B7 (h:SmR rs):OkI (itR q rs.length rs).1:=by
 have a4:∀(k:Nat) (rs:List (List Nat)),SmR rs->(itR q k rs).1.length<=1#r/\∀x∈(itR q k rs).1,9#v/\x.2.2.length<=90000/\Asc x.2.2:=by
  intro k
  induction k with
  |zero=>exact λrs _=>⟨4#r,λ_ z=>0#k⟩
  |succ k ih=>
   intro rs h;rw[itR];split
   ·rename_i far sg w e;have a3:rs≠[]:=λz=>by rw[z] at e;cases e
    have h1:=zl (q:=q) a3;obtain⟨i1,i2⟩:=ih 30#(1+(bQ q rs).length) (h.drop _);have hz:SzS ((rs.head?).getD []).length (.item far sg w)/\AscS (.item far sg w)/\∀r,rs.head? = some r->4#J<=1#m/\Asc w:=by
     cases rs with
     |nil=>exact 0#A rfl a3
     |cons r rs=>
      have a1:=db q r;have a2:=cM (q:=q) (h.asc r l7);rw[show srtQ q r=_ from e] at a1 a2;exact⟨a1,a2,λr' a5=>by cases a5;exact⟨a1.2,a2.2⟩⟩
    have hg:=(h.more (q:=q) (w:=w) a3 hz.2.2).glue;rw[l15] at i1;refine⟨by show _+1<=_;omega,λx hx=>?_⟩;rcases 1#y hx with z |z
    ·rw[z];exact⟨hz.1.1,hg.1,hg.2⟩
    ·exact i2 x z
   ·exact 0#aW
 obtain⟨a,b⟩:=a4 rs.length rs h;exact⟨l17 a h.len,b⟩
def xq:∀(n:Nat) (its:List Itm),OkI its->(entR n its).1.length<=0#fg/\∀e∈(entR n its).1,OkE n e
 |0,_,_=>⟨4#r,λ_ z=>0#k⟩
 |n+1,its,h=>by
  have a1:∀(k:Nat) (its:List Itm),OkI its->(entF 159#n (5 - n) k its).1.length<=0#fg/\∀e∈(entF 159#n (5 - n) k its).1,OkE (n+1) e:=by
   intro k
   induction k with
   |zero=>exact λ_ _=>⟨4#r,λ_ z=>0#k⟩
   |succ k ih=>
    intro its h;cases its with
    |nil=>exact 0#aW
    |cons x r=>
     have hr:OkI r:=⟨by have:=h.1;rw[l5] at this;omega,λy hy=>h.2 y 38#hy⟩;have hd:OkI 3#u:=⟨by have:=hr.1;rw[l15];omega,λy hy=>hr.2 y (l64 hy)⟩;obtain⟨i1,i2⟩:=ih _ hd;obtain⟨j1,j2⟩:=xq n r hr;obtain⟨_,x1,x2⟩:=h.2 x l7;rw[entF];split
     ·rw[l15] at i1;refine⟨by show _+1<=_+1;omega,λe he=>?_⟩;rcases 1#y he with z |z
      ·rw[z];exact⟨cG x2 x1,l17 j1 (by have:=hr.1;omega),j2⟩
      ·exact i2 e z
     ·exact 0#aW
  exact a1 its.length its h
def vZ {m:Nat}{ts:0#m}(hm:m<=90000)(hl:2#g<=90000)(h:∀t∈ts,1#n<=90000/\Asc t):OkCs (bx m ts):=by
 unfold bx;refine⟨by rw[l4,l6,l23];omega,λps hp=>?_⟩;obtain⟨t,ht,rfl⟩:=4#i hp;rcases 2#n ht with z |z
 ·exact cG (h t z).2 (h t z).1
 ·rw[(l85.mp z).2];exact cG (λ_ y=>nomatch y) (4#r)
def Bi {ok:β->Prop}{ls:List 16#(7#b)}(hl:5#H<=90000)(h:∀ts∈ls,2#g<=90000/\∀t∈ts,1#n<=90000/\Asc t):OkBF ok (tblR (β:=β) ls):=by
 have hm:bU ls<=90000:=by
  clear hl
  induction ls with
  |nil=>exact l11 _
  |cons x ls ih=>
   have h1:=ih λts a1=>h ts 38#a1;have h2:=(h x l7).1;show max x.length (bU ls)<=_;omega
 have hc:∀ts∈ls,OkCs (bx (bU ls) ts):=λts a1=>vZ hm (h ts a1).1 (h ts a1).2;unfold tblR;split
 ·exact⟨0#aW,4#r,by rw[l4];omega,λl hl=>by obtain⟨ts,a1,rfl⟩:=4#i hl;exact hc ts a1⟩
 ·rename_i hn;have h2:2<=ls.length:=by
   by_cases h:5#H < 2
   ·exact 0#A 119#h hn
   ·omega
  have m0:ls.getD 0 []∈ls:=by rw[l24,0#l nofun];exact l46 _
  have m1:ls.getD 1 []∈ls:=by rw[l24,0#l nofun];exact l46 _
  have h3:=(h _ m1).1;exact⟨hc _ m0,by rw[l6,l4,l23];omega,by rw[l4,l15];omega,λl hl=>by obtain⟨ts,a1,rfl⟩:=4#i hl;exact hc ts (l64 a1)⟩
def xr {ok:β->Prop}(hin:∀xs,SmR xs->(inn xs).length<=90000/\∀b∈inn xs,ok b)(h:SmR rs):OkBF ok (rdF q inn rs).1:=by
 have hz:SzS 90000 (bj q rs)/\AscS (bj q rs)/\∀w,(∃n,bj q rs = .note n w)->rs≠[]/\∀r,rs.head? = some r->4#J<=1#m/\Asc w:=by
  cases rs with
  |nil=>exact⟨trivial,trivial,λw ⟨n,e⟩=>7#t⟩
  |cons r rs=>
   have a1:=db q r;have a2:=cM (q:=q) (h.asc r l7);have a3:=h.row (r:=r) l7;refine⟨?_,a2,λw ⟨n,e⟩=>⟨by simp,λr' a5=>?_⟩⟩
   ·show SzS 90000 6#u;generalize srtQ q r=s at a1;cases s with
    |empty=>trivial
    |fence=>trivial
    |quote x=>exact l17 a1 a3
    |heading l w=>exact⟨a1.1,l17 a1.2 a3⟩
    |cells ts=>exact⟨a1.1,l17 a1.2.1 a3,λt ht=>l17 (a1.2.2 t ht) a3⟩
    |note a w=>exact⟨l17 a1.1 a3,l17 a1.2 a3⟩
    |name a w=>exact⟨l17 a1.1 a3,l17 a1.2 a3⟩
    |item a b w=>exact⟨a1.1,l17 a1.2 a3⟩
    |plain a w=>exact l17 a1 a3
   ·cases a5;rw[show srtQ q r=_ from e] at a1 a2;exact⟨a1.2,a2.2⟩
 obtain⟨h1,h2,h3⟩:=hz;unfold rdF;cases hs:bj q rs with
 |heading lv w=>rw[hs] at h1 h2;exact⟨h1.1,cG h2 h1.2⟩
 |name n t=>rw[hs] at h1 h2;exact⟨⟨h2.1,l17 h1.1 ∅⟩,h2.2,l17 h1.2 ∅⟩
 |note n w=>
  obtain⟨a,b⟩:=h3 w ⟨n,hs⟩;have hg:=(h.more (q:=q) a b).glue;rw[hs] at h1 h2;exact⟨⟨h2.1,l17 h1.1 ∅⟩,cG hg.2 hg.1⟩
 |fence=>
  obtain⟨a,b,d⟩:=xp 30#1;have:=(h.drop 1).len;exact⟨by omega,λl hl=>⟨(h.drop 1).asc l (d l hl),l17 ((h.drop 1).row (d l hl)) ∅⟩⟩
 |quote x=>exact hin _ (h.tk o6 mr)
 |cells x=>
  refine Bi (l17 (jo rs) h.len) λts a4=>?_;obtain⟨r,hr,e⟩:=oZ a4;have a1:=db q r;have a2:=cM (q:=q) (h.asc r hr);have a3:=h.row hr;have e:srtQ q r = .cells ts:=by
   generalize srtQ q r=s at e;cases s <;> cases e
   rfl
  rw[e] at a1 a2;exact⟨l17 a1.2.1 a3,λt ht=>⟨l17 (a1.2.2 t ht) a3,a2 t ht⟩⟩
 |item a b x=>
  have ho:=(B7 (q:=q) h).lvs.1;obtain⟨e1,e2⟩:=xq 6 _ ho;exact⟨l17 e1 (l17 ho.1 ∅),e2⟩
 |empty=>have hg:=(h.tk (q:=q) fN fO).glue;exact cG hg.2 hg.1
 |plain a x=>have hg:=(h.tk (q:=q) fN fO).glue;exact cG hg.2 hg.1
end
theorem gI {β:Type}{rd:0#m->β×Nat}:∀(k p:Nat) (rs:List (List Nat)),(blkR rd k p rs).length<=k
 |0,_,_=>7#j
 |_+1,_,[]=>4#r
 |k+1,p,r::rs=>by
  rw[blkR];split
  ·exact Nat.le_succ_of_le (gI k _ _)
  ·exact Nat.succ_le_succ (gI k _ _)
theorem iM {β:Type}{rd:0#m->β×Nat}{ok:β->Prop}(h:∀rs,SmR rs->ok (rd rs).1):∀(k p:Nat) (rs:List (List Nat)),SmR rs->∀b∈(blkR rd k p rs),ok b.1
 |0,_,_,_=>λ_ z=>0#k
 |_+1,_,[],_=>λ_ z=>0#k
 |k+1,p,r::rs,hs=>λb hb=>by
  rw[blkR] at hb;split at hb
  ·exact iM h k _ rs (hs.drop 1) b hb
  ·rcases 1#y hb with z |z
   ·rw[z];exact h _ hs
   ·exact iM h k _ _ (hs.drop _) b z
def zm:∀(n:Nat) (rs:List (List Nat)),SmR rs->OkB n (rd n rs).1
 |0,rs,h=>xr (ok:=λz:Empty=>0#k) (λ_ _=>⟨4#r,λ_ z=>0#k⟩) h
 | n + 1, rs, h => xr (ok := OkB n) (fun xs hx => ⟨by rw[l4];exact l17 (gI _ _ _) (l17 hx.len ∅),λb hb=>by
   obtain⟨t,ht,rfl⟩:=4#i hb;exact iM (ok:=OkB n) (λrs hs=>zm n rs hs) _ _ _ hx t ht⟩) h
theorem jp:∀{n:Nat} {r:List Nat} {rs:List (List Nat)},emp r=false->1<=(rd n 5#h).2
 |0,_,_,h=>tR h
 |_+1,_,_,h=>tR h
def NoMk (t:0#a):Prop:=∀c∈t,c≠92/\c≠42/\c≠96/\c≠91
theorem gt:∀{t:List Nat},NoMk t->aF t=t.map Pc.sign
 | [],_=>bX
 |x::r,h=>by
  obtain⟨h1,h2,h3,h4⟩:=h x l7;have e:cI (x::r)=some (.sign x,r):=by
   show (if aO (x::r) then _ else _)=_;rw[c8 h1];simp only[Bool.false_eq_true,if_false,if_neg h2,if_neg h3,if_neg h4]
  rw[bC e,gt λc hc=>h c 38#hc];rfl
theorem pb:∀t:List Nat,1#P (t.map Pc.sign)=t.map λx=>Qc.txt [x]
 | []=>rfl
 |x::r=>by
  show toQ (.sign x)::1#P (r.map Pc.sign)=_;rw[pb r];rfl
theorem pd:∀(t:List Nat) (sg:List (List Nat)),mgGo sg (t.map λx=>Qc.txt [x])=bw (sg++t.map λx=>[x])
 | [],sg=>by rw[l47,l47,l12];rfl
 |x::r,sg=>by
  show mgGo (sg++[[x]]) (r.map λx=>Qc.txt [x])=_;rw[pd r,l19];rfl
theorem pe:∀t:List Nat,(t.map λx=>[x]).flatten=t
 | []=>rfl
 |x::r=>by rw[l16,l36,pe r];rfl
def nS {t:0#a}(h:NoMk t)(hn:t≠[]):aT t=[.one 72#t]:=by
 unfold aT;rw[gt h,pb,pd,l38];unfold bw;rw[pe];cases t with
 |nil=>exact 0#A rfl hn
 |cons x r=>rfl
def mv:aT []=[]:=by
 unfold aT;rw[bX];rfl
section
variable {β:Type}{k6:9#a->List β×Nat}{lv:Nat}
def mw:∀(k:Nat) (its:List Itm),0#fg<=k->∀k',0#fg<=k'->entF k6 lv k its=entF k6 lv k' its
 |0,[],_,0,_=>rfl
 |0,[],_,_+1,_=>rfl
 |0,_::_,h,_,_=>0#A h 3#S
 |_+1,[],_,0,_=>rfl
 |_+1,[],_,_+1,_=>rfl
 |_+1,_::_,_,0,h=>0#A h 3#S
 |k+1,x::r,h,k'+1,h'=>by
  have e:=mw k (r.drop (k6 r).2) (by rw[l15];rw[l5] at h;omega) k' (by rw[l15];rw[l5] at h';omega);unfold entF;rw[e]
end
def tT (n:Nat):entR n []=([],0):=by cases n <;> rfl
def xu {n:Nat}{x:Itm}{r:9#a}(h:x.1+n < 6):entR n (x::r)=([],0):=by
 cases n with
 |zero=>rfl
 |succ n=>
  show entF 159#n (5 - n) (1#m+1) (x::r)=_;rw[entF,0#z nofun];rfl
def tU {n:Nat}{x:Itm}{r:9#a}(h:5<=x.1+n):entR (n+1) (x::r)=((⟨decide (x.2.1=43),aT x.2.2,(entR n r).1⟩:EnF (En n))::(entR (n+1) 3#u).1,1+(entR n r).2+(entR (n+1) 3#u).2):=by
 have e:entR (n+1) 3#u=entF 159#n (5 - n) r.length 3#u:=mw _ _ (7#j) _ 4#M;rw[e];show entF 159#n (5 - n) (1#m+1) (x::r)=_;rw[entF,1#d nofun]
section
variable {α:Type}{f:Srt->Option α}{q:Bool}
def Tk (f:Srt->Option α)(q:Bool):0#m->List α->Prop
 | [],[]=>True
 |r::rs,x::xs=>f 6#u=some x/\Tk f q rs xs
 |_,_=>False
theorem Tk.len:∀{rs:List (List Nat)} {xs:List α},Tk f q rs xs->0#E=1#r
 | [],[],_=>rfl
 | [],_::_,h=>6#T
 |_::_,[],h=>6#T
 |_::rs,_::xs,h=>2#u (· + 1) (Tk.len (rs:=rs) (xs:=xs) h.2)
theorem Tk.take {X:0#m}(hX:f (bj q X)=none):∀{rs:List (List Nat)} {xs:List α},Tk f q rs xs->tkW f q (rs++X)=xs
 | [],[],_=>nJ hX
 | [],_::_,h=>6#T
 |_::_,[],h=>6#T
 |r::rs,x::xs,h=>by
  rw[l28,ko h.1,Tk.take hX h.2]
theorem Tk.snoc:∀{rs:List (List Nat)} {xs:List α} {r:List Nat} {x:α},Tk f q rs xs->f 6#u=some x->Tk f q (rs++[r]) (xs++[x])
 | [],[],_,_,_,k=>⟨k,trivial⟩
 | [],_::_,_,_,h,_=>6#T
 |_::_,[],_,_,h,_=>6#T
 |_::_,_::_,_,_,h,k=>⟨h.1,Tk.snoc h.2 k⟩
end
def tV (rs:0#m)(x:Itm):Prop:=∃r0 ms w0 ws,rs=r0::ms/\srtQ true r0 = .item x.1 x.2.1 w0/\Tk ci true ms ws/\x.2.2=ao [32] (w0::ws)
def ItRows:List 16#Nat->9#a->Prop:=λrs a1=>∃gs:List (0#m×Itm),rs=(gs.map (·.1)).flatten/\a1=gs.map (·.2)/\∀g∈gs,tV g.1 g.2
def ItRows.nil:ItRows [] []:=⟨[],rfl,rfl,λ_ z=>0#k⟩
def ItRows.snoc {rs:0#m}{its:9#a}{g:0#m}{x:Itm}(h:ItRows rs its)(k:tV g x):ItRows (rs++g) (its++[x]):=by
 obtain⟨gs,rfl,rfl,h⟩:=h;refine⟨gs++[(g,x)],by simp,by simp,λy hy=>?_⟩;rcases 2#n hy with z |z
 ·exact h y z
 ·rw[2#R z];exact k
def wa {r:0#a}(h:bT (aL r)≠oG):emp r=false:=0#D h
def aW (r:0#a):0#bR r=aL r:=by unfold srtQ;split <;> simp_all
section
variable {β:Type}{rdg:0#m->β×Nat}
def nU {r:0#a}{rs:0#m}{k p:Nat}(h:emp r=true):blkR rdg (k+1) p 5#h=blkR rdg k (p+1) rs:=by
 rw[blkR,1#d h]
def kF {r:0#a}{rs:0#m}{k p:Nat}(h:emp r=false):blkR rdg (k+1) p 5#h=((rdg 5#h).1,p,p+(rdg 5#h).2)::blkR rdg k (p+(rdg 5#h).2) ((r::rs).drop (rdg 5#h).2):=by
 conv=>lhs;unfold blkR
 rw[0#z (by rw[h];exact 1#o)]
def nV (k p:Nat):blkR rdg k p []=[]:=by cases k <;> rfl
end
def bls4 (rs:0#m):List (Bl 4):=(blks 4 rs).map (·.1)
end Lw
namespace K13
open PySem L2 Lm Lw
def GdR (r:0#a):Prop:=∀c∈r,c < 128/\c≠10/\c≠9
def GdR.app {a b:0#a}(h:GdR a)(k:GdR b):GdR (a++b):=λc hc=>(2#n hc).elim (h c) (k c)
section
abbrev nW:Stmt:=top 102
inductive spCellAt (K:Frag)(vs:0#t)(H:Hp)(Q:VK)(u3:XK):Prop
 |mk (a:Addr)(ns:List Int)(k:Nat)(_:vs=[.ref a, .int k])(_:SqL K H a (ns.map V.int))(_:∀i:Int,Q (.int i) H)
def tW (F:2#k "_law_cell_at" "_law_cell_at" nW f fd)(T:Tx mg):2#Q p35 (spCellAt K):=by
 have sc:1#b p35 p35 55#nW:=mkS;show 0;obtain⟨a,ns,k,rfl,hq,q⟩:=h;refine az (xbc (xif 143#(2#E) 13#(4#t (2#U) (2#E) 0#n) xb0)
  13#xint) ?_
 ac_nf;refine⟨_,rfl,_,rfl,a,_,rfl, .inl hq,_,_,rfl,rfl,_,rfl,?_⟩;show 97
 ·have c:=0#s c;rw[l4] at c;have hk:k < ns.length:=by omega
  exact⟨_,rfl,_,rfl,a,_,_, .int ns[k],rfl,rfl,hq,ag (by rw[0#x,0#l hk];rfl),q _⟩
 ·exact q 0
abbrev mx:Stmt:=top 103
def nX:FnScope ["_law_cell","_law_k","_law_number"] p17 55#mx:=mkS
def wb (F:2#k "_law_mixed" "_law_mixed" mx f fd):FnOk P w K mg base CX0 1 f fd p17 spMixed:=by
 have sc:=nX;show 0;show 134;refine az (xbc 49#(xop aM 6#B xint)
  13#(xop aS 48#(xop bJ (5#M) 3#E) xint)) ?_
 ac_nf;have hk2:0<=k * k/\k * k<=10000:=by
  show 41
  ·exact Int.mul_nonneg h0 h0
  ·calc k * k<=100 * 100:=0#eg nofun
    _=10000:=rfl
 refine 1#z;refine 0#R
 ·show 74;show 41
  ·show 85
  ·show 86
 ·refine q _ ?_;show 80
end
end K13
namespace Lw
open PySem L2 Lm
def NoIt (x:0#a):Prop:=¬ ([45,32].isPrefixOf x=true ∨ [43,32].isPrefixOf x=true)
def tX {x:0#a}(far:Nat)(hh:x.headD 0≠32)(hi:NoIt x):fA (bls far++x) = .plain far (aN x):=by
 have a1:(bls far++x).dropWhile ([32]:0#a).contains=x:=wS far 32 x hh ∅;show 76;rw[a1,0#z hi,l6,bls,l23,l82]
def tY {x:0#a}(far n:Nat)(hn:x≠[])(hh:x.headD 0≠32)(hl:x.getLastD 0≠32)(hi:NoIt x)(h0:far=0->x.headD 0≠62/\x.headD 0≠126/\x.headD 0≠61/\x.headD 0≠124/\x.headD 0≠91):aL (bls far++x++bls n) = .plain far (aN x):=by
 have hb:=cL (x:=bls far++x) n (by rw[bB hn];exact hl);rw[lH hb (by simp[hn]) ?_,tX far hh hi];intro y hy;cases far with
 |zero=>
  obtain⟨c,r,rfl⟩:∃c r,x=c::r:=by cases x with |nil=>exact 0#A rfl hn |cons c r=>exact⟨c,r,rfl⟩
  cases hy;exact h0 rfl
 |succ k=>rw[bls,l33] at hy;cases hy;decide
def zn {gr t:0#a}(n:Nat)(hg:93∉gr)(ht:93∉t)(hl:(3#f++gr++93::92::t).getLastD 0≠32):aL (3#f++gr++93::92::t++bls n) = .plain 0 (aN (3#f++gr++93::92::t)):=by
 have hb:=cL n hl;have hd:defC (3#f++gr++93::92::t)=none:=by
  unfold defC;rw[vA λk hk z=>?_];have e1:(3#f++gr++93::92::t)[k]? = some 93:=by
   have:=2#u (λt=>t[0]?) z;show 28
  have e2:(3#f++gr++93::92::t)[k+1]? = some 58:=by
   have:=2#u (λt=>t[1]?) z;show 28
  by_cases c:k < (3#f++gr).length
  ·rw[3#l c] at e1;rcases 2#n 125#e1 with y |y
   ·exact 0#A y ∅
   ·exact hg y
  ·rw[2#l nofun] at e1 e2;generalize ([91,94]++gr).length=L at c e1 e2;obtain⟨j,rfl⟩:∃j,k=L+j:=⟨k - L,by omega⟩;rw[Nat.add_sub_cancel_left] at e1;rw[Nat.add_assoc,Nat.add_sub_cancel_left] at e2;cases j with
   |zero=>cases e2
   |succ j=>
    cases j with
    |zero=>cases e1
    |succ j=>exact ht 125#(show t[j]? = some 93 from e1)
 rw[mY hb rfl,hd];exact tX (x := [91, 94] ++ gr ++ 93 :: 92 :: t) 0 0#h (by
  rintro(z |z) <;> rw[pre2] at z <;> cases z.1)
def Tl (t:0#a):Prop:=t=[] ∨ t.headD 0=32
def Tl.add {t:0#a}(h:Tl t)(k:Nat)(u:0#a):Tl (t++bls (k+1)++u):=by
 rcases h with z |z
 ·rw[z];exact .inr (by rw[bls,l33];rfl)
 ·cases t with
  |nil=>exact .inr (by rw[bls,l33];rfl)
  |cons x r=>exact .inr z
def kG {w t:0#a}(hw:32∉w)(hn:w≠[])(h:Tl t):ax (w++t)=w::ax t:=by
 cases t with
 |nil=>rw[l12,cS w hw hn];rfl
 |cons x r=>
  rcases h with z |z
  ·cases z
  ·have z:x=32:=z;rw[z,lF,cY,cS w hw hn];rfl
def my {x w:0#a}(k:Nat)(hw:32∉w)(hn:w≠[]):ax (x++bls (k+1)++w)=ax x++[w]:=by rw[lG,cS w hw hn]
def ez (x:0#a)(n:Nat):ax (x++bls n)=ax x:=by
 cases n with
 |zero=>rw[show bls 0=[] from rfl,l12]
 |succ n=>
  have:=lG x [] n;rw[l12] at this;rw[this];show ax x++[]=_;rw[l12]
def dW {w : List Nat} (hw : 32 ∉ w) (hn : w ≠ []) : w.getLastD 0 ≠ 32 := fun z => hw (by
 rw[<- z,List.getLastD_eq_getLast?,List.getLast?_eq_some_getLast hn];exact List.getLast_mem hn)
def zo {w t:0#a}(hw:32∉w)(hn:w≠[])(h1:w≠[45])(h2:w≠[43]):NoIt (w++t):=by
 cases w with
 |nil=>exact 0#A rfl hn
 |cons a w=>
  cases w with
  |nil=>
   rintro(z |z) <;> rw[pre2] at z
   ·exact h1 (by rw[1#w z.1])
   ·exact h2 (by rw[1#w z.1])
  |cons b w=>
   rintro(z |z) <;> rw[pre2] at z <;> exact hw (by rw[<- 1#w z.2];exact l8 _ l7)
structure FRow (m:0#a)(g:0#m):Prop where
 ex:∃n w t k,m=bls (n+1)++(w++t)++bls k/\32∉w/\w≠[]/\w≠[45]/\w≠[43]/\Tl t/\(w++t).getLastD 0≠32
 ws:ax m=g
def FRow.sort {m:0#a}{g:0#m}(h:FRow m g):ci (aL m)=some 71#g/\c9 (aL m)=some 71#g/\g≠[]:=by
 obtain⟨⟨n,w,t,k,e,h1,h2,h3,h4,h5,h6⟩,hg⟩:=h;have a1:w++t≠[]:=by simp[h2]
 have hh:(w++t).headD 0≠32:=by
  cases w with
  |nil=>exact 0#A rfl h2
  |cons a w=>exact λz=>h1 (by rw[<- show a=32 from z];exact l7)
 have hs:=tY (n+1) k a1 hh h6 (zo h1 h2 h3 h4) 2#B;have ht:aN (w++t)=ao [32] g:=by
  rw[<- hg,e,ez,bh];rfl
 rw[<- e,ht] at hs;rw[hs];refine⟨?_,rfl,?_⟩
 ·show (if 1<=n+1 then some 71#g else none)=_;rw[1#d nofun]
 ·rw[<- hg,e,ez,bh,kG h1 h2 h5];simp
def Zp:List 16#Nat->List 16#(7#b)->Prop
 | [],[]=>True
 |m::ms,g::gs=>FRow m g/\Zp ms gs
 |_,_=>False
structure Brk (ah:0#a)(ws:0#m)(rs:0#m):Prop where
 ex:∃(w0 t:List Nat) (k:Nat) (ms:List (List Nat)) (gs:List (List (List Nat))),rs=(ah++(w0++t)++bls k)::ms/\ws.head? = some w0/\Tl t/\(w0++t).getLastD 0≠32/\(∀c∈t,c=32 ∨ ∃w∈ws.drop 1,c∈w)/\Zp ms gs/\ax (w0++t)++gs.flatten=ws
theorem pf:∀{a b:List (List Nat)},a≠[]->b≠[]->ao [32] (a++b)=ao [32] a++[32]++ao [32] b
 | [],_,h,_=>0#A rfl h
 | [p],b,_,hb=>aQ _ _ _ hb
 |p::q::r,b,_,hb=>by
  rw[l28,5#v,pf (a:=q::r) 0#h hb,aQ _ p (q::r) 0#h];simp
theorem fm:∀{gs:List (List (List Nat))},(∀g∈gs,g≠[])->ao [32] (gs.map (ao [32]))=ao [32] gs.flatten
 | [],_=>rfl
 | [g],_=>by simp[ao]
 |g::h::gs,k=>by
  have ih:=fm (gs:=h::gs) λx hx=>k x 38#hx;have a1:(h::gs).flatten≠[]:=by
   have:=k h 38#l7;simp[this]
  rw[l16,5#v,ih,l36 (l:=g),pf (k g l7) a1]
theorem Zp.snoc:∀{ms:List (List Nat)} {gs:List (List (List Nat))} {m:List Nat} {g:List (List Nat)},Zp ms gs->FRow m g->Zp (ms++[m]) (gs++[g])
 | [],[],_,_,_,h=>⟨h,trivial⟩
 | [],_::_,_,_,h,_=>6#T
 |_::_,[],_,_,h,_=>6#T
 |_::_,_::_,_,_,h,k=>⟨h.1,Zp.snoc h.2 k⟩
theorem Zp.tk:∀{ms:List (List Nat)} {gs:List (List (List Nat))},Zp ms gs->Tk ci true ms (gs.map (ao [32]))/\Tk c9 true ms (gs.map (ao [32]))/\∀g∈gs,g≠[]
 | [],[],_=>⟨trivial,trivial,λ_ z=>0#k⟩
 | [],_::_,h=>6#T
 |_::_,[],h=>6#T
 |m::ms,g::gs,h=>by
  obtain⟨a,b,c⟩:=Zp.tk h.2;obtain⟨d,e,f⟩:=h.1.sort;refine⟨⟨by rw[aW];exact d,a⟩,⟨by rw[aW];exact e,b⟩,λx hx=>?_⟩;rcases 1#y hx with z |z
  ·rw[z];exact f
  ·exact c x z
def Brk.snoc {ah:0#a}{us g rs:0#m}{m:0#a}(h:Brk ah us rs)(k:FRow m g):Brk ah (us++g) (rs++[m]):=by
 obtain⟨⟨w0,t,i,ms,gs,e,h1,h2,h3,h4,h5,h6⟩⟩:=h;have hu:∃r,us=w0::r:=by cases us with |nil=>cases h1 |cons a b=>cases h1;exact 24#b
 obtain⟨r,hr⟩:=hu;refine⟨⟨w0,t,i,ms++[m],gs++[g],by rw[e];rfl,by rw[hr];rfl,h2,h3,λc hc=>?_,h5.snoc k,by rw[l74,<- l19,h6];simp⟩⟩;rcases h4 c hc with z |⟨w,hw,z⟩
 ·exact .inl z
 ·refine .inr ⟨w,?_,z⟩;rw[hr] at hw ⊢;exact l44 _ hw
inductive BO (ah:0#a):0#m->0#m->0#a->Prop
 |fst (w0 t:List Nat) (us:List (List Nat)):us.head? = some w0->Tl t->(w0++t).getLastD 0≠32->(∀c∈t,c=32 ∨ ∃w∈us.drop 1,c∈w)->ax (w0++t)=us->BO ah us [] (ah++(w0++t))
 |more (us0 done:List (List Nat)) (n:Nat) (w t:List Nat) (us:List (List Nat)):Brk ah us0 done->32∉w->w≠[]->w≠[45]->w≠[43]->Tl t->(w++t).getLastD 0≠32->us=us0++ax (w++t)->BO ah us done (bls (n+1)++(w++t))
def BO.close {ah:0#a}{us done:0#m}{cur:0#a}(k:Nat)(h:BO ah us done cur):Brk ah us (done++[cur++bls k]):=by
 cases h with
 |fst w0 t _ h1 h2 h3 h4 h5=>exact⟨⟨w0,t,k,[],[],rfl,h1,h2,h3,h4,trivial,by rw[h5];simp⟩⟩
 |more us0 _ n w t _ h0 h1 h2 h3 h4 h5 h6 h7=>
  rw[h7];exact h0.snoc ⟨⟨n,w,t,k,rfl,h1,h2,h3,h4,h5,h6⟩,by rw[ez,bh]⟩
def BO.ends {ah:0#a}{us done:0#m}{cur:0#a}(h:BO ah us done cur):Brk ah us (done++[cur]):=by
 have:=h.close 0;rwa [show bls 0=[] from rfl,l12] at this
def BO.one {ah w:0#a}(hw:32∉w)(hn:w≠[]):BO ah [w] [] (ah++w):=by
 have:=BO.fst (ah:=ah) w [] [w] rfl 2#a (by rw[l12];exact dW hw hn) 1#F (by rw[l12];exact cS w hw hn);rwa [l12] at this
def BO.add {ah:0#a}{us done:0#m}{cur w:0#a}(k:Nat)(hw:32∉w)(hn:w≠[])(h:BO ah us done cur):BO ah (us++[w]) done (cur++bls (k+1)++w):=by
 cases h with
 |fst w0 t _ h1 h2 h3 h4 h5=>
  have hu:∃r,us=w0::r:=by cases us with |nil=>cases h1 |cons a b=>cases h1;exact 24#b
  obtain⟨r,hr⟩:=hu;have:=BO.fst (ah:=ah) w0 0#db (us++[w]) (by rw[hr];rfl) (h2.add k w) 0#gf (λc hc=>?_) (by rw[<- l19,<- l19,my k hw hn,h5])
  ·have e:ah++(w0++0#db)=ah++(w0++t)++bls (k+1)++w:=by simp
   rwa [e] at this
  ·rw[hr,l28];rcases 2#n hc with z |z
   ·rcases 2#n z with z |z
    ·rcases h4 c z with y |⟨v,hv,y⟩
     ·exact .inl y
     ·rw[hr] at hv;exact .inr ⟨v,l44 _ hv,y⟩
    ·exact .inl (l85.mp z).2
   ·exact .inr ⟨w,l35 _ l7,z⟩
 |more us0 _ n v t _ h0 h1 h2 h3 h4 h5 h6 h7=>
  have:=BO.more (ah:=ah) us0 done n v 0#db (us++[w]) h0 h1 h2 h3 h4 (h5.add k w) 0#gf (by rw[<- l19,<- l19,my k hw hn,h7,l19]);have e:bls (n+1)++(v++0#db)=bls (n+1)++(v++t)++bls (k+1)++w:=by simp
  rwa [e] at this
def BO.brk {ah:0#a}{us done:0#m}{cur w:0#a}(k n:Nat)(hw:32∉w)(hn:w≠[])(h45:w≠[45])(h43:w≠[43])(h:BO ah us done cur):BO ah (us++[w]) (done++[cur++bls k]) (bls (n+1)++w):=by
 have:=BO.more (ah:=ah) us _ n w [] (us++[w]) (h.close k) hw hn h45 h43 2#a (by rw[l12];exact dW hw hn) (by rw[l12,cS w hw hn]);rwa [l12] at this
inductive FstOk (ws:0#m):Prop
 |sg (c:Nat) (r:List Nat):ws.head? = some (c::r)->c≠32/\c≠62/\c≠126/\c≠61/\c≠124/\c≠91/\c≠45/\c≠43->FstOk ws
 |mk (gr t:List Nat):ws.head? = some ([91,94]++gr++93::92::t)->93∉gr->93∉t->(∀w∈ws.drop 1,93∉w)->FstOk ws
def ph {x:0#a}(h:∃c∈x,c≠32):ax x≠[]:=λz=>by
 obtain⟨c,hc,hn⟩:=h;have:∀{l:List Nat},ax l=[]->∀c∈l,c=32:=by
  intro l
  induction l with
  |nil=>intro _ c hc;cases hc
  |cons x l ih=>
   intro e c hc;by_cases hx:x=32
   ·rw[hx,cY] at e;rcases 1#y hc with z |z
    ·rw[z,hx]
    ·exact ih e c z
   ·exfalso;obtain⟨a,b,a1,ha,hb⟩:∃a b,x::l=a++b/\(32∉a/\a≠[])/\Tl b:=by
     have h1:=l57 (p:=λc=>decide (c≠32)) (l:=x::l);refine⟨_,_,h1.symm,⟨λz=>?_,?_⟩,?_⟩
     ·have:=oC z;simp at this
     ·rw[List.takeWhile_cons_of_pos (by simpa using hx)];simp
     ·cases hd:(x::l).dropWhile λc=>decide (c≠32) with
      |nil=>exact .inl rfl
      |cons y r=>
       have:=jG hd;exact .inr (by simpa using this)
    rw[a1,kG ha.1 ha.2 hb] at e;cases e
 exact hn (this z c hc)
def Brk.para {ws rs:0#m}(h:Brk [] ws rs)(f:FstOk ws):∃r ms u0 us,rs=r::ms/\aL r = .plain 0 u0/\Tk c9 true ms us/\ao [32] (u0::us)=ao [32] ws:=by
 show 128;obtain⟨_,a2,a3⟩:=h5.tk;have hg:ao [32] (aN (w0++t)::gs.map (ao [32]))=ao [32] ws ∨ ax (w0++t)=[]:=by
  by_cases c:ax (w0++t)=[]
  ·exact .inr c
  ·left;have:=fm (gs:=ax (w0++t)::gs) λg hg=>by
    rcases 1#y hg with z |z
    ·rw[z];exact c
    ·exact a3 g z
   rw[l36,h6] at this;show 54
 refine⟨_,ms,aN (w0++t),gs.map (ao [32]),e,?_,a2,?_⟩
 ·cases f with
  |sg c r hc hs=>
   rw[h1] at hc;cases hc;have := tY (x := c :: r ++ t) 0 k 0#h hs.1 h3 (by
    rintro(z |z) <;> rw[pre2] at z
    ·exact hs.2.2.2.2.2.2.1 (1#w z.1)
    ·exact hs.2.2.2.2.2.2.2 (1#w z.1)) (λ_=>⟨hs.2.1,hs.2.2.1,hs.2.2.2.1,hs.2.2.2.2.1,hs.2.2.2.2.2.1⟩)
   show 54
  |mk gr u hc hgr hu hw=>
   rw[h1] at hc;cases hc;have hx:[91,94]++gr++93::92::u++t=3#f++gr++93::92::(u++t):=by simp
   have := zn (gr := gr) (t := u ++ t) k hgr (λz=>by
    rcases 2#n z with y |y
    ·exact hu y
    ·rcases h4 93 y with v |⟨w,a1,v⟩
     ·cases v
     ·exact hw w a1 v) (by rw[<- hx];exact h3)
   rw[<- hx] at this;show 54
 ·rcases hg with z |z
  ·exact z
  ·exfalso;cases f with
   |sg c r hc hs=>
    rw[h1] at hc;cases hc;have:=ph (x:=c::r++t) ⟨c,l7,hs.1⟩;exact this z
   |mk gr u hc hg hu hw=>
    rw[h1] at hc;cases hc;exact ph (x:=3#f++gr++93::92::u++t) ⟨91,by simp,by decide⟩ z
def Brk.more {ah:0#a}{ws rs:0#m}(h:Brk ah ws rs)(hw:∀w∈ws,w≠[]/\32∉w):∃x k ms us,rs=(ah++x++bls k)::ms/\Wds (aN x) x/\Tk ci true ms us/\ao [32] (aN x::us)=ao [32] ws:=by
 show 128;obtain⟨a1,_,a3⟩:=h5.tk;have hm:w0∈ws:=by cases ws with |nil=>cases h1 |cons a b=>cases h1;exact l7
 obtain⟨g1,g2⟩:=hw w0 hm;refine⟨w0++t,k,ms,gs.map (ao [32]),e,⟨rfl,by simp[g1],h3⟩,a1,?_⟩;have:=fm (gs:=ax (w0++t)::gs) λg hg=>by
  rcases 1#y hg with z |z
  ·rw[z,kG g2 g1 h2];simp
  ·exact a3 g z
 rw[l36,h6] at this;show 54
structure Low (w:0#a):Prop where
 ne:w≠[]
 len:4#J<=6
 c:∀c∈w,97<=c/\c<=122
structure NmOk (nm gr:0#a):Prop where
 n:aE gr=true
 s:aR gr=nm
 l:gr.length<=7
 c:∀c∈gr,(48<=c/\c<=57) ∨ (65<=c/\c<=90) ∨ (97<=c/\c<=122)
 a:Asc nm
def Low.pl {w:0#a}(h:Low w):∀c∈w,plS c=true:=λc hc=>by
 have:=h.c c hc;unfold plS;simp only[Bool.and_eq_true,decide_eq_true_iff];omega
def Low.hd {w:0#a}(h:Low w):∃c r,w=c::r/\97<=c/\c<=122:=by
 cases w with
 |nil=>exact 0#A rfl h.ne
 |cons c r=>exact⟨c,r,rfl,h.c c l7⟩
def Low.no {w:0#a}(h:Low w){x:Nat}(hx:x < 97):x∉w:=λz=>by have:=h.c x z;omega
def NmOk.no {nm gr:0#a}(h:NmOk nm gr){x:Nat}(hx:x=93 ∨ x=41 ∨ x=32 ∨ x=124):x∉gr:=λz=>by have:=h.c x z;omega
def Bj {c:Nat}(h:6#H=false)(hc:plS c=true):Gd [92,c] [.sg 92, .sg c]:=Gd.step (l:=[c]) (p := .sign 92) 138#92 2#B (λrest _=>yX h) (λx hx=>by rw[2#R hx];exact hc)
theorem jq:∀{u:List Nat},(∀c∈u,c≠92)->freeC u=u
 | [],_=>rfl
 |x::u,h=>by rw[free_one' (c8 (h x l7)),jq λc hc=>h c 38#hc]
def wc {u name:0#a}(hu:∀c∈u,c≠92/\c≠93/\c≠94)(hn:u≠[])(h:aE name=true)(hc:41∉name):Gd (91::(u++93::40::(name++[41]))) [.pt (.one (.link (S u) (S 9#s)))]:=by
 refine Gd.step (l:=[]) (p := .link u 9#s) 138#91 2#B (λrest _=>?_) 1#F;rw[show (91::(u++93::40::(name++[41])))++rest=91::(u++93::40::(name++41::rest)) by simp];exact sK (λz=>by
  cases u with
  |nil=>exact hn rfl
  |cons c r=>cases z;exact(hu 94 l7).2.2 rfl) hn (λrest=>lX u rest λc hc=>⟨(hu c hc).1,(hu c hc).2.1⟩) (jq λc hc=>(hu c hc).1) h hc
def zp {l : List Nat} (h : ∀ c ∈ l, plS c = true /\ c ≠ 40) (hn : l ≠ []) : Gd l (l.map .sg) := Gd.signs (fun c hc => (h c hc).1) (by
 cases l with
 |nil=>exact 0#A rfl hn
 |cons c r=>exact⟨c,r,rfl,(h c l7).2⟩)
def cj {t:0#a}{A:0#bY}(h:Bk t A)(ha:Asc t):aT t=mgA [] A:=by
 have:=nu h y8 (by rw[l12];exact ha);rwa [l12,l47,l12] at this
structure PtOk (raw:0#a)(ps:7#E):Prop where
 parts:aT raw=ps
 ws:∃ws:0#m,raw=ao [32] ws/\(∀w∈ws,w≠[]/\32∉w)/\FstOk ws/\ws.length<=9
 gd:∀c∈raw,32<=c/\c < 127
 len:0#fk<=40
 rul:cC raw=false
def fS (l:0#a)(hn:l≠[])(r:0#bY):mgA [] (l.map .sg++r)=mgA l r:=by
 rw[c7,l38]
def dX {l:0#a}(hn:l≠[]):mgA l []=[.one 72#l]:=by
 unfold mgA flA;rw[0#z (by simpa using hn)]
def tZ {l:0#a}(hn:l≠[])(p:PC)(r:0#bY):mgA l (.pt p::r) = .one 72#l::p::mgA [] r:=by
 conv=>lhs;unfold mgA flA
 rw[0#z (by simpa using hn)];rfl
def t4 (p:PC)(r:0#bY):mgA [] (.pt p::r)=p::mgA [] r:=rfl
def we {raw:0#a}{c:Nat}(h:c∈raw)(h2:c≠58):c∈lQ raw:=by
 unfold lQ;split
 ·rename_i hl;rcases l48 raw with z |⟨i,y,z⟩
  ·rw[z] at h;cases h
  ·rw[l55] at z;rw[z,List.getLast?_concat] at hl;rw[z] at h ⊢;rw[List.dropLast_concat];rcases 2#n h with w |w
   ·exact w
   ·exact 0#A ((2#R w).trans (1#w hl)) h2
 ·exact h
def Bm {raw:0#a}{c:Nat}(h:c∈raw)(h1:c≠45)(h2:c≠58):cC raw=false:=by
 rw[<- Bool.not_eq_true,oN];rintro⟨_,k⟩;have:c∈lQ raw:=we h h2;exact h1 (k c this)
section
variable {a b d nm gr:0#a}
def bF (h:Low a):∀c∈a,32<=c/\c < 127:=λc hc=>by have:=h.c c hc;omega
def cX {l:0#a}(h:∀c∈l,32<=c/\c < 127):Asc l:=λc hc=>by have:=h c hc;omega
def gy (h:Low a):a≠[]/\32∉a:=⟨h.ne,h.no ∅⟩
def gn (h:Low a)(u:0#a)(r:0#m):FstOk ((a++u)::r):=by
 obtain⟨c,l,rfl,h1,h2⟩:=h.hd;exact .sg c (l++u) rfl nofun
def de (h:Low a){raw:0#a}(hs:∀c∈a,c∈raw):cC raw=false:=by
 obtain⟨c,l,rfl,h1,h2⟩:=h.hd;exact Bm (hs c l7) nofun nofun
def iN (h : Low a) {u v : List Nat} (hu : ∀ c ∈ u ++ v, plS c = true /\ c ≠ 40) : Gd (u ++ a ++ v) ((u ++ a ++ v).map .sg) := zp (λc hc=>by
 rcases 2#n hc with z |z
 ·rcases 2#n z with z |z
  ·exact hu c (l44 _ z)
  ·show 77
 ·exact hu c (l35 _ z)) (by simp[h.ne])
def bn {x y:0#a}(h:∀c∈x,32<=c/\c < 127)(k:∀c∈y,32<=c/\c < 127):∀c∈x++y,32<=c/\c < 127:=λc hc=>(2#n hc).elim (h c) (k c)
def t7 (h:NmOk nm gr):∀c∈gr,32<=c/\c < 127:=λc hc=>by have:=h.c c hc;omega
def aX {w:0#a}{r:0#m}(h:w≠[]/\32∉w)(k:∀x∈r,x≠[]/\32∉x):∀x∈w::r,x≠[]/\32∉x:=λx hx=>(1#y hx).elim (λz=>z▸h) (k x)
def fU:∀x∈([]:List 16#Nat),x≠[]/\32∉x:=λ_ z=>0#k
def way0 (h:Low a):PtOk a [.one 72#a]:=by
 have g:=iN h (u:=[]) (v:=[]) ∅;rw[l38,l12] at g;refine⟨?_,⟨[a],rfl,aX (gy h) fU,by have:=gn h [] [];rwa [l12] at this,by simp⟩,bF h,by have:=h.len;omega,de h λc hc=>hc⟩;rw[cj g.bk (cX (bF h)),<- l12 (a.map _),fS a h.ne,dX h.ne]
def way1 (h:Low a)(k:Low b)(l:Low d):PtOk (a++[32,96]++b++[32,42,32,91,96,32]++d) [.one 72#(a++[32]), .one (.code (S (b++[32,42,32,91]))), .one 72#([32]++d)]:=by
 have e:a++[32,96]++b++[32,42,32,91,96,32]++d=0#ct++((96::(b++[32,42,32,91]++[96]))++([32]++d)):=by simp
 show 108;have g2 := yZ (s := b ++ [32, 42, 32, 91]) (by
  intro z;rcases 2#n z with z |z
  ·exact k.no ∅ z
  ·exact 0#A z ∅) 0#h
 have g3:=iN l (u:=[32]) (v:=[]) ∅;rw[l38] at g1;rw[l12] at g3;have ha:∀c∈a++[32,96]++b++[32,42,32,91,96,32]++d,32<=c/\c < 127:=bn 5#o (bF l);refine⟨?_,⟨[a,96::b,[42],[91,96],d],by simp[ao],aX (gy h) (aX 4#K (aX ∅ (aX ∅ (aX (gy l) fU)))),by have:=gn h [] [96::b,[42],[91,96],d];rwa [l12] at this,by simp⟩,ha,by have:=h.len;have:=k.len;have:=l.len;simp;omega,de h λc hc=>by simp[hc]⟩
 ·rw[e] at ha ⊢;rw[cj (g1.app (g2.app g3)).bk (cX ha),fS _ 0#h,l78,tZ 0#h,<- l12 (List.map _ ([32]++d)),fS _ 0#h,dX 0#h]
 ·rcases 1#y z with z |z
  ·cases z
  ·exact k.no ∅ z
def way2 (h:Low a)(k:Low b)(n:NmOk nm gr):PtOk ([42]++a++[32,91,94]++gr++[93,42,32]++b) [.strong [.plain (S 0#ct), .note (S nm)], .one 72#([32]++b)]:=by
 have e:[42]++a++[32,91,94]++gr++[93,42,32]++b=(42::((0#ct++(91::94::(gr++93::[])))++[42]))++([32]++b):=by simp
 show 108;have g2:=sL (l:=[]) n.n (n.no 2#a) 1#F;have g3:=iN k (u:=[32]) (v:=[]) ∅;rw[l38] at g1;rw[l12] at g3;have ha:∀c∈[42]++a++[32,91,94]++gr++[93,42,32]++b,32<=c/\c < 127:=bn (bn (bn (bn (bn ∅ (bF h)) ∅) (t7 n)) ∅) (bF k);have hm:mgA [] ((a++[32]).map .sg++(.pt (.one (.note (S (aR gr))))::([]:0#a).map .sg))=[.one 72#(a++[32]), .one (.note (S nm))]:=by
  rw[fS _ 0#h,tZ 0#h,n.s];rfl
 refine⟨?_,⟨[42::a,3#f++gr++[93,42],b],by simp[ao],aX 4#K (aX 4#K (aX (gy k) fU)), .sg 42 a rfl ∅,by simp⟩,ha,by have:=h.len;have:=k.len;have:=n.l;simp;omega,de h λc hc=>by simp[hc]⟩
 ·rw[e] at ha ⊢;rw[cj ((g1.app g2).strong.app g3.bk) (cX ha),hm,l78,t4,<- l12 (List.map _ ([32]++b)),fS _ 0#h,dX 0#h];rfl
 ·rcases 1#y z with z |z
  ·cases z
  ·exact h.no ∅ z
 ·rcases 2#n z with z |z
  ·rcases 2#n z with z |z
   ·show 52
   ·exact n.no 120#(.inr 2#a) z
  ·show 52
def way3 (h:Low a)(k:Low b)(l:Low d)(n:NmOk nm gr):PtOk 0#cZ [.one 72#(a++[32]), .one (.link (S (b++[32]++d)) (S nm))]:=by
 have e:a++[32,91]++b++[32]++d++[93,40]++gr++[41]=0#ct++(91::((b++[32]++d)++93::40::(gr++[41]))):=by simp
 show 108;have g2 := wc (u := b ++ [32] ++ d) (name := gr) (λc hc=>by
  rcases 2#n hc with z |z
  ·rcases 2#n z with z |z
   ·have:=k.c c z;omega
   ·rw[2#R z];decide
  ·have:=l.c c z;omega) 0#h n.n (n.no 120#2#a)
 rw[l38] at g1;have ha:∀c∈a++[32,91]++b++[32]++d++[93,40]++gr++[41],32<=c/\c < 127:=bn (bn (bn (bn 5#o (bF l)) ∅) (t7 n)) ∅;refine⟨?_,⟨[a,91::b,d++[93,40]++gr++[41]],by simp[ao],aX (gy h) (aX 4#K (aX 4#K fU)),by have:=gn h [] [91::b,d++[93,40]++gr++[41]];rwa [l12] at this,by simp⟩,ha,by have:=h.len;have:=k.len;have:=l.len;have:=n.l;simp;omega,de h λc hc=>by simp[hc]⟩
 ·rw[e] at ha ⊢;rw[cj (g1.app g2).bk (cX ha),fS _ 0#h,tZ 0#h,n.s];rfl
 ·rcases 1#y z with z |z
  ·cases z
  ·exact k.no ∅ z
 ·rcases 2#n z with z |z
  ·rcases 2#n z with z |z
   ·rcases 2#n z with z |z
    ·exact l.no ∅ z
    ·show 52
   ·exact n.no 120#(.inr 2#a) z
  ·show 52
def way4 (h:Low a)(k:Low b)(l:Low d):PtOk (a++[92,42]++b++[92]++d) [.one 72#(a++[42]++b++[92]++d)]:=by
 obtain⟨c,r,rfl,c1,c2⟩:=l.hd;have e:a++[92,42]++b++[92]++c::r=a++([92,42]++(b++([92,c]++r))):=by simp
 have hc:6#H=false:=by
  have:∀c:Nat,97<=c->c<=122->6#H=false:=by
   intro c h1 h2;rw[<- Bool.not_eq_true,l83];intro z;have:∀x∈takenC,x < 97 ∨ 122 < x:=by decide
   have:=this c z;omega
  exact this c c1 c2
 have g1:=iN h (u:=[]) (v:=[]) ∅;have g2:Gd [92,42] [.sg 42]:=nt ∅;have g3:=iN k (u:=[]) (v:=[]) ∅;have g4:=Bj hc (l.pl c l7);rw[l38,l12] at g1 g3;have ha:∀x∈a++[92,42]++b++[92]++c::r,32<=x/\x < 127:=bn 5#o (bF l);have g5:Gd ([92,c]++r) ((92::c::r).map .sg):=by
  cases r with
  |nil=>rw[l12];exact g4
  |cons y r=>
   have:=g4.app (zp (l:=y::r) (λx hx=>⟨l.pl x 38#hx,by have:=l.c x 38#hx;omega⟩) 0#h);show 54
 refine⟨?_,⟨[a++[92,42]++b++[92]++c::r],rfl,aX 4#K fU,by have:=gn h ([92,42]++b++[92]++c::r) [];simpa using this,by simp⟩,ha,by have:=h.len;have:=k.len;have:=l.len;simp at *;omega,de h λc hc=>by simp[hc]⟩
 ·rw[e] at ha ⊢;rw[cj (g1.app (g2.app (g3.app g5))).bk (cX ha),fS _ h.ne];show mgA (a++[42]) (b.map .sg++_)=_;rw[c7,<- l12 (List.map _ (92::c::r)),c7,dX 0#h];simp
 ·rcases 2#n z with z |z
  ·rcases 2#n z with z |z
   ·rcases 2#n z with z |z
    ·rcases 2#n z with z |z
     ·exact h.no ∅ z
     ·show 52
    ·exact k.no ∅ z
   ·show 52
  ·exact l.no ∅ z
def way5 (h:Low a)(k:Low b):PtOk (a++[32,61,32,62,32,124,32,45,32,43,32]++b) [.one 72#(a++[32,61,32,62,32,124,32,45,32,43,32]++b)]:=by
 have ha:∀c∈a++[32,61,32,62,32,124,32,45,32,43,32]++b,32<=c/\c < 127:=bn (bn (bF h) ∅) (bF k);have g := iN k (u := a ++ [32, 61, 32, 62, 32, 124, 32, 45, 32, 43, 32]) (v := []) (λc hc=>by
  rw[l12] at hc;rcases 2#n hc with z |z
  ·show 77
  ·have:∀c∈[32,61,32,62,32,124,32,45,32,43,32],plS c=true/\c≠40:=by decide
   exact this c z)
 rw[l12] at g;refine⟨?_,⟨[a,[61],[62],[124],[45],[43],b],by simp[ao],aX (gy h) (aX ∅ (aX ∅ (aX ∅ (aX ∅ (aX ∅ (aX (gy k) fU)))))),by have:=gn h [] [[61],[62],[124],[45],[43],b];rwa [l12] at this,by simp⟩,ha,by have:=h.len;have:=k.len;simp;omega,de h λc hc=>by simp[hc]⟩;rw[cj g.bk (cX ha),<- l12 163#List.map,fS _ (by simp[h.ne]),dX (by simp[h.ne])]
def way6 (h:Low a)(n:NmOk nm gr):PtOk (3#f++gr++[93,92,58,32]++a) [.one (.note (S nm)), .one 72#([58,32]++a)]:=by
 have e:[91,94]++gr++[93,92,58,32]++a=(91::94::(gr++93::[]))++([92,58]++([32]++a)):=by simp
 have ha:∀c∈[91,94]++gr++[93,92,58,32]++a,32<=c/\c < 127:=bn (bn (bn ∅ (t7 n)) ∅) (bF h);have g1:=sL (l:=[]) n.n (n.no 2#a) 1#F;have g2:Gd [92,58] [.sg 58]:=nt ∅;have g3:=iN h (u:=[32]) (v:=[]) ∅;rw[l12] at g3;refine⟨?_,⟨[[91,94]++gr++93::92::[58],a],by simp[ao],aX 4#K (aX (gy h) fU), .mk gr [58] rfl (n.no 2#a) ∅ (λw hw=>?_),by simp⟩,ha,by have:=h.len;have:=n.l;simp;omega,de h λc hc=>by simp[hc]⟩
 ·rw[e] at ha ⊢;rw[cj (g1.app (g2.app g3)).bk (cX ha)];show mgA [] (.pt (.one (.note (S (aR gr))))::(.sg 58::([32]++a).map .sg))=_;rw[t4,n.s];show _::mgA [58] (([32]++a).map .sg)=_;rw[<- l12 (List.map _ ([32]++a)),c7,dX 0#h];rfl
 ·rcases 2#n z with z |z
  ·rcases 2#n z with z |z
   ·show 52
   ·exact n.no 120#(.inr 2#a) z
  ·show 52
 ·rw[2#R (show w∈[a] from hw)];exact h.no ∅
def way7 (h:Low a):PtOk ([92,61,32]++a) [.one 72#([61,32]++a)]:=by
 have e:[92,61,32]++a=[92,61]++([32]++a):=by simp
 have ha:∀c∈[92,61,32]++a,32<=c/\c < 127:=bn ∅ (bF h);have g2:Gd [92,61] [.sg 61]:=nt ∅;have g3:=iN h (u:=[32]) (v:=[]) ∅;rw[l12] at g3;refine⟨?_,⟨[[92,61],a],by simp[ao],aX ∅ (aX (gy h) fU), .sg 92 [61] rfl ∅,by simp⟩,ha,by have:=h.len;simp;omega,de h λc hc=>by simp[hc]⟩;rw[e] at ha ⊢;rw[cj (g2.app g3).bk (cX ha)];show mgA [61] (([32]++a).map .sg)=_;rw[<- l12 (List.map _ ([32]++a)),c7,dX 0#h];rfl
def way8 (h:Low a)(k:Low b)(l:Low d):PtOk (a++[32]++b++[32]++d) [.one 72#(a++[32]++b++[32]++d)]:=by
 have ha:∀c∈a++[32]++b++[32]++d,32<=c/\c < 127:=bn 5#o (bF l);have g := zp (l := a ++ [32] ++ b ++ [32] ++ d) (λc hc=>by
  simp only[l13,l18] at hc;rcases hc with (((z |z) |z) |z) |z
  ·show 77
  ·rw[z];decide
  ·exact⟨k.pl c z,by have:=k.c c z;omega⟩
  ·rw[z];decide
  ·exact⟨l.pl c z,by have:=l.c c z;omega⟩) 0#h
 refine⟨?_,⟨[a,b,d],by simp[ao],aX (gy h) (aX (gy k) (aX (gy l) fU)),by have:=gn h [] [b,d];rwa [l12] at this,by simp⟩,ha,by have:=h.len;have:=k.len;have:=l.len;simp;omega,de h λc hc=>by simp[hc]⟩;rw[cj g.bk (cX ha),<- l12 163#List.map,fS _ 0#h,dX 0#h]
end
inductive Knd where
 |heading |para |list |table |lit |quote |name |note
 deriving DecidableEq
def kdW:Knd->Str
 | .heading=>"heading"
 | .para=>"para"
 | .list=>"list"
 | .table=>"table"
 | .lit=>"literal"
 | .quote=>"quote"
 | .name=>"name"
 | .note=>"note"
def gu:Knd->Srt->Prop
 | .heading,s=>∃l w,s = .heading l w
 | .para,s=>∃w,s = .plain 0 w
 | .list,s=>∃f g w,s = .item f g w
 | .table,s=>∃t,s = .cells t
 | .lit,s=>s = .fence
 | .quote,s=>∃r,s = .quote r
 | .name,s=>∃a w,s = .name a w
 | .note,s=>∃a w,s = .note a w
def qL:Knd->Srt->Prop
 | .para,s=>c9 s=none
 | .list,s=>ci s=none/\∀f g w,s ≠ .item f g w
 | .table,s=>dk s=none
 | .quote,s=>eH s=none
 | .note,s=>ci s=none
 |_,_=>True
def pi (k:Knd):qL k .empty:=by cases k <;> first |trivial |rfl |exact 6#x
def t8 {k k':Knd}{s:Srt}(h:k≠k' ∨ (k ≠ .para/\k ≠ .list/\k ≠ .table/\k ≠ .quote))(f:gu k' s):qL k s:=by
 cases k' <;> cases k <;> first |trivial |(exfalso;rcases h with h |h <;> simp at h;done) |skip
 all_goals first |(obtain⟨_,_,_,rfl⟩:=f;first |rfl |exact 6#x) |(obtain⟨_,_,rfl⟩:=f;first |rfl |exact 6#x) |(obtain⟨_,rfl⟩:=f;first |rfl |exact 6#x) |(have f:s = .fence:=f;subst f;first |rfl |exact 6#x)
structure BOk (n:Nat)(kd:Knd)(rs:0#m)(b:Bl (n+1)):Prop where
 fst:∃r rs',rs=r::rs'/\gu kd (aL r)
 run:∀X,qL kd (7#F X)->rd (n+1) (rs++X)=(b,1#r)
 wd:∃ds,dB (n+1) b = .tuple (.str (kdW kd)::ds)
def rdS (n:Nat)(rs:0#m):rd (n+1) rs=rdF true (λxs=>(blks n xs).map (·.1)) rs:=rfl
section
variable {n:Nat}
def wf {r w:0#a}{l:Nat}(h:aL r = .heading l w):BOk n .heading [r] (.heading l (aT w):BkF (Bl n)):=by
 refine⟨⟨r,[],rfl,l,w,h⟩,λX _=>?_,0#F⟩;show 53;have:7#F ([r]++X) = .heading l w:=by show srtQ true r=_;rw[aW,h]
 rw[this];rfl
def wg {r a w:0#a}(h:aL r = .name a w):BOk n .name [r] (.name a w:BkF (Bl n)):=by
 refine⟨⟨r,[],rfl,a,w,h⟩,λX _=>?_,0#F⟩;show 53;have:7#F ([r]++X) = .name a w:=by show srtQ true r=_;rw[aW,h]
 rw[this];rfl
def wj {r u0:0#a}{ms us:0#m}(h:aL r = .plain 0 u0)(k:Tk c9 true ms us):BOk n .para (r::ms) (.para (aT 71#(u0::us)):BkF (Bl n)):=by
 refine⟨⟨r,ms,rfl,u0,h⟩,λX hX=>?_,0#F⟩;have hX:c9 (7#F X)=none:=hX;have hs:0#bR r = .plain 0 u0:=by rw[aW,h]
 have ht:tkW c9 true (r::ms++X)=u0::us:=by rw[l28,ko (f:=c9) (by rw[hs];rfl),k.take hX]
 show 53;have:7#F (r::ms++X) = .plain 0 u0:=hs;rw[this,ht];show (_,5#n+1)=_;rw[k.len];rfl
def wk {r a u0:0#a}{ms us:0#m}(h:aL r = .note a u0)(k:Tk ci true ms us):BOk n .note (r::ms) (.note a (aT 71#(u0::us)):BkF (Bl n)):=by
 refine⟨⟨r,ms,rfl,a,u0,h⟩,λX hX=>?_,0#F⟩;have hX:ci (7#F X)=none:=hX;have hs:0#bR r = .note a u0:=by rw[aW,h]
 have ht:bQ true (r::ms++X)=us:=k.take hX;show 53;have:7#F (r::ms++X) = .note a u0:=hs;rw[this,ht];show (_,1+5#n)=_;rw[k.len,l76];rfl
def mz {rs:0#m}{tss:List 16#(7#b)}(h:Tk dk true rs tss)(hn:rs≠[]):BOk n .table rs (tblR tss:BkF (Bl n)):=by
 cases rs with
 |nil=>exact 0#A rfl hn
 |cons r rs=>
  cases tss with
  |nil=>exact 6#T
  |cons ts tss=>
   have hs:∃c,0#bR r = .cells c:=by
    have h1:=h.1;generalize srtQ true r=s at h1;cases s <;> first |exact 0#F |cases h1
   obtain⟨cs,hs⟩:=hs;refine⟨⟨r,rs,rfl,cs,by rw[<- aW];exact hs⟩,λX hX=>?_,?_⟩
   ·have ht:=Tk.take (X:=X) hX h;show 53;have:7#F (r::rs++X) = .cells cs:=hs;rw[this,ht];show (_,(ts::tss).length)=_;rw[h.len];rfl
   ·unfold tblR;split <;> exact 0#F
def ua {rs xs:0#m}(h:Tk eH true rs xs)(hn:rs≠[]):BOk n .quote rs (.quote ((blks n xs).map (·.1)):BkF (Bl n)):=by
 cases rs with
 |nil=>exact 0#A rfl hn
 |cons r rs=>
  cases xs with
  |nil=>exact 6#T
  |cons x xs=>
   have hs:∃c,0#bR r = .quote c:=by
    have h1:=h.1;generalize srtQ true r=s at h1;cases s <;> first |exact 0#F |cases h1
   obtain⟨c,hs⟩:=hs;refine⟨⟨r,rs,rfl,c,by rw[<- aW];exact hs⟩,λX hX=>?_,0#F⟩;have ht:=Tk.take (X:=X) hX h;show 53;have:7#F (r::rs++X) = .quote c:=hs;rw[this,ht];show (_,(x::xs).length)=_;rw[h.len];rfl
theorem ub:∀{ls:List (List Nat)} {f:List Nat} (X:List (List Nat)),0#bF->aL f = .fence->litR (ls++f::X)=(ls,5#H+1)
 | [],f,X,_,hf=>by
  show litR (f::X)=_;unfold litR;rw[1#d (by rw[hf];rfl)];rfl
 |l::ls,f,X,h,hf=>by
  show litR (l::(ls++f::X))=_;unfold litR;rw[0#z (h l l7),ub X (λx hx=>0#bO) hf];rfl
theorem uc:∀{ls:List (List Nat)},0#bF->litR ls=(ls,5#H)
 | [],_=>rfl
 |l::ls,h=>by
  unfold litR;rw[0#z (h l l7),uc λx hx=>0#bO];rfl
def zq {e f:0#a}{ls:0#m}(he:aL e = .fence)(h:∀l∈ls,bT (aL l)≠bV)(hf:aL f = .fence):BOk n .lit ([e]++ls++[f]) (.lit ls:BkF (Bl n)):=by
 refine⟨⟨e,ls++[f],by simp,he⟩,λX _=>?_,0#F⟩;show 53;have ee:[e]++ls++[f]++X=e::(ls++f::X):=by simp
 have:7#F ([e]++ls++[f]++X) = .fence:=by rw[ee];show srtQ true e=_;rw[aW,he]
 rw[this,ee];show (BkF.lit (litR (ls++f::X)).1,1+(litR (ls++f::X)).2)=_;rw[ub X h hf];have:([e]++ls++[f]).length=1+(5#H+1):=by rw[l6,l6];show 1+5#H+1=_;omega
 rw[this];rfl
theorem wl {X:0#m}(hX:ci (7#F X)=none):∀{gs:List (List (List Nat)×Itm)},0#ef->ci (7#F ((gs.map (·.1)).flatten++X))=none
 | [],_=>by rw[l47,List.flatten_nil,l38];exact hX
 |g::gs,h=>by
  obtain⟨r0,ms,w0,ws,e,h0,_⟩:=h g l7;rw[l16,l36,e];show ci (0#bR r0)=none;rw[h0];rfl
def pj {X:0#m}(hX:ci (7#F X)=none)(hi:∀f g w,7#F X ≠ .item f g w):∀(k:Nat) {gs:List (List (List Nat)×Itm)},0#ef->gs.length<=k->itR true k ((gs.map (·.1)).flatten++X)=(gs.map (·.2),(gs.map (·.1)).flatten.length)
 |0,[],_,_=>rfl
 |0,_::_,_,h=>0#A h 3#S
 |k+1,[],_,_=>by
  rw[l47,List.flatten_nil,l38];unfold itR;cases hs:7#F X <;> first |rfl |exact 0#A hs (hi _ _ _)
 |k+1,g::gs,h,hl=>by
  have ih:=pj hX hi k (λy hy=>h y 38#hy) (by rw[l5] at hl;omega);have hh:=wl hX (λy hy=>h y 38#hy);obtain⟨r0,ms,w0,ws,e,h0,h1,h2⟩:=h g l7;obtain⟨g1,a1,sg,w⟩:=g;have e:g1=r0::ms:=e;subst e;have h0:0#bR r0 = .item a1 sg w0:=h0;have h2:w=ao [32] (w0::ws):=h2;obtain⟨R,hR⟩:∃R,R=(gs.map (·.1)).flatten:=0#F;rw[<- hR] at ih hh;have e1:((((r0::ms,a1,sg,w)::gs).map (·.1)).flatten++X)=r0::7#P:=by
   rw[l16,l36,<- hR,l19];rfl
  have em:bQ true (r0::7#P)=ws:=Tk.take hh h1;have ed:(r0::7#P).drop (1+ws.length)=R++X:=by
   rw[h1.len,l76,List.drop_succ_cons,l43]
  rw[e1];show (match srtQ true r0 with | .item a1 sg w=>((a1,sg,ao [32] (w::bQ true (r0::7#P)))::(itR true k 0#bH).1,1+(bQ true (r0::7#P)).length+(itR true k 0#bH).2) |_=>([],0))=_;rw[h0,em,ed,ih];show ((a1,sg,ao [32] (w0::ws))::gs.map (·.2),1+ws.length+R.length)=((a1,sg,w)::gs.map (·.2),(((r0::ms,a1,sg,w)::gs).map (·.1)).flatten.length);rw[h2,l16,l36,<- hR,l6,l5,h1.len];congr 1;omega
def wm {rs:0#m}{its:9#a}(h:ItRows rs its)(hn:its≠[]):BOk n .list rs (.lst (entR 6 (lvs its)).1:BkF (Bl n)):=by
 obtain⟨gs,rfl,rfl,hg⟩:=h;cases gs with
 |nil=>exact 0#A rfl hn
 |cons g gs=>
  obtain⟨r0,ms,w0,ws,e,h0,h1,h2⟩:=hg g l7;have eh:((g::gs).map (·.1)).flatten=r0::(ms++(gs.map (·.1)).flatten):=by
   rw[l16,l36,e];rfl
  refine⟨⟨r0,_,eh,_,_,_,by rw[<- aW];exact h0⟩,λX hX=>?_,0#F⟩;have hl:(g::gs).length<=(((g::gs).map (·.1)).flatten++X).length:=by
   have:∀{gs:List (List (List Nat)×Itm)},0#ef->gs.length<=(gs.map (·.1)).flatten.length:=by
    intro gs
    induction gs with
    |nil=>intro _;exact l9 _
    |cons g gs ih=>
     intro h;obtain⟨r0,ms,w0,ws,e,_⟩:=h g l7;rw[l16,l36,l6,e,l5,l5];have:=ih λy hy=>h y 38#hy;omega
   rw[l6];have:=this hg;omega
  have hi:=pj hX.1 hX.2 _ hg hl;show 53;rw[hi];have:7#F (((g::gs).map (·.1)).flatten++X) = .item g.2.1 g.2.2.1 w0:=by rw[eh];exact h0
  rw[this];rfl
def kH {β:Type}{rdg:0#m->β×Nat}(hpos:∀r rs,emp r=false->1<=(rdg 5#h).2):∀(k:Nat) (rs:List (List Nat)) (p k':Nat),1#r<=k->1#r<=k'->blkR rdg k p rs=blkR rdg k' p rs
 |k,[],p,k',_,_=>by rw[nV,nV]
 |0,_::_,_,_,h,_=>0#A h 3#S
 |_+1,_::_,_,0,_,h=>0#A h 3#S
 |k+1,r::rs,p,k'+1,h,h'=>by
  rw[l5] at h h';cases e:emp r with
  |true=>
   rw[nU e,nU e];exact kH hpos k rs _ _ nofun nofun
  |false=>
   have hp:=hpos r rs e;rw[kF e,kF e];have hd:((r::rs).drop (rdg 5#h).2).length<=rs.length:=by rw[l15,l5];omega
   rw[kH hpos k _ _ k' nofun nofun]
def bl (n p:Nat)(rs:0#m):List 4#Z:=blkR (rd (n+1)) rs.length p rs
def Bn {p:Nat}{r:0#a}{rs:0#m}(h:emp r=true):bl n p 5#h=bl n (p+1) rs:=by
 unfold bl;rw[l5,nU h]
def mB {kd:Knd}{r:0#a}(h:gu kd (aL r)):emp r=false:=by
 refine wa ?_;generalize aL r=s at h;cases kd <;> first |(obtain⟨_,_,_,rfl⟩:=h;intro z;cases z) |(obtain⟨_,_,rfl⟩:=h;intro z;cases z) |(obtain⟨_,rfl⟩:=h;intro z;cases z) |(have h:s = .fence:=h;subst h;intro z;cases z)
def BOk.bls {kd:Knd}{rs X:0#m}{b:Bl (n+1)}(h:BOk n kd rs b)(p:Nat)(hX:qL kd (7#F X)):bl n p (rs++X)=(b,p,p+1#r)::bl n (p+1#r) X:=by
 obtain⟨⟨r,rs',e,hf⟩,hr,_⟩:=h;have h2:=hr X hX;have he:=mB hf;rw[e,l28] at h2 ⊢;unfold Lw.bl;rw[l5,kF he,h2];show (b,p,p+(r::rs').length)::blkR (rd (n+1)) (rs'++X).length (p+(r::rs').length) ((r::(rs'++X)).drop (r::rs').length)=_;rw[<- l28,l43,kH (λ_ _ h=>jp (n:=n+1) h) _ X _ X.length 7#V (7#j)]
def nY:Option Knd->Srt->Prop
 |none,_=>True
 |some k,s=>qL k s
structure WOk (n:Nat)(R:0#m)(L:List 4#Z)(k:0#eT):Prop where
 run:∀X,nY k (7#F X)->bl n 0 (R++X)=L++bl n R.length X
def WOk.nil:WOk n [] [] none:=⟨λX _=>by rw[l38];rfl⟩
def WOk.emp {R : List 16#Nat} {L : List (Bl (n + 1) × Nat × Nat)} {k : Option Knd} {e : List Nat} (h : WOk n R L k) (he : aL e = .empty) : WOk n (R ++ [e]) L none := ⟨λX _=>by
 have hs:7#F (e::X) = .empty:=by show srtQ true e=_;rw[aW,he]
 have:=h.run (e::X) (by rw[hs];cases k with |none=>trivial |some k=>exact pi k);rw[l19];show bl n 0 (R++e::X)=_;rw[this,Bn (o9 he),l6];rfl⟩
def WOk.block {R rs : List 16#Nat} {L : List (Bl (n + 1) × Nat × Nat)} {k : Option Knd} {kd : Knd} {b : Bl (n + 1)} (h : WOk n R L k) (hb : BOk n kd rs b) (hs : ∀ s, gu kd s -> nY k s) : WOk n (R ++ rs) (L ++ [(b, R.length, R.length + 1#r)]) 23#kd := ⟨λX hX=>by
 obtain⟨r,rs',e,hf⟩:=hb.fst;have:=h.run (rs++X) (by rw[e];show nY k (0#bR r);rw[aW];exact hs _ hf);rw[l19,this,hb.bls _ hX,l19,l6];rfl⟩
def WOk.all {R:0#m}{L:List 4#Z}{k:0#eT}(h:WOk n R L k):blks (n+1) R=L:=by
 have:=h.run [] (by cases k with |none=>trivial |some k=>exact pi k);rw[l12] at this;rw[show blks (n+1) R=bl n 0 R from rfl,this];show L++[]=L;rw[l12]
end
def one (a:Addr)(o:HO):Hp:=λb=>if b=a then some o else none
def wn {H:Hp}{a:Addr}{o:HO}(e:H a=1#T):Same (one a o) H:=λy u h=>by
 unfold one at h;by_cases z:y=a
 ·rw[1#d z] at h;cases h;rw[z];exact e
 ·rw[0#z z] at h;cases h
section
variable {W W':Addr->Prop}{H H':Hp}
def pk {a:Addr}{o:HO}{xs:0#t}{ds:2#w}(h:6#Q H xs ds)(e:H a=1#T)(hw:¬ W a):∃G,Same G H/\(∀b,W b->G b=none)/\DnAll G xs ds/\G a=some o:=by
 obtain⟨G,s,b,k⟩:=h;have s1:=wn e;refine⟨both G (one a o),jQ s s1,λy hy=>?_,k.same oJ,oK s s1 _ _ (1#d rfl)⟩;unfold both;rw[b y hy];exact 0#z λz:y=a=>hw (z▸hy)
def ud {t:Addr}{xs:0#t}{ds:2#w}(h:6#Q H xs ds)(e:H t=some 6#V)(hw:¬ W t):Off W H 11#t (.tuple ds):=by
 obtain⟨G,s,b,k,l⟩:=pk h e hw;exact⟨G,s,b, .tup l k⟩
def ue {t:Addr}{xs:0#t}{ds:2#w}(h:6#Q H xs ds)(e:H t=9#l)(hw:¬ W t)(hl:0#E<=100000):Off W H 11#t 139#ds:=by
 obtain⟨G,s,b,k,l⟩:=pk h e hw;exact⟨G,s,b, .lst l k hl⟩
def nZ {v:V}{d:PyData}(h:∀G,Dn G v d):Off W H v d:=⟨λ_=>none,(λ_ _ z=>0#k),0#n,h _⟩
end
end Lw
namespace L2
open PySem PySem.Spec PyProof.Rows
def zr {n:Nat}{k:Nat}{fr:0#a}{g:TG}{tt:TT}{te:TE}{σ:St}{H0:Hp}{Q:Addr->Hp->Prop}(lo:Int)(f:Nat->PyData)(hl:n<=100000)
  (ht:∀i,i < n->∀H',3#q->∀(C:V->Hp->Prop)(N:Hp->Prop),0#ci →
   g 21#(lo+(i:Nat)) 81#k H' λσ2 H2=>3#h/\tt σ2 H2 λb H3=>if b=true then te σ2 H3 C else N H3)
  (hq:∀D H' ys,H0 D=none->3#q->H' D=some 14#ys->DnAll (dif H0 H') ys ((1#Q n).map f)->Q D H'):3#e (Itr lo n) H0 Q:=by
 intro D hD;refine⟨λi m a1 H=>m=n - i/\i<=n/\Same H0 H/\H D=some 14#a1/\Offs 8#m H a1 ((1#Q i).map f),⟨n,by simp,4#r,ad hD _,ac, .nil⟩,?_⟩;show 137;have hal:6#E=i:=by rw[a3.len,l4,l42]
 by_cases hlt:i < n
 ·refine .inr 147#hlt;rintro x H' ⟨rfl,rfl⟩;refine ht i hlt _ sm _ _ λv H4 s4 dv=>?_;have o4:Off 8#m H4 v (f i):=Off.new dv λb hb=>by
   rcases hb with rfl |hb
   ·rw[a2];simp
   ·cases q:H0 b with
    |none=>exact 0#A q hb
    |some o=>rw[sm _ _ q];simp
  refine⟨4#k a2,by rw[0#Z];omega,n - (i+1),by omega,rfl,hlt,aj hD 9#t,ac,?_⟩;rw[l80,l14];exact((a3.same s4).snoc o4).upd 2#a
 ·have e:i=n:=by omega
  subst e;exact .inl ⟨by show i<=i;omega,hq D H a1 hD sm a2 (a3.toDif λb hb => .inr hb)⟩
end L2
namespace Lw
open PySem L2 Lm
theorem pp {g:0#a}:∀{ws:List (List Nat)} {c:Nat},c∈ao g ws->c∈g ∨ ∃w∈ws,c∈w
 | [],_,h=>nomatch h
 | [p],_,h => .inr ⟨p,l7,h⟩
 |p::q::r,c,h=>by
  rw[5#v] at h;rcases 2#n h with z |z
  ·rcases 2#n z with z |z
   ·exact .inr ⟨p,l7,z⟩
   ·exact .inl z
  ·rcases pp z with y |⟨w,hw,y⟩
   ·exact .inl y
   ·exact .inr ⟨w,l8 _ hw,y⟩
end Lw
namespace L2
open PySem PySem.Spec PyProof.Rows
inductive R_mt_upper (x:V)(vs:0#t)(H:Hp)(Q:VK):Prop
 |mk (z)(_:x = .str z)(_:vs=[])(_:z.length<=1000000)(_:Q (.str (Txt.upper z)) H)
section
variable {X:Cx}
def wo:MtR X "str.upper" R_mt_upper:=by
 show 10;obtain⟨z,rfl,rfl,hz,q⟩:=h;show 8;cases rv.zero;exact SCL.upper nofun λ_=>⟨.str _,H,I.tok _,0#F,q⟩
end
end L2
namespace Lw
open PySem L2 Lm
def zt (l:0#a)(h:∀c∈l,c < 128):Txt.upper (S l)=S (l.map up1):=by
 rw[PyProof.Rows.upper_ascii 4#d];simp
def zu:∀k:Fin 10,0#e (toString ((k.val:Nat):Int))=S [48+k.val]:=by decide
def B8 {w:0#a}(h:Low w){k:Nat}(hk:k < 10):NmOk (w++[48+k]) ((w++[48+k]).take 1 |>.map up1 |>.append ((w++[48+k]).drop 1))/\NmOk (w++[48+k]) (w++[48+k]):=by
 obtain⟨c,r,rfl,h1,h2⟩:=h.hd;have hr:∀x∈r,97<=x/\x<=122:=λx hx=>h.c x 38#hx;have hl:1#m<=5:=by have:=h.len;rw[l5] at this;omega
 have hu:up1 c=c - 32:=by unfold up1;rw[1#d ⟨h1,h2⟩]
 have a2:∀x,97<=x->x<=122->lo1 x=x:=λx a b=>by unfold lo1;rw[0#z nofun]
 have hd:lo1 (48+k)=48+k:=by unfold lo1;rw[0#z nofun]
 have a1:aR r=r:=by
  unfold aR;have:∀l:0#a,(∀x∈l,97<=x/\x<=122)->l.map lo1=l:=by
   intro l
   induction l with
   |nil=>intro _;rfl
   |cons x l ih=>
    intro hh;rw[l16,a2 x (hh x l7).1 (hh x l7).2,ih λy hy=>hh y 38#hy]
  exact this r hr
 have a5:lo1 (c - 32)=c:=by unfold lo1;rw[1#d nofun];omega
 have a3:∀x,(48<=x/\x<=57) ∨ (65<=x/\x<=90) ∨ (97<=x/\x<=122)->nameSigns.contains x=true:=λx hx=>by
  have:((1#Q 128).all λx => !(decide (48<=x)&&decide (x<=57)||decide (65<=x)&&decide (x<=90)||decide (97<=x)&&decide (x<=122))||nameSigns.contains x)=true:=by decide
  have:=l39.mp this x (l54.mpr nofun);rw[7#Y] at this;rcases this with z |z
  ·exfalso;simp only[Bool.not_eq_true',Bool.or_eq_false_iff,Bool.and_eq_false_iff,decide_eq_false_iff_not] at z;omega
  ·exact z
 have gen:∀y,((48<=y/\y<=57) ∨ (65<=y/\y<=90) ∨ (97<=y/\y<=122))->lo1 y=c->NmOk (c::r++[48+k]) (y::(r++[48+k])):=λy hy a4=>by
  have hc:∀x∈y::(r++[48+k]),(48<=x/\x<=57) ∨ (65<=x/\x<=90) ∨ (97<=x/\x<=122):=λx hx=>by
   rcases 1#y hx with z |z
   ·rw[z];exact hy
   ·rcases 2#n z with z |z
    ·exact .inr 120#(hr x z)
    ·rw[2#R z];exact .inl nofun
  refine⟨?_,?_,?_,hc,λx hx=>?_⟩
  ·unfold aE;rw[0#r,0#r];refine⟨⟨by simp,by simp;omega⟩,l39.mpr λx hx=>a3 x (hc x hx)⟩
  ·unfold aR at a1 ⊢;rw[l16,l14,a1,a4,l16,l47,hd];rfl
  ·simp;omega
  ·rcases 2#n hx with z |z
   ·have:=h.c x z;omega
   ·rw[2#R z];omega
 show 41
 ·show NmOk _ ((up1 c)::(r++[48+k]));rw[hu];exact gen _ 120#(.inl nofun) a5
 ·exact gen c 120#(.inr ⟨h1,h2⟩) (a2 c h1 h2)
end Lw
namespace K13
open PySem L2 Lm Lw
structure TxL (mg:Str->0#B):Prop extends Tx mg where
 q11:mg "min"=none
 u12:mg "max"=none
 g16:mg "sum"=none
def mixV (c k:Int):Int:=2#K * 48271 % 2147483647 * (16807+7919 * k * k+31 * k) % 2147483629 / 7
inductive spMixD (vs:0#t)(H:Hp)(Q:VK)(u3:XK):Prop
 |mk (c k:Int)(_:vs=[.int c, .int k])(_:0<=k)(_:k<=100)(_:0<=mixV c k->Q (.int (mixV c k)) H)
def abc:List Nat:=[97,98,99,100,101,102,103,104,105,106,107,108,109,110,111,112,113,114,115,116,117,118,119,120,121,122]
def i0 (i:Int):List Nat:=(1#Q (1+i % 6).toNat).map λj:Nat=>abc.getD (mixV i (j:Int) % 26).toNat 0
section
def zw (F:2#k "_law_mixed" "_law_mixed" mx f fd):FnOk P w K mg base CX0 1 f fd p17 spMixD:=by
 have sc:=nX;show 0;show 134;refine az (xbc 49#(xop aM 6#B xint)
  13#(xop aS 48#(xop bJ (5#M) 3#E) xint)) ?_
 ac_nf;have hk2:0<=k * k/\k * k<=10000:=by
  show 41
  ·exact Int.mul_nonneg h0 h0
  ·calc k * k<=100 * 100:=0#eg nofun
    _=10000:=rfl
 have hk3:0<=7919 * k * k/\7919 * k * k<=79190000:=by
  have:7919 * k * k=7919 * (k * k):=Int.mul_assoc _ _ _;omega
 refine 1#z;refine 0#R
 ·show 74;show 41
  ·show 85
  ·show 86
 ·refine q ?_;show 80
abbrev zx:Stmt:=top 104
inductive spWord (vs:0#t)(H:Hp)(Q:VK)(u3:XK):Prop
 |mk (i:Int)(_:vs=[.int i])(_:∀u H',Same H H'->Low u->u=i0 i->Q (vS u) H')
def wp (i:Int):Low (i0 i):=by
 refine⟨λz=>?_,by unfold i0;rw[l4,l42];omega,λc hc=>?_⟩
 ·have:=0#V z;unfold i0 at this;rw[l4,l42] at this;have this:(1+i % 6).toNat=0:=this;omega
 ·unfold i0 at hc;obtain⟨j,_,rfl⟩:=4#i hc;have:∀c∈abc,97<=c/\c<=122:=by decide
  refine this _ ?_;rw[l24,0#l (show (mixV i (j:Int) % 26).toNat < 26 by omega)];exact l46 _
def zy (F:2#k "_law_word" "_law_word" zx f fd)(T:TxL mg)(Dc:0#c 1 "_law_mixed" p17 spMixD):0#b 2 f fd 1#t spWord:=by
 have sc:1#b ["_law_number","_law_letters"] 1#t 55#zx:=mkS;show 1;obtain⟨i,rfl,q⟩:=h;refine az (xbc (xset (i:=1) sc.nd rfl 0#gd xstr)
  (xb1 (xret (0#M (xac (xlc (cl:=[7#M,("_law_letters",0#g+2)]) (own:=["_law_j"]) (fr:=[1,0]) (N':=0#eB) rfl (iS (xs:=["_law_letters","_law_number"]) 89#⟨rfl,trivial⟩ 45#⟨rfl,rfl, .inl rfl, .inl rfl,trivial⟩ ∅) ∅ ∅ 1#q
  (xir1 rfl T.q10 10#(9#G 48#(2#U)))
  22#(show (0#eB:0#O).Nodup by decide) 1#k (λ_ _ _ _=>(xix dg (2#E) 48#(xcd Dc hr (xac (5#M) 10#(2#U))) 0#n))) xa0))))) ?_
 show 13;rw[xW];refine lU ?_
 symm
 refine⟨rfl,_,rfl,_,_,rfl,rfl,show (0:Int) < 6 by omega,_,_,rfl,rfl,?_⟩;obtain⟨n,hn⟩:∃n:Nat,1+i % 6=(n:Int):=⟨(1+i % 6).toNat,by omega⟩;refine 2#V;rw[l40];refine AT n (λj=>vS [abc.getD (mixV i (j:Int) % 26).toNat 0]) (by rw[hs];omega) (λj H' hj _=>hj) (λH' _=>7#j) ?_ ?_
 ·rintro j Ha x Hb hj s' ⟨rfl,rfl⟩;refine⟨Same.refl _,λC N hC=>?_⟩;refine⟨(1#l).set ∅ _,iteT (B:=N Hb) ⟨_,rfl,_,rfl,_,rfl,i,0+(j:Int),rfl,by omega,by omega,λhm=>?_⟩⟩;rw[show (0:Int)+(j:Int)=(j:Int) by omega] at hm ⊢;obtain⟨k,hk⟩:∃k:Nat,mixV i (j:Int) % 26=(k:Int):=⟨(mixV i (j:Int) % 26).toNat,by omega⟩;have a1:k < abc.length:=by show k < 26;omega
  have e:abc.getD (mixV i (j:Int) % 26).toNat 0=abc[k]:=by rw[hk,l40,l24,0#l a1];rfl
  have hc:=hC _ 18#_;rw[e] at hc;refine⟨_,_,rfl,rfl,show (0:Int) < 26 by omega,S abc,_,abc[k],rfl,rfl,by rw[aw,hs];decide,?_,hc⟩;rw[hk,ce];exact ag (0#l a1)
 ·intro D H' hD s' eD;have hw:i0 i=(1#Q n).map λj:Nat=>abc.getD (mixV i (j:Int) % 26).toNat 0:=by unfold i0;rw[hn,l40]
  have hl:=wp i;refine⟨S [],D,(i0 i).map λc=>S [c],rfl,rfl,0#w (by rw[eD,hw,l20,l20];rfl),?_,?_⟩
  ·rw[show (S []).length=0 from rfl,Nat.mul_zero,Nat.add_zero,l20,hs];have:∀l:0#a,(l.map ((λx:Str=>7#k) ∘ λc=>S [c])).sum=l.length:=by
    intro l
    induction l with
    |nil=>rfl
    |cons x l ih=>rw[l16,l25,ih,l5];show 1+_=_;omega
   rw[this];have:=hl.len;omega
  ·rw[show Txt.join (S []) ((i0 i).map λc=>S [c])=S (i0 i) from qu _];exact q _ _ s' hl rfl
abbrev uf:Stmt:=top 105
inductive spLName (vs:0#t)(H:Hp)(Q:VK)(u3:XK):Prop
 |mk (i:Int)(_:vs=[.int i])(_:∀t nm gr H',Same H H'->H' t=some (.tup [vS nm,vS gr])->NmOk nm gr->NmOk nm nm->Q (.ref t) H')
def wq (F:2#k "_law_name" "_law_name" uf f fd)(T:TxL mg)(Di:0#c 2 "_law_word" 1#t spWord):0#b 3 f fd 1#t spLName:=by
 have sc:1#b ["_law_number","_law_name_here"] 1#t 55#uf:=mkS;show 0;obtain⟨i,rfl,q⟩:=h;refine az (xbc 84#(2#Z (xcd Di hr 10#(2#U)) (xcTy kP T.g11 rfl 10#(xop aM (xop aS (2#U) xint) xint)))
  13#(xtup (xac (2#E) 19#(2#Z (xm0 2#P PySem.F.slot_str_upper PySem.F.type_str_upper wo (9#n (2#E) xo0 93#xint)) (9#n (2#E) 93#xint xo0))))) ?_
 show 13;rw[xW];refine⟨_,rfl,i,rfl,λu H1 s1 hu _=>?_⟩;obtain⟨k,hk⟩:∃k:Nat,i / 6 % 10=(k:Int):=⟨(i / 6 % 10).toNat,by omega⟩;have a1:k < 10:=by omega
 have hul:=hu.len;refine⟨_,rfl,_,_,rfl,rfl,0#q,_,_,rfl,rfl,show (0:Int) < 10 by omega,_,rfl,?_,?_⟩
 ·rw[hk];have:k=0 ∨ k=1 ∨ k=2 ∨ k=3 ∨ k=4 ∨ k=5 ∨ k=6 ∨ k=7 ∨ k=8 ∨ k=9:=by omega
  rcases this with rfl |rfl |rfl |rfl |rfl |rfl |rfl |rfl |rfl |rfl <;> decide
 rw[hk,show 0#e (toString ((k:Nat):Int))=S [48+k] from zu ⟨k,a1⟩];refine⟨_,_,rfl,rfl,by rw[aw,aw,hs];show _+1<=_;omega,?_⟩;rw[aJ]
 symm
 obtain⟨n1,n2⟩:=B8 hu a1;have a2:(u++[48+k]).length<=7:=by rw[l6];show _+1<=_;omega
 generalize u++[48+k]=nm at n1 n2 a2 ⊢;have a3:=n2.a;refine⟨_,rfl,_,rfl,_,rfl,S nm,rfl,by rw[aw,hs];omega,?_⟩;rw[show 6#f (S nm) none 23#1=S (nm.take 1) from (eO nm none 23#1).trans (2#u S (wP nm 1))];refine⟨rfl,S (nm.take 1),rfl,rfl,by rw[aw,l29];omega,?_⟩;rw[zt (nm.take 1) λc hc=>a3 c (l81 hc)];refine⟨_,rfl,_,rfl,S nm,rfl,by rw[aw,hs];omega,?_⟩;rw[show 6#f (S nm) 23#1 none=S (nm.drop 1) from dC nm 1];refine⟨_,_,rfl,rfl,by rw[aw,aw,l4,l29,l15,hs];omega,?_⟩;rw[aJ];refine⟨bg2,λt ht=>q t _ _ _ (s1.trans 46#ht) ac n1 n2⟩
end
def wtup {H0 H:Hp}{k:Str}{x:0#a}(s:9#K)(ha:Asc x/\7#k<=90000){p:Addr}(hp:H p=none)(hk:0#cY=true:=by decide):Same H0 (4#b p (.tup [V.str k,vS x]))/\Dn (dif H0 (4#b p (.tup [V.str k,vS x]))) 11#p (.tuple [.str k, .str (S x)]):=
 bu s hp (.cons (dn_k (k:=k) hk) 34#(dn_S ha))
section
abbrev n0:Stmt:=top 106
abbrev ug:List Str:=["_law_number","_law_one","_law_two","_law_three","_law_name_here","_law_great","_law_way","_law_told"]
inductive spLParts (vs:0#t)(H:Hp)(Q:VK)(u3:XK):Prop
 |mk (i:Int)(_:vs=[.int i])(_:∀t l raw ps H',Same H H'->H' t=some (.tup [.ref l,vS raw])->Dn (dif H H') (.ref l) (.list (ps.map dP))->PtOk raw ps->Q (.ref t) H')
def uh (F:2#k "_law_parts" "_law_parts" n0 f fd)(T:TxL mg)(Dc:0#c 1 "_law_mixed" p17 spMixed)(Di:0#c 2 "_law_word" 1#t spWord)(Dq:0#c 3 "_law_name" 1#t spLName):0#b 4 f fd 1#t spLParts:=by
 have sc:1#b ug 1#t 55#n0:=mkS;show 1;obtain⟨i,rfl,q⟩:=h;refine az (xbc (xasg (xlc (cl:=[7#M]) (own:=["_law_k"]) (fr:=[0]) (N':=["_law_k","_law_number"]) rfl 7#C ∅ ∅ 1#q
  0#cA
  22#(show (["_law_k","_law_number"]:0#O).Nodup by decide) 1#k (λ_ _ _ _=>(xcd Di hr 10#(xcd Dc hr (xac (2#E) 19#(2#U)))))) (xgl rfl (xgsc 27#1 (xgsc 27#2 (xgsc 27#3 xgs0)))))
  (xbc (xasg (xcd Dq hr 10#(xop aS (2#U) xint)) 92#xgs0)
  (xbc (xst (i:=6) sc.nd 48#(2#U))
  (xbc 121#(xac (xlst 19#(xtup (1#p 35#(2#E)))) 19#(2#E))
  (xbc (xif 37#6 (xbc (xst (i:=7) sc.nd 130#(xac (xtup (1#p 10#(2#Z (2#E) xstr))) (xac (xtup (1#p 10#(2#Z (5#M) xstr))) 10#(xtup (1#p 19#(9#F (6#k)))))))
  13#(xtup (xac (xv 7) 19#(2#Z 1#S (6#k))))) xb0)
  (xbc (xif 37#6 (xbc (xst (i:=7) sc.nd 130#(xac (xtup (1#p 10#(xlst (xac (xtup (1#p 19#(2#Z (2#E) xstr))) 19#(xtup (1#p 35#(xv 4))))))) 10#(xtup (1#p 19#(9#F (5#M))))))
  13#(xtup (xac (xv 7) 19#(2#Z 53#(2#Z (2#Z (9#F (2#E)) xstr) (xv 5)) (5#M))))) xb0)
  (xbc (xif 37#6 (xbc (xst (i:=7) sc.nd 130#(xac (xtup (1#p 10#(2#Z (2#E) xstr))) 10#(xtup 142#(xac (2#Z 53#(5#M) (6#k)) 19#(xv 4)))))
  13#(xtup (xac (xv 7) 19#(2#Z (2#Z 53#(2#Z (2#Z (2#Z (2#Z (2#E) xstr) (5#M)) xstr) (6#k)) (xv 5)) xstr)))) xb0)
  (xbc 121#(xac 0#dJ 19#(2#Z 1#S (6#k)))
  (xbc 121#(xac (xlst 19#(xtup (1#p 35#(2#Z 53#(2#E) (5#M))))) 19#(2#Z 53#(2#E) (5#M)))
  (xbc 121#(xac 130#(xac (xtup (1#p 19#(xv 4))) 19#(xtup (1#p 35#(9#F (2#E))))) 19#(2#Z 53#(9#F (xv 5)) (2#E)))
  (xbc 121#(xac (xlst 19#(xtup (1#p 35#(9#F (2#E))))) 19#(9#F (2#E)))
  13#(xtup (xac 0#dJ 19#(2#Z 1#S (6#k))))))))))))))) ?_
 show 13;rw[show start ug [V.int i]=[5#m,none,none,none,none,none,none,none] from rfl];refine⟨3,rfl,by omega,by omega,?_⟩;refine ib 0 (λv=>∃u,v=vS u/\Low u) (by rw[hs];decide) ?_ ?_
 ·intro j hj H' s' C N hC;have hj:j < 3:=hj;refine⟨(1#l).set ∅ _,iteT (B:=N H') ⟨_,rfl,_,rfl,i,0+(j:Int),rfl,by omega,by omega,λm hm=>⟨m,rfl,λu H2 s2 hu _=>hC _ _ s2 ⟨u,rfl,hu⟩⟩⟩⟩
 intro D H1 ys hD s1 eD a5 c0;obtain⟨ls,rfl,a7⟩:=jN c0;obtain⟨a,b,d,rfl⟩:∃a b d,ls=[a,b,d]:=by
  rw[l4] at a5;have a5:5#H=3:=a5
  match ls,a5 with
  | [a,b,d],_=>exact⟨a,b,d,rfl⟩
 have ha:Low a:=a7 a 0#h;have hb:Low b:=a7 b 0#h;have hd:Low d:=a7 d 0#h;refine⟨D,_,rfl,0#w eD,rfl,_,_,rfl,_,_,rfl,_,_,rfl,rfl,?_⟩
 symm
 refine⟨_,rfl,_,_,rfl,rfl,0#q,_,rfl,λtn nm gr H2 s2 a8 hn hnn=>?_⟩;refine 168#(tn,a8)
 symm
 refine⟨_,rfl,_,_,rfl,rfl,show (0:Int) < 9 by omega,?_⟩
 symm
 have a1:=2#c;clear a7 c0 a5 eD a8 s1 s2 hD;have al:=ha.len;have bl:=hb.len;have dl:=hd.len;have gl:=hn.l;have nl:nm.length<=7:=by rw[<- hn.s];unfold aR;rw[l4];exact gl
 have aa:=cX (bF ha);have ba:=cX (bF hb);have da:=cX (bF hd);have na:=hn.a;have ap:∀{x y:List Nat},Asc x->Asc y->Asc (x++y):=λhx hy c hc=>(2#n hc).elim (hx c) (hy c);have L:∀(x y:List Nat),7#k<=60->5#u<=60->(S x).length+(S y).length<=sizeLine:=λx y h1 h2=>by rw[aw,aw,hs];omega
 have fin:∀{G:Hp} {l t:Addr} {raw:List Nat} {ps:List PC} {ds:List PyData},(4#L G/\Dn 86#G 11#l 139#ds)->G t=none->PtOk raw ps->ps.map dP=ds->Q 11#t (upd G t (.tup [.ref l,vS raw])):=λ{G l t raw ps ds} h ht hp e=>q t l raw ps _ (h.1.trans 46#ht) ac (by rw[e];exact h.2.same (bE ht _)) hp;refine s_if 28#(i % 9=0) 3#D 5#x λH3 s3 _=>?_
 ·have a2:=3#n;refine⟨_,rfl,bg2,λp hp=>⟨bg1,λl hl=>⟨_,rfl,bg2,λt ht=>?_⟩⟩⟩;obtain⟨z1,z2⟩:=wtup (k:="plain") a2 96#aa hp;exact fin (9#P) ht (way0 ha) rfl
 show 59;refine s_if 28#(i % 9=1) 3#D 5#x λH3 s3 _=>?_
 ·have a2:=3#n;show 16;refine⟨bg2,λp1 a4=>⟨_,rfl,_,_,rfl,rfl,L b [32,42,32,91] nofun ∅,?_⟩⟩;rw[show S b++0#e " * ["=S (b++[32,42,32,91]) from aJ _ _];refine⟨bg2,λp2 a3=>⟨_,rfl,_,_,rfl,rfl,L [32] d ∅ nofun,?_⟩⟩;rw[show 0#e " "++S d=S ([32]++d) from aJ _ _];refine⟨bg2,λp3 a6=>⟨bg3,λl hl=>?_⟩⟩
  symm
  show 37;obtain⟨y1,y2⟩:=wtup (k:="code") (x:=b++[32,42,32,91]) z1 146#ba a3;obtain⟨x1,x2⟩:=wtup (k:="plain") y1 ⟨ap (x:=[32]) 1#C da,by simp;omega⟩ a6;have ll:=bP x1 hl (.cons ((z2.same (bE a3 _)).same (bE a6 _)) (.cons (y2.same (bE a6 _)) 34#x2)) (by show 3<=_;decide);refine⟨_,rfl,_,rfl,_,_,rfl,rfl,L a [32,96] nofun ∅,?_⟩;rw[show S a++0#e " `"=S (a++[32,96]) from aJ _ _];refine 41#(a++[32,96]);rw[aJ];refine⟨_,_,rfl,rfl,L (a++[32,96]++b) [32,42,32,91,96,32] 0#G ∅,?_⟩;rw[show S (a++[32,96]++b)++0#e " * [` "=S (a++[32,96]++b++[32,42,32,91,96,32]) from aJ _ _];refine 54#(a++[32,96]++b++[32,42,32,91,96,32]);rw[aJ];exact 57#(way1 ha hb hd)
 show 59;refine s_if 28#(i % 9=2) 3#D 5#x λH3 s3 _=>?_
 ·have a2:=3#n;show 16;refine⟨bg2,λp1 a4=>⟨_,rfl,bg2,λp2 a3=>⟨bg2,λl1 c1=>⟨bg2,λp3 a6=>⟨_,rfl,_,_,rfl,rfl,L [32] b ∅ nofun,?_⟩⟩⟩⟩⟩;rw[show 0#e " "++S b=S ([32]++b) from aJ _ _];refine⟨bg2,λp4 a9=>⟨bg2,λl hl=>?_⟩⟩
  symm
  show 37;obtain⟨y1,y2⟩:=wtup (k:="note") z1 96#na a3;obtain⟨x1,x2⟩:=bP y1 c1 9#p 0#al;obtain⟨v1,v2⟩:=bu x1 a6 (.cons (dn_k (k:="strong")) 34#x2);obtain⟨u1,u2⟩:=wtup (k:="plain") v1 ⟨ap (x:=[32]) 1#C ba,by simp;omega⟩ a9;have ll:=bP u1 hl (.cons (v2.same (bE a9 _)) 34#u2) 0#al;refine⟨_,rfl,_,rfl,_,_,rfl,rfl,L [42] a ∅ nofun,?_⟩;rw[show 0#e "*"++S a=S ([42]++a) from aJ _ _];refine⟨_,_,rfl,rfl,L ([42]++a) [32,91,94] 0#G ∅,?_⟩;rw[show S ([42]++a)++0#e " [^"=S ([42]++a++[32,91,94]) from aJ _ _];refine⟨_,rfl,_,_,rfl,rfl,L ([42]++a++[32,91,94]) gr 0#G nofun,?_⟩;rw[aJ];refine⟨_,_,rfl,rfl,L ([42]++a++[32,91,94]++gr) [93,42,32] 0#G ∅,?_⟩;rw[show S ([42]++a++[32,91,94]++gr)++0#e "]* "=S ([42]++a++[32,91,94]++gr++[93,42,32]) from aJ _ _];refine 41#([42]++a++[32,91,94]++gr++[93,42,32]);rw[aJ];exact 57#(way2 ha hb hn)
 show 59;refine s_if 28#(i % 9=3) 3#D 5#x λH3 s3 _=>?_
 ·have a2:=3#n;show 16;refine⟨bg2,λp1 a4=>⟨_,rfl,_,_,rfl,rfl,L b [32] nofun ∅,?_⟩⟩;rw[show S b++0#e " "=S (b++[32]) from aJ _ _];refine 54#(b++[32]);rw[aJ];refine⟨_,rfl,bg3,λp2 a3=>⟨bg2,λl hl=>?_⟩⟩
  symm
  show 37;obtain⟨y1,y2⟩:=bu z1 a3 (.cons (dn_k (k:="link")) (.cons (dn_S (l:=b++[32]++d) ⟨ap (ap ba 1#C) da,by simp;omega⟩) 34#(dn_S 96#na)));have ll:=bP y1 hl 9#p 0#al;refine⟨_,rfl,_,rfl,_,_,rfl,rfl,L a [32,91] nofun ∅,?_⟩;rw[show S a++0#e " ["=S (a++[32,91]) from aJ _ _];refine 41#(a++[32,91]);rw[aJ];refine⟨_,_,rfl,rfl,L (a++[32,91]++b) [32] 0#G ∅,?_⟩;rw[show S (a++[32,91]++b)++0#e " "=S (a++[32,91]++b++[32]) from aJ _ _];refine 54#(a++[32,91]++b++[32]);rw[aJ];refine⟨_,_,rfl,rfl,L (a++[32,91]++b++[32]++d) [93,40] 0#G ∅,?_⟩;rw[show S (a++[32,91]++b++[32]++d)++0#e "]("=S (a++[32,91]++b++[32]++d++[93,40]) from aJ _ _];refine⟨_,rfl,_,_,rfl,rfl,L (a++[32,91]++b++[32]++d++[93,40]) gr 0#G nofun,?_⟩;rw[aJ];refine⟨_,_,rfl,rfl,L 0#fv [41] 0#G ∅,?_⟩;rw[show S 0#fv++0#e ")"=S 0#cZ from aJ _ _];exact 57#(way3 ha hb hd hn)
 show 59;refine s_if 28#(i % 9=4) 3#D 5#x λH3 s3 _=>?_
 ·have a2:=3#n;refine 59#42;rw[show S a++0#e "*"=S (a++[42]) from aJ _ _];refine 41#(a++[42]);rw[aJ];refine⟨_,_,rfl,rfl,L (a++[42]++b) [92] 0#G ∅,?_⟩;rw[show S (a++[42]++b)++0#e "\\"=S (a++[42]++b++[92]) from aJ _ _];refine 54#(a++[42]++b++[92]);rw[aJ];refine 4#R;obtain⟨z1,z2⟩:=wtup (k:="plain") (x:=a++[42]++b++[92]++d) a2 0#aG hp;have ll:=9#P;refine⟨_,rfl,_,_,rfl,rfl,L a [92,42] nofun ∅,?_⟩;rw[show S a++0#e "\\*"=S (a++[92,42]) from aJ _ _];refine 41#(a++[92,42]);rw[aJ];refine⟨_,_,rfl,rfl,L (a++[92,42]++b) [92] 0#G ∅,?_⟩;rw[show S (a++[92,42]++b)++0#e "\\"=S (a++[92,42]++b++[92]) from aJ _ _];refine 54#(a++[92,42]++b++[92]);rw[aJ];exact 57#(way4 ha hb hd)
 show 59;refine s_if 28#(i % 9=5) 3#D 5#x λH3 s3 _=>?_
 ·have a2:=3#n;show 35;refine 4#R;obtain⟨z1,z2⟩:=wtup (k:="plain") (x:=a++[32,61,32,62,32,124,32,45,32,43,32]++b) a2 ⟨ap (ap aa 1#C) ba,by simp;omega⟩ hp;have ll:=9#P;show 35;exact 57#(way5 ha hb)
 show 59;refine s_if 28#(i % 9=6) 3#D 5#x λH3 s3 _=>?_
 ·have a2:=3#n;refine⟨_,rfl,bg2,λp1 a4=>⟨_,rfl,_,_,rfl,rfl,L [58,32] a ∅ nofun,?_⟩⟩;rw[show 0#e ": "++S a=S ([58,32]++a) from aJ _ _];refine⟨bg2,λp2 a3=>⟨bg2,λl hl=>?_⟩⟩;obtain⟨z1,z2⟩:=wtup (k:="note") a2 96#na a4;obtain⟨y1,y2⟩:=wtup (k:="plain") z1 ⟨ap (x:=[58,32]) 1#C aa,by simp;omega⟩ a3;have ll:=bP y1 hl 9#p 0#al;refine⟨_,rfl,_,_,rfl,rfl,L 3#f gr ∅ nofun,?_⟩;rw[show 0#e "[^"++S gr=S (3#f++gr) from aJ _ _];refine⟨_,_,rfl,rfl,L (3#f++gr) [93,92,58,32] 0#G ∅,?_⟩;rw[show S (3#f++gr)++0#e "]\\: "=S (3#f++gr++[93,92,58,32]) from aJ _ _];refine⟨_,rfl,_,_,rfl,rfl,L (3#f++gr++[93,92,58,32]) a 0#G nofun,?_⟩;rw[aJ];exact 57#(way6 ha hn)
 show 59;refine s_if 28#(i % 9=7) 3#D 5#x λH3 s3 _=>?_
 ·have a2:=3#n;refine⟨_,rfl,_,_,rfl,rfl,L [61,32] a ∅ nofun,?_⟩;rw[show 0#e "= "++S a=S ([61,32]++a) from aJ _ _];refine 4#R;obtain⟨z1,z2⟩:=wtup (k:="plain") a2 ⟨ap (x:=[61,32]) 1#C aa,by simp;omega⟩ hp;have ll:=9#P;refine⟨_,rfl,_,_,rfl,rfl,L [92,61,32] a ∅ nofun,?_⟩;rw[show 0#e "\\= "++S a=S ([92,61,32]++a) from aJ _ _];exact 57#(way7 ha)
 have a2:=3#n;show 16;show 30;rw[aJ];refine 4#R;obtain⟨z1,z2⟩:=wtup (k:="plain") (x:=a++[32]++b++[32]++d) a2 0#aG hp;have ll:=9#P;show 16;show 30;rw[aJ];exact 57#(way8 ha hb hd)
end
def RwS (m:Nat)(rs:0#m):Prop:=(rs.map λr=>1#m+1).sum<=m/\∀r∈rs,GdR r
def RwS.sm {m:Nat}{rs:0#m}(h:RwS m rs)(k:m<=90000):SmR rs:=⟨l17 h.1 k,λr hr c hc=>(h.2 r hr c hc).1⟩
def RwS.app {m n:Nat}{a b:0#m}(h:RwS m a)(k:RwS n b):RwS (m+n) (a++b):=⟨by rw[l14,l45];exact Nat.add_le_add h.1 k.1,λr hr=>(2#n hr).elim (h.2 r) (k.2 r)⟩
def RwS.one {m:Nat}{r:0#a}(h:GdR r)(k:1#m+1<=m):RwS m [r]:=⟨k,λx hx=>by rw[2#R hx];exact h⟩
def RwS.nil:RwS 0 []:=0#gr
def RwS.le {m n:Nat}{a:0#m}(h:RwS m a)(k:m<=n):RwS n a:=⟨l17 h.1 k,h.2⟩
def RwS.len {m:Nat}{a:0#m}(h:RwS m a):3#x<=m:=l17 (nI a) h.1
def dY (n:Nat):GdR 165#n:=λc hc=>by rw[(l85.mp hc).2];decide
def ui {G:Hp}{v:V}:∀{ks:List Str},Dn G v (.tuple (ks.map .str))->∃p,v = .ref p/\G p=some (.tup (ks.map V.str)):=λ{ks} h=>by
 have:∀{ks:List Str} {vs:List V},DnAll G vs (ks.map .str)->vs=ks.map V.str:=by
  intro ks
  induction ks with
  |nil=>intro vs h;cases h;rfl
  |cons k ks ih=>
   intro vs h;cases h with
   |cons a b=>
    cases a;rw[ih b];rfl
 generalize hd:PyData.tuple (ks.map .str)=d at h;cases h with
 |tup e r=>cases hd;exact⟨_,rfl,by rw[e,this r]⟩
 |_=>cases hd
section
abbrev n5:Stmt:=top 107
abbrev pq:List Str:=["_law_raw","_law_number","_law_ahead","_law_rows","_law_k","_law_word_here","_law_more"]
def szW (ws:0#m):Nat:=(ws.map λw=>4#J+8).sum
inductive spBroken (vs:0#t)(H:Hp)(Q:VK)(u3:XK):Prop
 |mk (ws:List (List Nat))(n:Int)(ah:List Nat)(_:vs=[vS (ao [32] ws), .int n,vS ah])(_:∀w∈ws,w≠[]/\32∉w/\GdR w)(_:ws≠[])(_:ws.length<=9)(_:szW ws<=1000)(_:GdR ah)(_:ah.length<=1000)(_:∀r rs H',Same H H'->H r=none->H' r=some (.lst (rs.map vS))->Brk ah ws rs->RwS (ah.length+1+szW ws) rs->rs.length<=10->Q (.ref r) H')
theorem uj:∀ws:List 16#Nat,(ao [32] ws).length<=szW ws
 | []=>4#r
 | [p]=>by show 0#dB<=0#dB+8+0;omega
 |p::q::r=>by
  have:=uj (q::r);rw[5#v,l6,l6];show 0#dB+1+_<=0#dB+8+szW (q::r);omega
def kI (ws:0#m)(u:0#a):szW (ws++[u])=szW ws+(u.length+8):=by unfold szW;rw[l14,l45];rfl
def wr (ws:0#m)(i:Nat):szW (ws.take i)<=szW ws:=by
 conv=>rhs;rw[<- l63 i ws]
 unfold szW;rw[l14,l45];omega
def uk (F:2#k "_law_broken" "_law_broken" n5 f fd)(T:TxL mg)(Dc:0#c 1 "_law_mixed" p17 spMixed):FnOk P w K mg base CX0 2 f fd p36 spBroken:=by
 have sc:1#b pq p36 55#n5:=mkS;show 0;obtain⟨ws,n,ah,rfl,d5,e3,hwl,hsz,e6,hal,q⟩:=h;refine az (xbc 39#(xlst 10#(5#M))
  (xbc (0#cd rfl (xie T.z12 10#(8#j (2#U) 19#xstr)) 92#xgs0
  (xbc (xst (i:=6) sc.nd (xcd Dc hr (xac (2#E) 10#(xv 4))))
  (xb1 (xif (xand (aB gL (xv 4) xint (ak _)) (xand 40#(xop aM (xv 6) xint) (gU (aB kY (xv 5) (ic 91#(xlsc (dG ∅) xls0)) 1#q)))).xt (xbc (xasg (2#Z (4#t (6#k) (5#c) 0#n) (6#o 26#6)) (vd (6#k) (5#c) gC))
  103#(bI (xmA (6#k) 10#(2#Z (6#o (9#G 26#6)) (xv 5))))) 103#(xif (aB gL (xv 4) xint (ak _)) (xb1 (xasg (2#Z (2#Z (xix aH (6#k) (5#c) 0#n) (6#o (9#G 26#6))) (xv 5)) (vd (6#k) (5#c) gC))) (xb1 (xasg (2#Z (xix aH (6#k) (5#c) 0#n) (xv 5)) (vd (6#k) (5#c) gC))))))))
  13#(6#k))) ?_
 show 13;rw[show start pq [vS 71#ws,V.int n,vS ah]=[some (vS 71#ws),some 21#n,some (vS ah),none,none,none,none] from rfl];refine⟨_,rfl,bg1,λR hR=>?_⟩
 symm
 have s1:=ad hR 126#ah;have e1:4#b R 126#ah R=some 14#(([]++[ah]).map vS):=ac;generalize upd H R (.lst [vS ah])=H1 at s1 e1 ⊢;have hgl:=uj ws;refine⟨_,rfl,rfl,_,_,rfl,rfl,rfl,by rw[aw];omega,λL hL=>⟨L,_,rfl,ac,?_⟩⟩;rw [show (Txt.split (S 71#ws) 4#G).map V.str=ws.map vS by
  rw[show Txt.split (S 71#ws) 4#G=(aG 32 71#ws).map S from gW 32 _,cR 32 ws e3 λp hp=>(d5 p hp).2.1,<- dA]]
 have s2:=s1.trans (ad hL 14#(ws.map vS));have e2:=ad hL 14#(ws.map vS) _ _ e1;have eL:upd H1 L 14#(ws.map vS) L=some 14#(ws.map vS):=ac;have a8:L≠R:=(aC e1 hL).symm;generalize upd H1 L (.lst (ws.map vS))=H2 at s2 e2 eL ⊢;refine o0 (xs:=ws.map vS) (λi σ H'=>Ex5 λ(x4 x5 x6:Option V) (dn:List (List Nat)) (cu:List Nat)=>Al7 (σ=[some (vS 71#ws),some 21#n,some (vS ah),some 11#R,x4,x5,x6]) (0#T) (H' L=some 14#(ws.map vS)) (H' R=some 14#((dn++[cu]).map vS)) ((i=0/\dn=[]/\cu=ah) ∨ (1<=i/\BO ah (ws.take i) dn cu)) (RwS (ah.length+1+szW (ws.take i)) (dn++[cu])) (dn.length<=i)) ⟨none,none,none,[],ah,rfl,s2,eL,e2, .inl ⟨rfl,rfl,rfl⟩,RwS.one e6 nofun,7#j⟩ ?_ ?_ ?_
 ·rintro i σ H3 _ ⟨_,_,_,_,_,_,_,a7,_⟩;ac_rfl;exact 0#w a7
 ·rintro i x σ H3 U hx ⟨x4,x5,x6,dn,cu,rfl,s3,a7,c4,a5,a4,e5⟩ hU;rw[0#x] at hx;obtain⟨u,hu,rfl⟩:=0#fP;have hi:=(0#C hu).1;obtain⟨c0,c5,e9⟩:=d5 u 125#hu;have htk:ws.take (i+1)=ws.take i++[u]:=by rw[List.take_succ,hu];rfl
  have f0:=wr ws (i+1);rw[htk,kI] at f0;have hcl:cu.length<=3000:=by
   have:=a4.1;rw[l14,l45] at this;have this:_+(cu.length+1)<=_:=this;omega
  have hdl:dn.length+1<=3000:=by
   have:=a4.len;rw[l6] at this;have this:dn.length+1<=_:=this;omega
  have c1:=ad hU (.tup [.int (i:Nat),vS u]);refine 0#bT
  symm
  have a6:=c1 _ _ c4;have a9:=c1 _ _ a7;have s4:=s3.trans c1;generalize upd H3 U (.tup [.int (i:Nat),vS u])=H4 at a6 a9 s4 ⊢;refine⟨_,rfl,_,rfl,n,(i:Int),rfl,by omega,by omega,λm hm=>?_⟩
  symm
  obtain⟨M,rfl⟩:∃M:Nat,m=(M:Int):=96#m.toNat;have e8:(!inV (vS u) [vS [45],vS [43]])=decide (u≠[45]/\u≠[43]):=by
   have e:∀y:0#a,(vS y=vS u) ↔ u=y:=λy=>⟨λz=>(dt 102#z).symm,λz=>by rw[z]⟩;rw[show inV (vS u) [vS [45],vS [43]]=(decide (S [45]=S u)||(decide (S [43]=S u)||false)) from rfl,Bool.or_false,2#L];simp only[Bool.not_eq_true',Bool.or_eq_false_iff,decide_eq_false_iff_not,decide_eq_true_iff];exact⟨λz=>⟨λy=>z.1 (by rw[y]),λy=>z.2 (by rw[y])⟩,λz=>⟨λy=>z.1 (dt y).symm,λy=>z.2 (dt y).symm⟩⟩
  have d4:GdR u:=e9;have hrd:RwS (ah.length+1+szW (ws.take i)) (dn++[cu]):=a4;have c3:GdR cu:=a4.2 cu (l35 _ l7);have hsum:(dn.map λr=>1#m+1).sum+(cu.length+1)<=ah.length+1+szW (ws.take i):=by
   have:=a4.1;rw[l14,l45] at this;show 54
  have d8:∀r∈dn,GdR r:=λr hr=>a4.2 r (l44 _ hr);have d6 : ∀ y : List Nat, GdR y -> 5#u <= cu.length + (u.length + 8) -> RwS (ah.length + 1 + szW (ws.take (i + 1))) (dn ++ [y]) := fun y hy hl => ⟨by
   rw[l14,l45,htk,kI];show _+(5#u+1)<=_;omega,λr hr=>by
   rcases 2#n hr with z |z
   ·exact d8 r z
   ·rw[2#R z];exact hy⟩
  refine s_if (decide (0 < i)&&(decide ((M:Int) % 5=1)&&decide (u≠[45]/\u≠[43]))) (dF _ _ (7#h 0#bW) λ_ H5 s5=>dF _ _ (cV (AQ (show (0:Int) < 5 by omega) 0#u) ev_c) λ_ H6 s6=>λRr kk=>?_) (λH5 s5 z=>?_) λH5 s5 z=>?_
  ·refine⟨_,rfl,λv7 H7 s7 d7=>?_⟩;obtain⟨p,rfl,ep⟩:=ui (ks:=[0#e "-",0#e "+"]) d7;refine⟨p,[vS [45],vS [43]],rfl, .inr (2#m (0#gz ep)),rfl,rfl,_,rfl,?_⟩;rw[1#d rfl,e8];exact kk _ s7
  ·rw[0#r,0#r] at z;have d2:0 < i:=0#s z.1;obtain⟨c2,d3⟩:u≠[45]/\u≠[43]:=0#s z.2.2;obtain⟨a1,e7⟩:∃a1,a1=M / 5 % 3:=0#F;obtain⟨a2,ha2⟩:∃a2,a2=M / 15 % 4:=0#F;refine⟨_,rfl,1,rfl,R,_,_,vS cu,rfl,rfl,0#w (4#D a6),mW dn cu,_,rfl,_,_,rfl,rfl,0#q,_,_,rfl,rfl,show (0:Int) < 3 by omega,_,_,rfl,rfl,by decide,by omega,by omega,?_⟩;rw[show (M:Int) / 5 % 3=((a1:Nat):Int) by omega,show 9#N 4#G ((a1:Nat):Int)=S 165#a1 from fH 32 a1];refine 0#bq;rw[aJ];refine⟨_,rfl,1,rfl,R,_,_,_,rfl,rfl,4#D a6,mX dn cu,?_⟩
   symm
   rw[show ((dn++[cu]).map vS).set dn.length (V.str (S (cu++bls a1)))=(dn++[cu++bls a1]).map vS from oH dn cu _];have d0:upd H5 R 14#((dn++[cu++bls a1]).map vS) R=some 14#((dn++[cu++bls a1]).map vS):=ac;have e4:upd H5 R 14#((dn++[cu++bls a1]).map vS) L=some 14#(ws.map vS):=by rw[ai a8];exact s5 _ _ a9
   have s6:4#L (upd H5 R 14#((dn++[cu++bls a1]).map vS)):=aj hR (9#h);generalize upd H5 R (.lst ((dn++[cu++bls a1]).map vS))=H6 at d0 e4 s6 ⊢;refine⟨_,rfl, .inl 33#d0,_,rfl,_,_,rfl,rfl,0#q,_,_,rfl,rfl,show (0:Int) < 4 by omega,_,_,rfl,rfl,_,_,rfl,rfl,by decide,by omega,by omega,?_⟩;rw[show (1:Int)+(M:Int) / 15 % 4=((a2+1:Nat):Int) by omega,show 9#N 4#G ((a2+1:Nat):Int)=S 165#(a2+1) from fH 32 (a2+1)];refine⟨_,rfl,_,_,rfl,rfl,by rw[aw,aw,hs,bls,l23];omega,?_⟩;rw[aJ];refine⟨R,_,_,rfl,rfl,d0,by rw[l4,l6,hs];show _+1 < _;omega,?_⟩;refine⟨_,_,_,dn++[cu++bls a1],bls (a2+1)++u,rfl,aj hR s6,by rw[ai a8];exact e4,by rw[ac,l14 (l₁:=dn++[cu++bls a1])];rfl, .inr 0#ad,⟨?_,?_⟩,by rw[l6];show _+1<=_;omega⟩
   ·rcases a5 with ⟨y,_⟩ |⟨_,y⟩
    ·omega
    ·rw[htk];exact y.brk a1 a2 c5 c0 c2 d3
   ·rw[l14,l45,l14,l45,htk,kI];show _+((cu++bls a1).length+1)+((bls (a2+1)++u).length+1)<=_;rw[l6,l6,bls,bls,l23,l23];omega
   ·intro r hr;rcases 2#n hr with y |y
    ·rcases 2#n y with y |y
     ·exact d8 r y
     ·rw[2#R y];exact c3.app (dY _)
    ·rw[2#R y];exact(dY _).app d4
  ·refine s_if 28#(0 < i) (7#h 0#bW) (λH6 s6 y=>?_) λH6 s6 y=>?_
   ·have d2:0 < i:=0#s y;have a3:=0#fR;obtain⟨a1,e7⟩:∃a1,a1=M / 5 % 2:=0#F;refine⟨_,rfl,1,rfl,R,_,_,vS cu,rfl,rfl,0#w (a3 _ _ a6),mW dn cu,_,rfl,_,_,rfl,rfl,0#q,_,_,rfl,rfl,show (0:Int) < 2 by omega,_,_,rfl,rfl,_,_,rfl,rfl,by decide,by omega,by omega,?_⟩;rw[show (1:Int)+(M:Int) / 5 % 2=((a1+1:Nat):Int) by omega,show 9#N 4#G ((a1+1:Nat):Int)=S 165#(a1+1) from fH 32 (a1+1)];refine 0#bq;rw[aJ];refine⟨_,rfl,_,_,rfl,rfl,by rw[aw,aw,l6,hs,bls,l23];omega,?_⟩;rw[aJ];refine⟨_,rfl,1,rfl,R,_,_,_,rfl,rfl,a3 _ _ a6,mX dn cu,?_⟩;rw[show ((dn++[cu]).map vS).set dn.length (V.str (S (cu++bls (a1+1)++u)))=(dn++[cu++bls (a1+1)++u]).map vS from oH dn cu _];refine⟨_,_,_,dn,cu++bls (a1+1)++u,rfl,aj hR (s4.trans a3),by rw[ai a8];exact a3 _ _ a9,ac, .inr 0#ad,d6 _ ((c3.app (dY _)).app d4) (by rw[l6,l6,bls,l23];omega),by omega⟩;rcases a5 with ⟨y,_⟩ |⟨_,y⟩
    ·omega
    ·rw[htk];exact y.add a1 c5 c0
   ·have d2:i=0:=by have:=1#u y;omega
    have a3:=0#fR;obtain⟨_,rfl,rfl⟩ |⟨y,_⟩:=a5
    ·refine⟨_,rfl,1,rfl,R,_,_,vS cu,rfl,rfl,0#w (a3 _ _ a6),mW [] cu,_,rfl,_,_,rfl,rfl,by rw[aw,aw,hs];omega,?_⟩;rw[aJ];refine⟨_,rfl,1,rfl,R,_,_,_,rfl,rfl,a3 _ _ a6,mX [] cu,?_⟩;refine⟨_,_,_,[],cu++u,rfl,aj hR (s4.trans a3),by rw[ai a8];exact a3 _ _ a9,ac, .inr 0#ad,d6 _ (c3.app d4) 7#V,by show 0<=_;omega⟩;rw[htk,d2];exact BO.one c5 c0
    ·omega
 ·rintro σ H3 ⟨x4,x5,x6,dn,cu,rfl,s3,a7,c4,a5,a4,e5⟩;ac_rfl;rw[l4] at e5;rw[l4,l62] at a5 a4;rcases a5 with ⟨z,_⟩ |⟨_,a5⟩
  ·exact 0#A (l60 z) e3
  ·exact⟨_,rfl,q R _ H3 s3 hR c4 a5.ends a4 (by rw[l6];show _+1<=_;omega)⟩
end
end K13
namespace Lw
open PySem L2 Lm
theorem mem_glue {g:0#a}:∀{ws:List (List Nat)} {w:List Nat} {c:Nat},w∈ws->c∈w->c∈ao g ws
 | [p],w,c,h,k=>by rw[2#R h] at k;exact k
 |p::q::r,w,c,h,k=>by
  rw[5#v];rcases 1#y h with z |z
  ·rw[z] at k;exact l44 _ (l44 _ k)
  ·exact l35 _ (mem_glue z k)
def Ch:Nat->List Itm->Prop
 |_,[]=>True
 |lv,x::r=>x.1<=lv/\x.1<=5/\Ch (x.1+1) r
def Cl:Nat->List Itm->Prop
 |_,[]=>True
 |lv,x::r=>x.1 < lv/\x.1<=5/\Ch (x.1+1) r
theorem Cl.ch {lv:Nat}:∀{l:List Itm},Cl (lv+1) l->Ch lv l
 | [],_=>trivial
 |x::r,k=>⟨by have:=k.1;omega,k.2⟩
def ul:∀(n:Nat),n<=6->∀(m:Nat) (l:List Itm),0#L<=m->Ch (6 - n) l->Cl (6 - n) (l.drop (entR n l).2)
 |0,_,_,l,_,h=>by
  show Cl 6 l;cases l with
  |nil=>trivial
  |cons x r=>exact⟨by have:=h.2.1;omega,h.2⟩
 |n+1,_,_,[],_,_=>by rw[tT];trivial
 |n+1,_,0,x::r,h,_=>0#A h 3#S
 |n+1,hn,m+1,x::r,hl,h=>by
  rw[l5] at hl;have h1:=h.1;by_cases c:x.1+(n+1) < 6
  ·rw[xu c];exact⟨by omega,h.2⟩
  ·have h5:5<=x.1+n:=by omega
   have hx:x.1=6 - (n+1):=by omega
   rw[tU h5];show Cl (6 - (n+1)) ((x::r).drop (1+(entR n r).2+(entR (n+1) 3#u).2));have i1:=ul n nofun r.length r (7#j) (by rw[show 6 - n=x.1+1 by omega];exact h.2.2);rw[show 6 - n=6 - (n+1)+1 by omega] at i1;have i2:=ul (n+1) hn m 3#u 4#M i1.ch;rw[l26] at i2;rw[show 1+(entR n r).2+(entR (n+1) 3#u).2=(entR n r).2+(entR (n+1) 3#u).2+1 by omega,List.drop_succ_cons];exact i2
theorem Ch.five:∀{lv:Nat} {l:List Itm},Ch lv l->∀x∈l,x.1<=5
 |_,y::r,h,x,hx=>by
  rcases 1#y hx with z |z
  ·rw[z];exact h.2.1
  ·exact Ch.five h.2.2 x z
end Lw
namespace K13
open PySem L2 Lm Lw
def FlAt (W:Addr->Prop)(H:Hp)(t:Addr)(x:Itm):Prop:=∃v,H t=some (.tup [.int x.1,vS [x.2.1],v])/\Off W H v 139#((aT x.2.2).map dP)/\9#v
def FlAt.same {W:Addr->Prop}{H H':Hp}{t:Addr}{x:Itm}(s:0#T)(h:FlAt W H t x):FlAt W H' t x:=let ⟨v,a,b,c⟩:=h;⟨v,8#L a,b.same s,c⟩
def pw {W:Addr->Prop}{H H':Hp}{F:Addr}{v:V}{d:PyData}(s:0#T)(hF:H F=none)(h:0#cJ):Off 109#F H' v d:=by
 obtain⟨G,g1,g2,g3⟩:=h;refine⟨G,g1.trans s,λb hb=>?_,g3⟩;rcases hb with z |z
 ·exact g2 b z
 ·rw[z];exact g1.free hF
def FlAt.wide {W:Addr->Prop}{H H':Hp}{t F:Addr}{x:Itm}(s:0#T)(hF:H F=none)(h:FlAt W H t x):FlAt 109#F H' t x:=let ⟨v,a,b,c⟩:=h;⟨v,8#L a,pw s hF b,c⟩
section
abbrev um:Stmt:=top 108
abbrev uo:List Str:=["_law_flat","_law_at","_law_level","_law_found","_law_inner","_law_behind"]
inductive spLEnts (n:Nat) (vs:0#t) (H:Hp) (Q:VK) (u3:XK):Prop
 |mk:∀(W:Addr->Prop) (l:Addr) (its:List Itm) (p:Nat),(vs=[.ref l, .int p, .int ((6 - n:Nat):Int)])->LAt (FlAt W) H l its->Ch (6 - n) (its.drop p)->its.length<=1000->(∀b,W b->H b≠none)->(∀t r H',Same H H'->H' t=some (.tup [.ref r, .int ((p+(entR n (its.drop p)).2:Nat):Int)])->Off W H' (.ref r) (.list ((entR n (its.drop p)).1.map (dE n)))->Q (.ref t) H')->spLEnts n vs H Q u3
def df {n k:Nat}{spI:Sp}(hk:1<=k)(hn6:n<=6)(hI:∀j,n=j+1->∀vs H Q E,spLEnts j vs H Q E->spI vs H Q E)(F:2#k "_law_entries" "_law_entries" um f fd)(T:TxL mg)(Yo:0#c k "_law_entries" p33 spI):0#b (k+1) f fd p33 (spLEnts n):=by
 have sc:1#b uo p33 55#um:=mkS;show 14;obtain⟨W,l,a1,p,rfl,⟨ts,el,a8⟩,c0,e2,d2,q⟩:=h;refine az (xbc 20#3
  (xbc (di 1#x (xand 143#(2#E) (gU (aB aY 12#(4#t (2#U) (2#E) 0#n) (5#M) (ak _)))).xt
  (xbc (xasg (xcd Yo hr 17#(xac 4#l 19#(2#h (5#M) xint))) 92#xgs0)
  (xbc (bI (xmA (6#k) 10#(xtup (xac 47#(4#t (2#U) (2#E) 0#n) (xac 47#(4#t (2#U) (2#E) 0#n) 19#(xv 4))))))
  (xb1 84#(xv 5)))))
  13#(xtup 167#(6#k)))) ?_
 show 13;rw[show start uo [V.ref l, .int p, .int ((6 - n:Nat):Int)]=[2#f,some 21#p,some 21#((6 - n:Nat):Int),none,none,none] from rfl];refine 3#k;show 12
 symm
 show 9;have htl:=a8.len;have d8:¬ W X:=λz=>d2 X z hX;refine bS (λσ H'=>Ex3 λ(x4 x5:Option V) (vs:List V)=>Al5 6#L (0#T) (H' X=0#cS) (6#h<=1000) (Offs 109#X H' vs ((entR n 67#p).1.map (dE n)))) 3#H ?_;rotate_left
 ·rintro σ H' ⟨x4,x5,vs,rfl,s',eX,e4,ho⟩;ac_rfl;refine⟨_,rfl,_,rfl,bg2,λt ht=>q t X _ (s'.trans 46#ht) ac ?_⟩;exact(ue (ho.mono λb hb => .inl hb) eX d8 nofun).same 46#ht
 have tl:∀{H':Hp} {p':Nat} {x4 x5:Option V},0#T->Ch (6 - n) 67#p'->Tells (tAnd 112#(tOp (rI0 λi j=>V.bl 28#(i < j)) 44#1 (tCB 149#K 108#44#0)) 112#(tOp rEq 0#bv 44#2)) 0#ah H' 9#C:=λ{H' p' x4 x5} s' hc=>by
  cases hx:a1[p']? with
  |none=>
   show 138
  |some x=>
   have a5:=(0#C hx).1;show 39;have a6:(0#bp)[p']? = some 11#t:=by rw[0#x,ht];rfl
   obtain⟨a,x',hv,a7,c5,v,a9,_⟩:=a8.get a6;cases hv;rw[hx] at a7;cases a7;rw[c5] at hc;have hle:=hc.1;have e:decide ((x.1:Int)=((6 - n:Nat):Int))=decide (6 - n<=x.1):=2#F nofun;refine Tells.eq (dF true 28#((x.1:Int)=((6 - n:Nat):Int)) 0#gi λ_ H2 s2=>cV (λR' k=>⟨_,rfl,_,rfl,l,_,_,_,rfl,rfl,0#w 110#(s'.trans s2),ag a6,t,_,0,_,rfl,rfl,2#m ((s'.trans s2) _ _ a9),ag (j:=0) rfl,k⟩) 0#u) ?_;rw[3#Q,e]
 cases n with
 |zero=>
  show 116;refine⟨false,(tl s1 c0).eq ?_,(λz=>1#o z),λ_ H2 s2=>hN _ _ ⟨none,none,[],rfl,2#c,s2 _ _ e1,4#r, .nil⟩⟩;cases hx:a1[p]? with
  |none=>rfl
  |some x=>
   have a5:=(0#C hx);have:=c0.five x (by rw[l31 a5.1,a5.2];exact l7);exact 0#D nofun
 |succ j=>
  refine cy (λm σ H'=>Ex5 λ(x4 x5:Option V) (p':Nat) (vs:List V) (dn:List PyData)=>Al9 8#U (0#T) (H' X=0#cS) (6#h+(6#E - p')<=6#E) (Offs 109#X H' vs dn) (dn++(entR (j+1) 67#p').1.map (dE (j+1))=(entR (j+1) 67#p).1.map (dE (j+1))) (p'+(entR (j+1) 67#p').2=p+(entR (j+1) 67#p).2) (Ch (6 - (j+1)) 67#p') (m=6#E - p')) (6#E - p) ⟨none,none,p,[],[],rfl,s1,e1,by show 0+_<=_;omega, .nil,rfl,rfl,c0,rfl⟩ ?_;rintro m σ H2 ⟨x4,x5,p',vs,dn,rfl,s2,eX,e4,ho,a2,a3,hc,rfl⟩;ac_rfl;refine⟨_,tl s2 hc,λz H3 s3=>?_,λz H3 s3=>?_⟩
  ·cases hx:a1[p']? with
   |none=>rw[hx] at z;cases z
   |some x=>
   rw[hx] at z;have hlv:=0#s z;obtain⟨a5,hxe⟩:=0#C hx;show 39;have a6:(0#bp)[p']? = some 11#t:=by rw[0#x,ht];rfl
   obtain⟨a,x',hv,a7,c5,v,a9,e3,d5⟩:=a8.get a6;cases hv;rw[hx] at a7;cases a7;rw[c5] at hc a2 a3;have hx1:x.1=6 - (j+1):=by have:=hc.1;omega
   rw[tU nofun] at a2 a3;have d0:=0#Y;refine⟨_,rfl,_,rfl,_,_,rfl,rfl,_,rfl,_,_,rfl,rfl,hI j rfl _ _ _ _ ⟨λb=>W b ∨ b=X,l,a1,p'+1,?_,⟨ts,d0 _ _ el,a8.mono λa x h=>h.wide d0 hX⟩,by rw[show 6 - j=x.1+1 by omega];exact hc.2.2,e2,λb hb=>?_,λt5 r H4 s4 d3 d4=>?_⟩⟩
   ·show 104
   ·rcases hb with y |y
    ·intro w;exact d2 b y (d0.free w)
    ·rw[y,8#g eX];simp
   have c1:=ul j nofun _ 67#(p'+1) (7#j) (by rw[show 6 - j=x.1+1 by omega];exact hc.2.2);generalize entR j (a1.drop (p'+1))=d6 at a2 a3 d3 d4 c1;obtain⟨ew,en⟩:=d6;refine 168#(t5,d3)
   symm
   have c2:=4#j;have a4:=s2.trans c2;have c3:=c2 _ _ eX;refine⟨_,rfl, .inl 33#c3,_,rfl,_,rfl,l,_,_,_,rfl,rfl,0#w 110#a4,ag a6,t,_,1,_,rfl,rfl,2#m (a4 _ _ a9),ag (j:=1) rfl,_,rfl,_,rfl,l,_,_,_,rfl,rfl,0#w 110#a4,ag a6,t,_,2,_,rfl,rfl,2#m (a4 _ _ a9),ag (j:=2) rfl,_,rfl,bg3,λu hu=>?_⟩;have s5:=ad hu (.tup [vS [x.2.1],v, .ref r]);refine⟨X,_,_,rfl,rfl,4#D c3,by rw[hs];omega,?_⟩
   symm
   refine 118#_;have c4:¬ (W u ∨ u=X):=λy=>by
    rcases y with y |y
    ·exact d2 u y (a4.free hu)
    ·rw[y,c3] at hu;cases hu
   have d7:Off 109#X (upd H4 u (.tup [vS [x.2.1],v, .ref r])) 11#u (dE (j+1) (5#E:EnF (En j))):=by
    show Off _ _ _ (.tuple [.str (S (nB 28#(x.2.1=43))), .list ((aT x.2.2).map dP), .list (ew.map (dE j))]);rw[tJ d5];exact ud (((Offs.nil.snoc (nZ λG=>dn_S ⟨λc hc=>by rw[2#R hc];rcases d5 with y |y <;> omega,by show 1<=_;decide⟩)).snoc (pw (a4.trans s5) hX e3)).snoc (d4.same s5)) ac c4
   refine⟨_,0#dj,_,_,p'+1+en,vs++[.ref u],dn++[dE (j+1) (5#E:EnF (En j))],rfl,aj hX (a4.trans s5),ac,by rw[l6];show _+1+_<=_;omega,((ho.same (c2.trans s5)).snoc d7).upd 0#dT,?_,?_,?_,rfl⟩
   ·rw[l19,<- a2,l26];rfl
   ·rw[<- a3,l26];show p'+1+en+(entR (j+1) 67#(p'+1+en)).2=p'+(1+en+(entR (j+1) 67#(p'+1+en)).2);omega
   ·rw[l26,show 6 - j=6 - (j+1)+1 by omega] at c1;exact c1.ch
  ·have hz:entR (j+1) 67#p'=([],0):=by
    cases hx:a1[p']? with
    |none=>rw[l73 (7#H hx),tT]
    |some x=>
     rw[hx] at z;have a5:=0#C hx;have:=1#u z;rw[l31 a5.1,a5.2,xu nofun]
   rw[hz] at a2 a3;have a2:dn++[]=_:=a2;have a3:p'+0=_:=a3;rw[l12] at a2;refine hN _ _ ⟨x4,x5,vs,?_,0#Y,8#g eX,by omega,by rw[<- a2];exact ho.same s3⟩;rw[<- a3];rfl
end
def BAny (n:Nat)(kd:Knd)(rs:0#m)(d:PyData):Prop:=∃b:Bl (n+1),BOk n kd rs b/\dB (n+1) b=d
inductive GotK (N:Nat->Prop) (m nb:Nat) (H H':Hp) (t:Addr):Prop
 |mk:∀(v:V) (r:Addr) (rs:List (List Nat)) (kd:Knd) (d:PyData),Same H H'->H' t=some (.tup [v, .ref r])->H' r=some (.lst (rs.map vS))->Dn (dif H H') v d->(∀n,N n->BAny n kd rs d)->RwS m rs->rs.length<=nb->GotK N m nb H H' t
def zA {H H':Hp}{v:V}{d:PyData}(h:Off (λb=>H b≠none) H' v d):Dn 86#H' v d:=by
 obtain⟨G,s,n,k⟩:=h;refine k.same λb o e=>?_;have hb:H b=none:=by
  cases q:H b with
  |none=>rfl
  |some u=>rw[n b 0#bB] at e;cases e
 rw[aD hb];exact s _ _ e
def FlAt.upd {W:Addr->Prop}{H:Hp}{t F:Addr}{x:Itm}{xs:0#t}{o:HO}(hF:W F)(e:H F=9#l)(h:FlAt W H t x):FlAt W (L2.upd H F o) t x:=by
 obtain⟨v,a,b,c⟩:=h;exact⟨v,by rw[ai (nq e a)];exact a,b.upd hF,c⟩
theorem kJ:∀ws:List 16#Nat,szW ws<=(ao [32] ws).length+8 * ws.length
 | []=>7#j
 | [p]=>by show 0#dB+8+0<=0#dB+8 * 1;omega
 |p::q::r=>by
  have:=kJ (q::r);rw[5#v,l6,l6,l5 (as:=q::r)];show 0#dB+8+szW (q::r)<=0#dB+1+_+_;omega
def nxt:Nat->List Itm->Nat
 |a,[]=>a
 |_,x::r=>nxt (x.1+1) r
def Ch.snoc {x:Itm}:∀{a:Nat} {l:List Itm},Ch a l->x.1<=nxt a l->x.1<=5->Ch a (l++[x])/\nxt a (l++[x])=x.1+1
 |_,[],_,h,k=>⟨⟨h,k,trivial⟩,rfl⟩
 |_,y::r,c,h,k=>by
  obtain⟨p,q⟩:=Ch.snoc (l:=r) c.2.2 h k;exact⟨⟨c.1,c.2.1,p⟩,q⟩
abbrev Fl4:=Nat×Nat×Nat×List Nat
def fFar (b:Nat)(x:Fl4):Itm:=(b+2 * x.1+x.2.1,x.2.2.1,x.2.2.2)
def fLev (x:Fl4):Itm:=(x.1,x.2.2.1,x.2.2.2)
theorem uq {b:Nat}:∀{xs:List Fl4} {pv:Nat},0#gk->Ch pv 144#fLev->lvR b pv 144#(fFar b)=xs.map fLev
 | [],_,_,_=>rfl
 |x::xs,pv,h,c=>by
  have h1:=h x l7;have e:lvl b pv (fFar b x).1=x.1:=by
   have c1:x.1<=pv:=c.1;have c2:x.1<=5:=c.2.1;show min (min ((b+2 * x.1+x.2.1 - b) / 2) 5) pv=x.1;omega
  rw[l16,l16];show (lvl b pv (fFar b x).1,x.2.2.1,x.2.2.2)::lvR b (lvl b pv (fFar b x).1+1) 144#(fFar b)=_;have ih:=uq (b:=b) (pv:=x.1+1) (λy hy=>h y 38#hy) c.2.2;rw[e,ih];rfl
section
abbrev ur:Stmt:=top 109
abbrev ut:List Str:=["_law_number","_law_flat","_law_rows","_law_base","_law_level","_law_k","_law_more","_law_told","_law_raw","_law_sign","_law_far"]
inductive spLList (vs:0#t) (H:Hp) (Q:VK) (u3:XK):Prop
 |mk:∀i:Int,(vs=[.int i])->0<=i->(∀t H',GotK (λ_=>True) 1400 60 H H' t->Q (.ref t) H')->spLList vs H Q u3
def wt (F:2#k "_law_list" "_law_list" ur f fd)(T:TxL mg)(Dc:0#c 1 "_law_mixed" p17 spMixed)(Dj:0#c 4 "_law_parts" 1#t spLParts)(Dl:0#c 2 "_law_broken" p36 spBroken)(Yo:0#c 9 "_law_entries" p33 (spLEnts 6)):0#b 10 f fd 1#t spLList:=by
 have sc:1#b ut 1#t 55#ur:=mkS;show 0;show 68;refine az (xbc 20#1
  (xbc 20#2
  (xbc 39#(xop aM (2#U) xint)
  (xbc 56#xint
  (xbc (0#cd rfl (xir1 rfl T.q10 10#(9#G 26#0)) 27#5
  (xbc (xst (i:=6) sc.nd 154#(xv 5))
  (xbc 56#(xifE 37#5 xint (xcB (qW rfl) T.q11 rfl (xac xint 10#(xop aM (xv 6) (xop au (xv 4) xint)))))
  (xbc (xasg (xcd Dj hr 10#(xop aS (xv 6) xint)) (xgt rfl (xgsc 27#7 (xgsc 27#8 xgs0))))
  (xbc (xst (i:=9) sc.nd (xix dg xstr 26#6 0#n))
  (xbc (xst (i:=10) sc.nd (2#h (2#h (6#k) (xop bJ xint (xv 4))) (xop bJ (xcTy ft T.u13 rfl 10#(xcmp gL (xv 5) xint (ak _))) 26#6)))
  (xbc 49#(xop cb (5#M) (xcd Dl hr (xac (xv 8) (xac (xv 6) 10#(2#Z (2#Z (6#o (xv 10)) (xv 9)) (6#o (9#G 26#6)))))))
  103#(bI (xmA (2#E) 10#(xtup (xac (xv 4) (xac (xv 9) 19#(xv 7)))))))))))))
  13#(xtup (xac (xtup (1#p 19#(xix ay (xcd Yo hr (xac (2#E) (xac xint 35#xint))) xint 6#J))) 19#(5#M)))))))) ?_
 show 13;rw[show start ut [V.int i]=[5#m,none,none,none,none,none,none,none,none,none,none] from rfl];show 62;refine 3#k
 symm
 show 12;show 9;refine⟨bg0,λR0 e9=>?_⟩
 symm
 have s2:=s1.trans (ad e9 0#y);have e2:=ad e9 0#y _ _ e1;have f5:upd H1 R0 0#y R0=some 0#y:=ac;generalize upd H1 R0 (.lst [])=H2 at s2 e2 f5 ⊢;refine⟨_,rfl,_,_,rfl,rfl,show (0:Int) < 3 by omega,?_⟩
 symm
 obtain⟨bs,k3,hb2⟩:∃bs:Nat,(I:Int) % 3=(bs:Int)/\bs<=2:=⟨I % 3,by omega,by omega⟩;rw[k3];refine lU ?_
 symm
 obtain⟨W,hW⟩:∃W:Addr->Prop,W=λb=>H b≠none ∨ b=X:=0#F;have g3:W X:=by rw[hW];exact .inr rfl
 refine bS (λσ H'=>Ex11 λ(x4 x5 x6 x7 x8 x9 a6:Option V) (R:Addr) (rs:List (List Nat)) (ts:List Addr) (xs:List Fl4)=>Al13 (σ=[some 21#(I:Int),2#y,some 11#R,some 21#(bs:Int),x4,x5,x6,x7,x8,x9,a6]) (0#T) 77#ts.map 8#l (Ls (FlAt W H') ts 144#fLev) (xs≠[]) (0#E<=6) (ItRows rs 144#(fFar bs)) (Ch 0 144#fLev) 0#gk (((xs.map (fFar bs)).head?.map (·.1)).getD 0=bs) (RwS 800 rs) (1#r<=60)) 3#H ?_
 ·refine⟨_,rfl,_,_,rfl,rfl,0#q,_,_,rfl,rfl,show (0:Int) < 6 by omega,_,_,rfl,rfl,?_⟩;obtain⟨n,hn⟩:∃n:Nat,1+(I:Int) / 3 % 6=(n:Int):=⟨(1+(I:Int) / 3 % 6).toNat,by omega⟩;refine 2#V;rw[l40];refine cO (n:=n) (λk σ H'=>Ex11 λ(x5 x6 x7 x8 x9 a6:Option V) (lv:Nat) (R:Addr) (rs:List (List Nat)) (ts:List Addr) (xs:List Fl4)=>Al15 (σ=[some 21#(I:Int),2#y,some 11#R,some 21#(bs:Int),some 21#(lv:Int),x5,x6,x7,x8,x9,a6]) (0#T) 77#ts.map 8#l (R≠X) (Ls (FlAt W H') ts 144#fLev) (0#E=k) (ItRows rs 144#(fFar bs)) (Ch 0 144#fLev) (0 < k->nxt 0 144#fLev=lv+1) (lv<=5) 0#gk (0 < k->((xs.map (fFar bs)).head?.map (·.1)).getD 0=bs) (RwS (k * 130) rs) (1#r<=k * 10)) ⟨none,none,none,none,none,none,0,R0,[],[],[],rfl,s2,e2,f5,(aC e1 e9).symm,trivial,rfl,ItRows.nil,trivial,(λz=>0#A z nofun),by omega,1#F,(λz=>0#A z nofun),RwS.nil,7#j⟩ ?_ ?_
  ·rintro k σ H3 hk ⟨x5,x6,x7,x8,x9,a6,lv,R,rs,ts,xs,rfl,s3,a4,d2,k9,c3,a8,c5,c0,i2,e6,d4,a3,c4,e5⟩;ac_rfl
   symm
   show 64;have j4:=c3.len;rw[l4] at j4;refine⟨_,rfl,_,rfl,_,(k:Int),rfl,by omega,by omega,λm hm=>?_⟩
   symm
   obtain⟨M,rfl⟩:∃M:Nat,m=(M:Int):=96#m.toNat;refine bS (λσ H'=>Ex1 λ(a2:Nat)=>Al5 (σ=[some 21#(I:Int),2#y,some 11#R,some 21#(bs:Int),some 21#(a2:Int),some 21#(k:Int),some 21#(M:Int),x7,x8,x9,a6]) (H'=H3) (a2<=5) (k=0->a2=0) (0 < k->a2<=lv+1)) (λN' g5=>?_) ?_
   ·refine 6#w;refine ite2 5#y λc=>?_
    ·have d3:k=0:=by have:=V.int.inj (0#s c);omega
     exact g5 _ _ ⟨0,rfl,rfl,by omega,λ_=>rfl,λz=>by omega⟩
    ·have d3:k≠0:=λz=>c (by rw[z];rfl);refine⟨_,rfl,_,rfl,_,_,rfl,rfl,_,_,rfl,rfl,show (0:Int) < (lv:Int)+2 by omega,_,_,rfl,?_⟩;refine g5 _ _ ⟨min 5 (M % (lv+2)),?_,rfl,by omega,λz=>0#A z d3,λ_=>by have:=Nat.mod_lt M (show 0 < lv+2 by omega);omega⟩;have:(if (M:Int) % ((lv:Int)+2) < 5 then (M:Int) % ((lv:Int)+2) else 5)=((min 5 (M % (lv+2)):Nat):Int):=by
      rw[show (M:Int) % ((lv:Int)+2)=((M % (lv+2):Nat):Int) by simp];split <;> omega
     rw[this];rfl
   rintro σ Hq ⟨a2,rfl,f3,g1,g2,i4⟩;ac_rfl;rw[f3];clear f3;refine⟨_,rfl,_,_,rfl,rfl,0#q,_,rfl,λtp lp raw ps H4 s4 k1 j2 d8=>?_⟩;refine 168#(tp,k1)
   symm
   ac_nf;obtain⟨ws,a5,f1,k5,j7⟩:=d8.ws;obtain⟨sg,k4,a9⟩:∃sg,([45,43]:List Nat)[M / 3 % 2]? = some sg/\(sg=43 ∨ sg=45):=by
    have:M / 3 % 2=0 ∨ M / 3 % 2=1:=by omega
    rcases this with z |z <;> rw[z]
    ·exact⟨45,rfl, .inr rfl⟩
    ·exact⟨43,rfl, .inl rfl⟩
   refine⟨_,rfl,_,_,rfl,rfl,0#q,_,_,rfl,rfl,show (0:Int) < 2 by omega,_,_,sg,rfl,rfl,by rw[hs];decide,?_,?_⟩
   ·rw[show ((M:Nat):Int) / 3 % 2=((M / 3 % 2:Nat):Int) by omega];exact ag (xs:=([45,43]:0#a)) k4
   symm
   rw[show (⟨#[sg]⟩:Str)=S [sg] from rfl];obtain⟨ee,k2,e4,f2⟩:∃ee:Nat,(if decide ((k:Int) > 0)=true then (1:Int) else 0) * ((M:Int) / 6 % 2)=(ee:Int)/\ee<=1/\(k=0->ee=0):=by
    by_cases c:0 < k
    ·exact⟨M / 6 % 2,by rw[1#d (1#f nofun)];omega,by omega,λz=>by omega⟩
    ·exact⟨0,by rw[0#z (by rw[4#W];omega)];omega,by omega,λ_=>rfl⟩
   refine⟨_,rfl,_,rfl,_,_,rfl,rfl, .inl nofun,_,_,rfl,rfl,_,rfl,_,_,rfl,rfl, .inr 118#_⟩;refine⟨_,rfl,_,_,rfl,rfl,0#q,_,_,rfl,rfl,show (0:Int) < 2 by omega,_,_,rfl,rfl, .inl ?_,_,_,rfl,rfl,?_⟩
   ·split <;> omega
   rw[k2,show (bs:Int)+2 * (a2:Int)+(ee:Int)=((bs+2 * a2+ee:Nat):Int) by omega]
   symm
   obtain⟨fr,g4⟩:∃fr,fr=bs+2 * a2+ee:=0#F;rw[<- g4];have hfr13:fr<=13:=by omega
   obtain⟨a1,ha1,ha12⟩:∃a1,a1=M / 12 % 2/\a1<=1:=⟨_,rfl,by omega⟩;refine⟨_,rfl,_,rfl,_,rfl,_,rfl,_,_,rfl,rfl,by decide,by omega,by omega,?_⟩;rw[show 9#N 4#G ((fr:Nat):Int)=S 165#fr from fH 32 fr];have lb:∀n,(bls n).length=n:=λn=>by rw[bls,l23]
   refine⟨_,rfl,_,_,rfl,rfl,by rw[aw,aw,hs,lb];show _+1<=_;omega,?_⟩;rw[aJ];refine 1#U;rw[show (1:Int)+(M:Int) / 12 % 2=((a1+1:Nat):Int) by omega,show 9#N 4#G ((a1+1:Nat):Int)=S 165#(a1+1) from fH 32 (a1+1)];refine⟨_,_,rfl,rfl,by rw[aw,aw,l6,hs,lb,lb];show _+1+_<=_;omega,?_⟩;rw[aJ];have j8:∀w∈ws,GdR w:=λu hu c hc=>by
    have:c∈raw:=by rw[a5];exact mem_glue hu hc
    have:=d8.gd c this;omega
   have hsz:szW ws<=112:=by
    have h1:=kJ ws;rw[<- a5] at h1;have:=d8.len;omega
   have e8:ws≠[]:=λz=>by
    cases k5 with
    |sg c r h _=>rw[z] at h;cases h
    |mk g t h _=>rw[z] at h;cases h
   refine⟨ws,(M:Int),bls fr++[sg]++bls (a1+1),by rw[<- a5];rfl,λu hu=>⟨(f1 u hu).1,(f1 u hu).2,j8 u hu⟩,e8,j7,by omega,((dY _).app (by intro c hc;rw[2#R hc];rcases a9 with z |z <;> rw[z] <;> decide)).app (dY _),by rw[l6,l6,lb,lb];show _+1+_<=_;omega,λr a7 H5 s5 hr5 i3 e7 d0 hrk5=>?_⟩
   have d7:=9#h;refine⟨R,r,_,_,rfl,rfl,d7 _ _ d2,i3,?_,λR2 d5=>?_⟩
   ·have h1:=c4.len;have h2:=d0.len;rw[l6,l6,lb,lb] at h2;have h2:a7.length<=fr+1+(a1+1)+1+szW ws:=h2;rw[l4,l4,hs];omega
   symm
   rw[<- l14];have s6:=d7.trans (ad d5 14#((rs++a7).map vS));have i1:=s5.trans (ad d5 14#((rs++a7).map vS));have h9:upd H5 R2 14#((rs++a7).map vS) R2=some 14#((rs++a7).map vS):=ac;generalize upd H5 R2 (.lst ((rs++a7).map vS))=H6 at s6 i1 h9 ⊢;have d6:=s6 _ _ a4;refine⟨_,rfl, .inl 33#d6,_,rfl,_,rfl,_,rfl,bg3,λu hu=>?_⟩;have s7:=ad hu (.tup [.int (a2:Int),vS [sg], .ref lp]);refine⟨X,_,_,rfl,rfl,0#gp d6,by rw[l4,hs];omega,?_⟩;have j1:∀b,W b->H3 b≠none:=λb hb z=>by
    rw[hW] at hb;rcases hb with y |y
    ·exact y (s3.free z)
    ·rw[y,a4] at z;cases z
   have e3:Off W H4 11#lp 139#((aT raw).map dP):=by rw[d8.parts];exact Off.new j2 j1
   have k0:=i1.trans s7;have g6:=9#i;obtain⟨xx,kk,ms,us,em,j0,htk,k7⟩:=e7.more f1;obtain ⟨c1, c2⟩ := Ch.snoc (x := fLev (a2, ee, sg, raw)) c0 (by
    show a2<=_;by_cases c:0 < k
    ·rw[i2 c];exact i4 c
    ·have:xs=[]:=l60 nofun;rw[this,g2 nofun];exact l11 _) g1
   refine⟨_,_,_,_,_,_,a2,R2,rs++a7,ts++[u],xs++[(a2,ee,sg,raw)],rfl,aj hX 160#g6,by rw[ac,l14];rfl,?_,(aC (d7 _ _ a4) d5).symm,?_,by rw[l6,a8];rfl,?_,by rw[l14];exact c1,λ_=>by rw[l14];exact c2,g1,λx hx=>?_,λ_=>?_,?_,by rw[l6];omega⟩
   ·rw[ai (aC (d7 _ _ a4) d5).symm];exact s7 _ _ h9
   ·rw[l14];refine Ls.snoc ((c3.mono λa x h=>(h.same g6).upd g3 (0#gp d6))) ⟨.ref lp,?_,(e3.same k0).upd g3,a9⟩;rw[ai (aC d6 hu).symm];exact ac
   ·rw[l14];refine c5.snoc ⟨_,ms,aN xx,us,em,(aW _).trans ?_,htk,?_⟩
    ·have:=rR j0 fr a1 kk sg (by rcases a9 with z |z;exact .inr z;exact .inl z);rw[this];show _=Srt.item (bs+2 * a2+ee) sg (aN xx);rw[g4]
    ·show raw=_;rw[a5,k7]
   ·rcases 2#n hx with z |z
    ·exact d4 x z
    ·rw[2#R z];exact e4
   ·cases xs with
    |nil=>
     have d3:k=0:=by rw[<- a8];rfl
     show bs+2 * a2+ee=bs;have:=g2 d3;have:=f2 d3;omega
    |cons y ys=>exact a3 (by rw[<- a8];exact l37 _)
   ·refine(c4.app d0).le ?_;rw[l6,l6,lb,lb];show k * 130+(fr+1+(a1+1)+1+szW ws)<=(k+1) * 130;omega
  ·rintro σ H3 ⟨x5,x6,x7,x8,x9,a6,lv,R,rs,ts,xs,rfl,s3,a4,d2,k9,c3,a8,c5,c0,i2,e6,d4,a3,c4,e5⟩;ac_rfl;exact hN _ _ ⟨_,x5,x6,x7,x8,x9,a6,R,rs,ts,xs,rfl,s3,a4,d2,c3,λz=>by rw[z] at a8;have:0=n:=a8;omega,by omega,c5,c0,d4,a3 nofun,c4.le nofun,by omega⟩
 rintro σ H3 ⟨x4,x5,x6,x7,x8,x9,a6,R,rs,ts,xs,rfl,s3,a4,d2,c3,f0,a8,c5,c0,d4,a3,c4,e5⟩;ac_rfl;have e6:lvs 144#(fFar bs)=xs.map fLev:=by
  unfold lvs;rw[a3];exact uq d4 c0
 refine⟨_,rfl,W,X,xs.map fLev,0,rfl,⟨ts,a4,c3⟩,c0,by rw[l4];omega,λb hb z=>?_,λt5 r H4 s4 j3 j9=>?_⟩
 ·rw[hW] at hb;rcases hb with y |y
  ·exact y (s3.free z)
  ·rw[y,a4] at z;cases z
 refine⟨t5,_,0,_,rfl,rfl,2#m j3,ag (j:=0) rfl,bg2,λu1 f4=>⟨_,rfl,bg2,λu2 h8=>?_⟩⟩;have j5:=4#j;have t1:=ad f4 (.tup [V.str "list", .ref r]);have t2:=ad h8 73#R;obtain⟨z1,z2⟩:=bu j5 f4 (.cons (dn_k (k:="list")) 34#(zA (j9.mono λb hb=>by rw[hW];exact .inl hb)));refine q u2 _ (.mk 11#u1 R rs .list _ (z1.trans t2) ac ((s4.trans (t1.trans t2)) _ _ d2) (z2.same (bE h8 _)) (λn _=>⟨(.lst (entR 6 (lvs 144#(fFar bs))).1:BkF (Bl n)),wm c5 (by simpa using f0),?_⟩) (c4.le ∅) e5);rw[e6];rfl
end
end K13
namespace Lw
open PySem L2 Lm
def n6 (a b:0#a):Lm.escC (a++b)=Lm.escC a++Lm.escC b:=by rw[cA,cA,cA,List.flatMap_append]
def uu (n:Nat):Lm.escC 165#n=bls n:=by
 rw[cA]
 induction n with
 |zero=>rfl
 |succ n ih=>rw[bls,l33,l95,show List.flatMap escS (0#f n 32)=bls n from ih];rfl
def pF {y:0#a}(h:y.getLastD 0=32):(0#du).getLastD 0≠92:=by
 rcases l48 y with z |⟨i,c,z⟩
 ·rw[z];decide
 ·rw[l55] at z;rw[z,bB 0#h] at h;have h:c=32:=h;rw[z,h,n6,bB ∅];decide
def be (ys:0#m):List Nat:=124::(ys.map λy=>0#du++[124]).flatten
theorem pI:∀{zs:List (List Nat)},zs≠[]->(zs.map λz=>z++[124]).flatten=ao [124] zs++[124]
 | [],h=>0#A rfl h
 | [z],_=>by simp[ao]
 |z::y::zs,_=>by
  rw[l16,l36,pI (zs:=y::zs) 0#h,aQ [124] z (y::zs) 0#h];simp
theorem jr:∀{ys:List (List Nat)},ys≠[]->(∀y∈ys,y.getLastD 0=32)->cT (ao [124] (ys.map Lm.escC))=ys.map aN/\(ao [124] (ys.map Lm.escC)).getLastD 0≠92
 | [],h,_=>0#A rfl h
 | [y],_,k=>by
  refine⟨?_,pF (k y l7)⟩;show cT (0#du)=_;unfold cT;rw[se,l16,l47,lP];rfl
 |y::z::ys,_,k=>by
  obtain⟨a,b⟩:=jr (ys:=z::ys) 0#h λx hx=>k x 38#hx;have hl:=pF (k y l7);have e:ao [124] ((y::z::ys).map Lm.escC)=0#du++124::ao [124] 0#ai:=by
   rw[l16,5#v];simp
  rw[e];show 41
  ·unfold cT at a ⊢;rw[yz _ _ hl,l14,a,se,l16,l47,lP];rfl
  ·by_cases c:ao [124] 0#ai=[]
   ·rw[c,bB 0#h];decide
   ·rw[show Lm.escC y++124::ao [124] 0#ai=(0#du++[124])++ao [124] 0#ai by simp,bB c];exact b
def uv {ys:0#m}(hn:ys≠[])(h:∀y∈ys,y.getLastD 0=32):aL (be ys) = .cells (ys.map aN):=by
 obtain⟨a,b⟩:=jr hn h;have:=qt b 0;rw[a] at this;rw[<- this];unfold be;have e:=pI (zs:=ys.map Lm.escC) (by simpa using hn);rw[l20] at e;rw[show (ys.map λy=>0#du++[124])=ys.map ((λz=>z++[124]) ∘ Lm.escC) from rfl,e];simp[bls]
structure CellR (raw:0#a)(ps:7#E):Prop where
 parts:aT raw=ps
 tidy:aN raw=raw
 gd:∀c∈raw,32<=c/\c < 127
 len:0#fk<=40
 rul:cC raw=false
def PtOk.cell {raw:0#a}{ps:7#E}(h:PtOk raw ps):CellR raw ps:=by
 obtain⟨ws,e,hw,_,_⟩:=h.ws;refine⟨h.parts,?_,h.gd,h.len,h.rul⟩;unfold aN;rw[e,qk hw]
def wu:CellR [97,124,98] [.one (.plain (S [97,124,98]))]:=⟨nS (by unfold NoMk;decide) ∅,by decide,by decide,by decide,by decide⟩
def ww:CellR [] []:=⟨mv,rfl,1#F,by decide,by decide⟩
def pJ {raw:0#a}(h:aN raw=raw)(a b:Nat):aN (bls a++raw++bls b)=raw:=by
 unfold aN at h ⊢;rw[ez,bh,h]
def wx (x:0#a)(b:Nat):(x++bls (b+1)).getLastD 0=32:=by
 rw[show bls (b+1)=bls b++[32] by unfold bls;exact List.replicate_succ',<- l19,bB 0#h];rfl
def bf (s:Bool)(k:Nat):List Nat:=if s then [45,58] else if k=0 then [45,45] else [45,45,45]
def fo (ss:List Bool)(k:Nat):List Nat:=124::(ss.map λs=>[32,45]++0#f (k+1) 60#s++[124]).flatten
def bb (ss:List Bool)(k:Nat):List Nat:=124::(ss.map λs=>32::bf s k++[124]).flatten
def sidesAll:List 16#Bool:=[[false],[true],[false,false],[false,true],[true,false],[true,true],[false,false,false],[false,false,true],[false,true,false],[false,true,true],[true,false,false],[true,false,true],[true,true,false],[true,true,true]]
def zB (s:Srt)(ts:0#m):Bool:=match s with
 | .cells t=>decide (t=ts)
 |_=>false
def wy:(sidesAll.all λss=>[0,1].all λk=>decide (0#ba (S (fo ss k)) (S [58,58]) 140#58=S (bb ss k))&&zB (aL (bb ss k)) (ss.map λs=>bf s k)&&(bb ss k).all 0#eN&&decide ((bb ss k).length<=20)&&decide ((fo ss k).length<=20))=true:=by decide
theorem uw:∀{ss:List Bool},1<=ss.length->ss.length<=3->ss∈sidesAll
 | [a],_,_=>by cases a <;> decide
 | [a,b],_,_=>by cases a <;> cases b <;> decide
 | [a,b,c],_,_=>by cases a <;> cases b <;> cases c <;> decide
 | [],h,_=>0#A h ∅
 |_::_::_::_::_,_,h=>0#A h 0#h
def zC {ss:List Bool}{k:Nat}(h1:1<=ss.length)(h3:ss.length<=3)(hk:k<=1):0#ba (S (fo ss k)) (S [58,58]) 140#58=S (bb ss k)/\aL (bb ss k) = .cells (ss.map λs=>bf s k)/\(∀c∈bb ss k,c < 128/\c≠10/\c≠9)/\(bb ss k).length<=20/\(fo ss k).length<=20:=by
 have a1:k∈[0,1]:=by
  have:k=0 ∨ k=1:=by omega
  rcases this with rfl |rfl <;> decide
 have h:=l39.mp (l39.mp wy ss (uw h1 h3)) k a1;show 136;obtain⟨⟨⟨⟨a,b⟩,c⟩,d⟩,e⟩:=h;refine⟨a,?_,λx hx=>0#s (l39.mp c x hx),d,e⟩;generalize aL (bb ss k)=s at b;cases s <;> first |cases b |skip
 rename_i t;exact 2#u Srt.cells (0#s b)
def iO:∀(s:Bool) (k:Nat),cC (bf s k)=true/\isR (bf s k)=s:=by
 intro s k;unfold bf;cases s
 ·rw[0#z ∅];split <;> decide
 ·rw[1#d rfl];decide
end Lw
namespace K13
open PySem L2 Lm Lw
def dCl (t:0#a):PyData := .list ((aT t).map dP)
def ux (m:Nat)(ts:0#m):cg (bx m ts) = .list (ts.map dCl++(1#Q 6#t).map λ_ => .list []):=by
 unfold cg bx;rw[l20,l14];congr 2;rw[l65,List.map_const',l42];congr 1;show 0#fE ((aT []).map dP)=_;rw[mv];rfl
structure CY (y:0#a):Prop where
 ex:∃raw ps a b,y=bls a++raw++bls (b+1)/\CellR raw ps/\a<=2/\b<=1
def uy (l:0#a):(Lm.escC l).length<=2 * l.length:=by
 rw[cA]
 induction l with
 |nil=>exact l9 _
 |cons x l ih=>
  rw[l95,l6,l5];have:(escS x).length<=2:=by unfold escS;split <;> simp
  omega
def Bo {l:0#a}(h:GdR l):GdR (Lm.escC l):=λc hc=>by
 rw[cA] at hc;obtain⟨x,hx,hc⟩:=List.mem_flatMap.mp hc;unfold escS at hc;split at hc
 ·rcases 1#y hc with z |z
  ·rw[z];decide
  ·rw[2#R z];decide
 ·rw[2#R hc];exact h x hx
def CY.all {y:0#a}(h:CY y):y.getLastD 0=32/\cC (aN y)=false/\GdR y/\5#u<=44:=by
 obtain⟨raw,ps,a,b,rfl,hc,ha,hb⟩:=h.ex;refine⟨wx _ _,by rw[pJ hc.tidy];exact hc.rul,((dY _).app λc hx=>by have:=hc.gd c hx;omega).app (dY _),?_⟩;have:=hc.len;rw[l6,l6,bls,bls,l23,l23];omega
def wz (ys:0#m)(y:0#a):be (ys++[y])=be ys++Lm.escC y++[124]:=by
 unfold be;rw[l14,l74];simp
def xw {ys:0#m}(h:∀y∈ys,CY y):(be ys).length<=1+90 * 3#o/\GdR (be ys):=by
 have:((ys.map λy=>0#du++[124]).flatten).length<=90 * 3#o/\GdR (ys.map λy=>0#du++[124]).flatten:=by
  induction ys with
  |nil=>exact 0#gr
  |cons y ys ih=>
   obtain⟨a,b⟩:=ih λx hx=>0#bO;obtain⟨_,_,h3,h4⟩:=(h y l7).all;have:=uy y;rw[l16,l36,l6,l6,l5];refine⟨by show (0#du).length+1+_<=90 * (3#o+1);omega,((Bo h3).app (by intro c hc;rw[2#R hc];decide)).app b⟩
 refine⟨by show _+1<=_;omega,λc hc=>?_⟩;rcases 1#y hc with z |z
 ·rw[z];decide
 ·exact this.2 c z
structure TbOk (m:Nat)(yss:List 16#(7#b)):Prop where
 row:∀ys∈yss,1<=3#o/\3#o<=m/\∀y∈ys,CY y
 fst:∀ys,yss.head? = some ys->3#o=m
def TbOk.cols {m:Nat}{yss:List 16#(7#b)}(h:TbOk m yss)(hn:yss≠[]):bU (0#fV)=m:=by
 cases yss with
 |nil=>exact 0#A rfl hn
 |cons ys yss=>
  have h1:(ys.map aN).length<=bU ((ys::yss).map 6#b):=kB (List.mem_map_of_mem l7);rw[l4,h.fst ys rfl] at h1;obtain⟨ts,h2,h3⟩:=nP (ls:=(ys::yss).map 6#b) 0#h;obtain⟨zs,h4,rfl⟩:=4#i h2;have:=(h.row zs h4).2.1;rw[l4] at h3;omega
def TbOk.tk {m:Nat}{yss:List 16#(7#b)}(h:∀ys∈yss,1<=3#o/\3#o<=m/\∀y∈ys,CY y):Tk dk true (yss.map be) (0#fV):=by
 induction yss with
 |nil=>trivial
 |cons ys yss ih=>
  obtain⟨a,b,k⟩:=h ys l7;refine⟨?_,ih λx hx=>0#bO⟩;rw[aW,uv (by intro z;rw[z] at a;exact 0#A a ∅) λy hy=>(k y hy).all.1];rfl
def xy {G:Hp}{v:V}{d:PyData}{k:Str}(h:Dn G v (.tuple [d, .str k])):∃t u,v = .ref t/\G t=some (.tup [u, .str k])/\Dn G u d:=by
 cases h with
 |tup e r=>
  cases r with
  |cons a r=>
   cases r with
   |cons b r=>
    cases b;cases r;exact⟨_,_,rfl,e,a⟩
theorem pK:∀{ys:List V},(∀y∈ys,∃b:Bool,y=vS (bZ b))->∃ss:List Bool,ys=ss.map λb=>vS (bZ b)
 | [],_=>⟨[],rfl⟩
 |y::ys,h=>by
  obtain⟨b,e⟩:=h y l7;obtain⟨ss,e2⟩:=pK λz hz=>h z 38#hz;exact⟨b::ss,by rw[e,e2];rfl⟩
def qM (b:Bool):decide (vS (bZ b)=V.str (0#e "right"))=b:=by
 cases b
 ·exact 0#D λz=>0#A (dt 102#(show V.str (S (bZ false))=V.str (S [114,105,103,104,116]) from z)) ∅
 ·exact 1#f rfl
section
abbrev zD:Stmt:=top 110
abbrev xz:List Str:=["_law_number","_law_many","_law_lines","_law_rows","_law_k","_law_line","_law_row","_law_j","_law_more","_law_told","_law_raw","_law_sides","_law_rule"]
inductive spLTab (vs:0#t) (H:Hp) (Q:VK) (u3:XK):Prop
 |mk:∀i:Int,(vs=[.int i])->0<=i->(∀t H',GotK (λ_=>True) 1400 60 H H' t->Q (.ref t) H')->spLTab vs H Q u3
def zE (F:2#k "_law_table" "_law_table" zD f fd)(T:TxL mg)(Dc:0#c 1 "_law_mixed" p17 spMixed)(Dj:0#c 4 "_law_parts" 1#t spLParts):0#b 5 f fd 1#t spLTab:=by
 have sc:1#b xz 1#t 55#zD:=mkS;show 14;show 68;refine az (xbc 84#(9#G 48#(2#U))
  (xbc 20#2
  (xbc 20#3
  (xbc (0#cd rfl (xir1 rfl T.q10 10#(9#G 26#0)) 27#4
  (xbc 20#5
  (xbc (xst (i:=6) sc.nd xstr)
  (xbc (0#cd rfl (xir1 rfl T.q10 10#(xop cP (2#E) (xcTy ft T.u13 rfl 19#(jA (xcmp gL (xv 4) xint (ak _)) (jA (xcmp gL (2#E) xint (ak _)) (xone (xcmp aY 26#0 xint (ak _)))))))) 27#7
  (xbc (xst (i:=8) sc.nd 154#(2#h (xop bJ xint (xv 4)) (xv 7)))
  (xbc (xasg (4#t 130#(xac (xcd Dj hr 10#(xop aS (xv 8) xint)) (xac (ic (xlsc (wT (xlsc (ic 91#(xlsc (dG ∅) xls0)) xls0)) 91#xls0)) (xac (ic (xlsc (wT xls0) 91#xls0)) 10#(xcd Dj hr 19#(xop aS (xv 8) xint))))) 48#(xv 8) 0#n) (xgt rfl (xgsc 27#9 (xgsc 27#10 xgs0))))
  (xbc (bI (xmA (xv 5) 10#(xv 9)))
  103#(xst (i:=6) sc.nd 53#(2#Z (2#Z (2#Z (xv 6) (6#o 26#8)) (yg (xv 10) ∅ ∅)) (6#o (9#G 26#8))))))))
  (xbc (bI (xmA (5#M) (xac (xop cb (xv 5) (xlc0 (own:=["_law_turn"])
  (xir1 rfl T.q10 10#(xop cP (2#E) (1#c 19#(xv 5))))
  22#(show (["_law_turn"]:0#O).Nodup by decide) 1#k (λ_ _ _ _=>130#xa0))) xa0)))
  103#(bI (xmA (6#k) 10#(xv 6))))))))
  (xbc (xif 40#26#0 13#(xtup (xac (xtup 142#(xac 130#xa0 (xac 130#xa0 19#(5#M)))) 19#(6#k))) xb0)
  (xbc (xslc (i:=11) sc.nd rfl rfl (cl:=[7#M]) (own:=["_law_j"]) (fr:=[0]) (N':=["_law_j","_law_number"]) rfl 7#C ∅ ∅ 1#q
  (xir1 rfl T.q10 10#(2#E))
  22#(show (["_law_j","_law_number"]:0#O).Nodup by decide) 1#k (λ_ _ _ _=>(xix oy 130#(1#p 10#xstr) 48#(xcd Dc hr (xac (2#E) 10#(9#G (2#U)))) 0#n)))
  (xbc (xst (i:=12) sc.nd (9#F (0#M (xac (xlc (cl:=[7#M]) (own:=["_law_side"]) (fr:=[0]) (N':=["_law_side","_law_number"]) rfl 7#C ∅ ∅ 1#q
  (xil (xv 11))
  22#(show (["_law_side","_law_number"]:0#O).Nodup by decide) 1#k (λ_ _ _ _=>53#(9#F (xop bW (xix dg xstr (xcTy ft T.u13 rfl 10#(xcmp aY (2#U) xstr (ak _))) 0#n) (9#G 26#1))))) xa0))))
  (xbc (xst (i:=12) sc.nd (yg (xv 12) ∅ ∅))
  13#(xtup (xac (xtup 142#(xac 164#(5#M) (xac (xv 11) 19#(xsl dm (5#M) 93#xint xo0)))) 19#(xop cb (xop cb (xsl dm (6#k) xo0 93#xint) (xlst 35#(xv 12))) (xsl dm (6#k) 93#xint xo0)))))))))))) ?_
 show 13;rw[show start xz [V.int i]=[5#m,none,none,none,none,none,none,none,none,none,none,none,none] from rfl];show 62;refine 9#o
 symm
 obtain⟨m,hm,hm1,hm3⟩:∃m:Nat,1+(I:Int) % 3=(m:Int)/\1<=m/\m<=3:=⟨1+I % 3,by omega,by omega,by omega⟩;rw[hm];refine⟨bg0,λLn i4=>?_⟩
 symm
 have s1:=ad i4 0#y;have e1:4#b Ln 0#y Ln=some 0#y:=ac;generalize upd H Ln (.lst [])=H1 at s1 e1 ⊢;refine⟨bg0,λRw h9=>?_⟩
 symm
 have m1:Rw≠Ln:=(aC e1 h9).symm;have p5:H Rw=none:=s1.free h9;have s2:=s1.trans (ad h9 0#y);have e2:=ad h9 0#y _ _ e1;have m7:upd H1 Rw 0#y Rw=some 0#y:=ac;generalize upd H1 Rw (.lst [])=H2 at s2 e2 m7 ⊢;obtain⟨W,hW⟩:∃W:Addr->Prop,W=λb=>H b≠none ∨ b=Ln ∨ b=Rw:=0#F;have r7:W Ln:=by rw[hW];exact .inr 2#a
 have n7:W Rw:=by rw[hW];exact .inr 0#dT
 have a6:∀{G:Hp} {x y:HO},4#L G->G Ln=some x->G Rw=some y->∀b,W b->G b≠none:=λsG eL eR b hb z=>by
  rw[hW] at hb;rcases hb with y |y |y
  ·exact y (sG.free z)
  ·rw[y,eL] at z;cases z
  ·rw[y,eR] at z;cases z
 refine bS (λσ H'=>Ex9 λ(x4 x5 x6 x7 x8 x9 a4:Option V) (ls:List V) (yss:List (List (List Nat)))=>Al8 6#c (0#T) (H' Ln=some 14#ls) 0#fu (6#Q H' ls 5#a) (2<=yss.length) (yss.length<=4) (TbOk m yss)) 3#H ?_
 ·refine⟨_,rfl,_,_,rfl,rfl,0#q,_,_,rfl,rfl,show (0:Int) < 3 by omega,_,_,rfl,rfl,?_⟩;obtain⟨n,hn⟩:∃n:Nat,2+(I:Int) / 3 % 3=(n:Int):=⟨(2+(I:Int) / 3 % 3).toNat,by omega⟩;refine 2#V;rw[l40];refine cO (n:=n) (λk σ H'=>Ex9 λ(x4 x5 x6 x7 x8 x9 a4:Option V) (ls:List V) (yss:List (List (List Nat)))=>Al7 6#c (0#T) (H' Ln=some 14#ls) 0#fu (6#Q H' ls 5#a) (yss.length=k) (TbOk m yss)) ⟨none,none,none,none,none,none,none,[],[],rfl,s2,e2,m7, .nil,rfl,⟨λ_ z=>(0#k),λ_ z=>0#k⟩⟩ ?_ ?_
  ·rintro k σ H3 hk ⟨x4,x5,x6,x7,x8,x9,a4,ls,yss,rfl,s3,c5,d4,a9,j2,a7⟩;ac_rfl
   symm
   show 64;have e6:=a9.len;rw[l4] at e6;refine⟨bg0,λLi m3=>?_⟩
   symm
   have s4:=ad m3 0#y;have e8:upd H3 Li 0#y Li=some 0#y:=ac;generalize upd H3 Li (.lst [])=H4 at s4 e8 ⊢;refine lU ?_
   symm
   refine bS (λσ H'=>Ex6 λ(x7 x8 x9 a4:Option V) (vs:List V) (ys:List (List Nat))=>Al8 3#Z 137#H3 (H' Li=0#cS) 0#cr (1<=3#o) (3#o<=m) (k=0->3#o=m) (∀y∈ys,CY y)) (λN' s0=>?_) ?_
   ·have p7:∀{G:Hp},Same H3 G->∀{x:HO},G Li=some x->∀b,(W b ∨ b=Li)->G b≠none:=λsG x eG b hb z=>by
     rcases hb with y |y
     ·exact a6 160#sG (sG _ _ c5) (sG _ _ d4) b y z
     ·rw[y,eG] at z;cases z
    refine 118#_;refine wZ (a := decide ((k : Int) > 0)) (b := decide ((m : Int) > 1) && decide ((I : Int) / 9 % 4 = 1)) 0#cw (wZ 0#cw (fun R r => ⟨_,rfl,_,_,rfl,rfl,0#q,_,_,rfl,rfl,show (0:Int) < 4 by omega,rfl,by
     rw[show decide (V.int ((I:Int) / 9 % 4)=V.int 1)=decide ((I:Int) / 9 % 4=1) from 2#F ⟨λz=>V.int.inj z,λz=>by rw[z]⟩];exact r⟩)) _ ?_
    refine .inr 118#_;obtain⟨d6,j8,hc1,hcm,q3⟩:∃d6:Nat,(m:Int) - (if (decide ((k:Int) > 0)&&(decide ((m:Int) > 1)&&decide ((I:Int) / 9 % 4=1)))=true then 1 else 0)=(d6:Int)/\1<=d6/\d6<=m/\(k=0->d6=m):=by
     by_cases c:(decide ((k:Int) > 0)&&(decide ((m:Int) > 1)&&decide ((I:Int) / 9 % 4=1)))=true
     ·have c2:=c;rw[0#r,0#r,4#W,4#W] at c2;exact⟨m - 1,by rw[1#d c];omega,by omega,by omega,λz=>by omega⟩
     ·exact⟨m,by rw[0#z c];omega,by omega,by omega,λ_=>rfl⟩
    refine⟨_,_,rfl,rfl,(d6:Int),2#u (λz=>[V.int z]) j8,by omega,by omega,?_⟩;rw[l40];refine cO (n:=d6) (λj σ H'=>Ex6 λ(x7 x8 x9 a4:Option V) (vs:List V) (ys:List (List Nat))=>Al6 3#Z 137#H3 (H' Li=0#cS) 0#cr (3#o=j) (∀y∈ys,CY y)) ⟨x7,x8,x9,a4,[],[],rfl,s4,e8, .nil,rfl,λ_ z=>0#k⟩ ?_ ?_
    ·rintro j σ H5 hj ⟨x7,x8,x9,a4,vs,ys,rfl,s5,a3,d7,d8,e7⟩;ac_rfl
     symm
     ac_nf;rw[show (0:Int)+(j:Int)=(j:Int) by omega];have j1:=d7.len;rw[l4] at j1;refine⟨_,rfl,_,rfl,_,_,rfl,rfl, .inl nofun,_,rfl,_,_,rfl,rfl,_,7 * (k:Int)+(j:Int),rfl,by omega,by omega,λm8 p0=>?_⟩
     symm
     obtain⟨M,rfl⟩:∃M:Nat,m8=(M:Int):=96#m8.toNat;refine⟨_,rfl,_,_,rfl,rfl,0#q,_,rfl,λt0 l0 raw0 ps0 H6 s6 u4 d0 c0=>λv1 H7 s7 d1=>λv2 H8 s8 d2=>⟨_,rfl,_,_,rfl,rfl,0#q,_,rfl,λt3 l3 raw3 ps3 H9 s9 q0 d3 c3=>⟨bg4,λL hL=>?_⟩⟩⟩;obtain⟨t1,w1,rfl,p9,t9⟩:=xy d1;obtain⟨t2,w2,rfl,v3,p4⟩:=xy d2;have t5:=s6.trans (0#gG);have q9:=ad hL 0#cm;obtain⟨t,wv,raw,ps,q1,ht,q4,g5⟩:∃t wv raw ps,atI [V.ref t0, .ref t1, .ref t2, .ref t3] ((M:Int) % 4)=some (.ref t)/\H9 t=some (.tup [wv,vS raw])/\Dn (dif H5 H9) wv (.list (ps.map dP))/\CellR raw ps:=by
      have:(M:Int) % 4=0 ∨ (M:Int) % 4=1 ∨ (M:Int) % 4=2 ∨ (M:Int) % 4=3:=by omega
      rcases this with z |z |z |z <;> rw[z]
      ·exact⟨t0,_,_,_,rfl,(0#gG) _ _ u4,d0.same 80#(0#gG),c0.cell⟩
      ·exact⟨t1,_,[97,124,98],[.one (.plain (S [97,124,98]))],rfl,161#s9 _ _ (0#gz p9),t9.same (aq s6 161#s9),wu⟩
      ·exact⟨t2,_,[],[],rfl,s9 _ _ (0#gz v3),p4.same (aq (9#i) s9),ww⟩
      ·exact⟨t3,_,_,_,rfl,q0,d3.same (aq (s6.trans (s7.trans s8)) 18#_),c3.cell⟩
     refine⟨_,rfl,_,_,rfl,rfl,show (0:Int) < 4 by omega,L,_,_,_,rfl,rfl,0#w ac,q1,t,_,rfl,2#m (q9 _ _ ht),rfl,_,_,rfl,_,_,rfl,rfl,?_⟩
     symm
     have c4:=t5.trans q9;have a8:=c4 _ _ a3;have k5:Off 109#Li (upd H9 L 0#cm) wv 139#(ps.map dP):=(Off.new q4 (p7 s5 a3)).same q9;generalize upd H9 L (.lst [V.ref t0, .ref t1, .ref t2, .ref t3])=H10 at c4 a8 k5 ⊢;refine⟨_,rfl, .inl 33#a8,_,rfl,Li,_,_,rfl,rfl,a8,by rw[hs];omega,?_⟩
     symm
     obtain⟨a1,ha1⟩:∃a1,a1=M / 4 % 3:=0#F;obtain⟨a2,ha2⟩:∃a2,a2=M / 12 % 2:=0#F;have lb:∀n,(bls n).length=n:=λn=>by rw[bls,l23]
     have hrl:=(xw e7).1;have hcl:=g5.len;have hel:=uy raw;refine⟨_,rfl,_,rfl,_,_,rfl,rfl,0#q,_,_,rfl,rfl,show (0:Int) < 3 by omega,_,_,rfl,rfl,by decide,by omega,by omega,?_⟩;rw[show (M:Int) / 4 % 3=((a1:Nat):Int) by omega,show 9#N 4#G ((a1:Nat):Int)=S 165#a1 from fH 32 a1];refine⟨_,_,rfl,rfl,by rw[aw,aw,lb,hs];omega,?_⟩;rw[aJ];refine 0#gs;rw[show 0#ba (S raw) (0#e "|") (0#e "\\|")=S (Lm.escC raw) from mO 124 6#q raw];refine⟨_,_,rfl,rfl,by rw[aw,aw,l6,lb,hs];omega,?_⟩;rw[aJ];refine 1#U;rw[show (1:Int)+(M:Int) / 12 % 2=((a2+1:Nat):Int) by omega,show 9#N 4#G ((a2+1:Nat):Int)=S 165#(a2+1) from fH 32 (a2+1)];refine⟨_,_,rfl,rfl,by rw[aw,aw,l6,l6,lb,lb,hs];omega,?_⟩;rw[aJ];refine⟨_,_,rfl,rfl,by rw[aw,l6,l6,l6,lb,lb,hs];show _+1<=_;omega,?_⟩;rw[show (S (be ys++bls a1++Lm.escC raw++bls (a2+1))++0#e "|")=S (be ys++bls a1++Lm.escC raw++bls (a2+1)++[124]) from aJ _ _];have ey:be (ys++[bls a1++raw++bls (a2+1)])=be ys++bls a1++Lm.escC raw++bls (a2+1)++[124]:=by
      rw[wz,n6,n6,uu,uu];simp
     rw[<- ey];refine⟨_,_,_,_,vs++[wv],ys++[bls a1++raw++bls (a2+1)],rfl,aj m3 (s5.trans c4),ac,?_,by rw[l6,d8];rfl,λy hy=>?_⟩
     ·rw[l14];refine Offs.upd ((d7.same c4).snoc ?_) 0#dT;show Off _ _ _ 139#((aT (aN (bls a1++raw++bls (a2+1)))).map dP);rw[pJ g5.tidy,g5.parts];exact k5
     ·rcases 2#n hy with z |z
      ·exact e7 y z
      ·rw[2#R z];exact⟨⟨raw,ps,a1,a2,rfl,g5,by omega,by omega⟩⟩
    ·rintro σ H5 ⟨x7,x8,x9,a4,vs,ys,rfl,s5,a3,d7,d8,e7⟩;ac_rfl;exact s0 _ _ ⟨x7,x8,x9,a4,vs,ys,rfl,s5,a3,d7,by omega,by omega,λz=>by rw[d8,q3 z],e7⟩
   rintro σ H5 ⟨x7',x8',x9',x10',vs,ys,rfl,s5,a3,d7,u3,u0,q7,e7⟩;ac_rfl;have g6:=4#D c5;have k2:=4#D d4;have j1:=d7.len;rw[l4] at j1;refine⟨_,rfl, .inl 33#g6,_,rfl,_,rfl,_,rfl,Li,_,rfl, .inl 74#a3,_,_,rfl,rfl,?_⟩;refine⟨((m - ys.length:Nat):Int),2#u (λz=>[V.int z]) (show (m:Int) - (vs.length:Int)=_ by omega),by omega,by omega,?_⟩;rw[l40];refine zr 0 (λ_ => .list []) nofun ?_ ?_
   ·intro j hj H6 s6 C N' q6;exact⟨(1#l).set ∅ _,iteT (B:=N' H6) ⟨bg0,λp hp=>q6 _ _ 46#hp (.lst (by rw[aD hp];exact ac) .nil (4#r))⟩⟩
   intro D2 H6 i2 hD2 s6 q2 n2;have e9:=n2.len;rw[l4,l42] at e9;refine⟨Li,D2,vs,i2,rfl,rfl,s6 _ _ a3,q2,by rw[hs];omega,λp hp=>?_⟩;have i3:=a6 160#s5 g6 k2;have s7:=ad hp 14#(vs++i2);have k4:Off W (upd H6 p 14#(vs++i2)) 11#p (cg (bx m (ys.map aN))):=by
    rw[ux,l20,l4];refine ue (Offs.app (((d7.mono λb hb => .inl hb).same s6).same s7) (Offs.same ⟨dif H5 H6,4#X,λb hb=>ej (i3 b hb),n2⟩ s7)) ac (λz=>?_) 7#V;exact a6 ((s3.trans s5).trans s6) (s6 _ _ g6) (s6 _ _ k2) p z hp
   have f2:=9#i;have n4:=f2 _ _ g6;have l1:=f2 _ _ k2;generalize upd H6 p (.lst (vs++i2))=H7 at f2 n4 l1 k4 ⊢;refine⟨Ln,_,_,rfl,rfl,n4,by rw[hs];omega,?_⟩
   symm
   have e5:upd H7 Ln 14#(ls++[.ref p]) Rw=some 14#((yss.map be).map vS):=by rw[ai m1];exact l1
   refine⟨_,rfl, .inl 33#e5,_,rfl,Rw,_,_,rfl,rfl,e5,by rw[l4,l4,hs];omega,?_⟩;refine⟨_,_,_,_,_,_,_,ls++[.ref p],yss++[ys],rfl,aj p5 (aj i4 ((s3.trans s5).trans f2)),by rw[ai 76#m1];exact ac,by rw[ac,l14,l14];rfl,?_,by rw[l6,j2];rfl,⟨λzs hz=>?_,λzs hz=>?_⟩⟩
   ·rw[l14];exact(((a9.same (s5.trans f2)).snoc k4).upd r7).upd n7
   ·rcases 2#n hz with y |y
    ·exact a7.row zs y
    ·rw[2#R y];exact⟨u3,u0,e7⟩
   ·cases yss with
    |nil=>cases hz;exact q7 (by rw[<- j2];rfl)
    |cons y yss=>exact a7.fst zs hz
  ·rintro σ H3 ⟨x4,x5,x6,x7,x8,x9,a4,ls,yss,rfl,s3,c5,d4,a9,j2,a7⟩;ac_rfl;exact hN _ _ ⟨x4,x5,x6,x7,x8,x9,a4,ls,yss,rfl,s3,c5,d4,a9,by omega,by omega,a7⟩
 rintro σ H3 ⟨x4,x5,x6,x7,x8,x9,a4,ls,yss,rfl,s3,c5,d4,a9,e9,k9,a7⟩;ac_rfl;have e3:yss≠[]:=λz=>by rw[z] at e9;exact 0#A e9 ∅
 have d5:=a7.cols e3;have e6:=a9.len;rw[l4] at e6;have a9:Offs (λb=>H b≠none) H3 ls 5#a:=a9.mono λb hb=>by rw[hW];exact .inl hb
 have l2:DnAll 86#H3 ls 5#a:=by
  obtain⟨G,g1,g2,g3⟩:=a9;refine g3.same λb o e=>?_;have hb:H b=none:=by
   cases qq:H b with
   |none=>rfl
   |some u=>rw[g2 b (by rw[qq];simp)] at e;cases e
  rw[aD hb];exact g1 _ _ e
 have a5:RwS 1100 (yss.map be):=by
  have:∀e4:List 16#(7#b),(∀ys∈e4,1<=3#o/\3#o<=m/\∀y∈ys,CY y)->RwS (272 * e4.length) (e4.map be):=by
   intro e4
   induction e4 with
   |nil=>intro _;exact RwS.nil
   |cons ys e4 ih=>
    intro h;obtain⟨_,b,k⟩:=h ys l7;obtain⟨z1,z2⟩:=xw k;exact((RwS.one (m:=272) z2 nofun).app (ih λx hx=>0#bO)).le 3#S
  exact(this yss a7.row).le nofun
 have j3:dif H H3 Ln=some 14#ls:=by rw[aD i4];exact c5
 refine s_if 28#((I:Int) / 36 % 2=0) (cV (λR k=>⟨_,rfl,_,_,rfl,rfl,0#q,_,_,rfl,rfl,show (0:Int) < 2 by omega,k⟩) ev_c) (λH4 s4 _=>?_) λH4 s4 _=>?_
 ·refine⟨bg0,λp1 j5=>⟨bg0,λp2 g4=>⟨_,rfl,bg4,λu1 f3=>⟨_,rfl,bg2,λu2 i1=>?_⟩⟩⟩⟩;have f5:=4#j;obtain⟨a1,a2⟩:=bP f5 j5 .nil (4#r);obtain⟨b1,b2⟩:=bP a1 g4 .nil (4#r);have n3:Same 86#H3 86#(upd (upd H4 p1 0#y) p2 0#y):=aq 18#_ ((s4.trans 46#j5).trans 46#g4);obtain⟨c1,c2⟩:=bu b1 f3 (.cons (dn_k (k:="table")) (.cons (a2.same (bE g4 _)) (.cons b2 34#(.lst (n3 _ _ j3) (l2.same n3) nofun))));have t2:=ad i1 73#Rw;refine q u2 _ (.mk 11#u1 Rw (yss.map be) .table _ (c1.trans t2) ac ((((s4.trans 46#j5).trans 46#g4).trans ((ad f3 _).trans t2)) _ _ d4) (c2.same (bE i1 _)) (λn _=>⟨(tblR (0#fV):BkF (Bl n)),mz (TbOk.tk a7.row) (by simpa using e3),?_⟩) (a5.le ∅) 1#A);have hc:(0#fV).length < 2 ∨ ((0#fV).getD 1 []).all cC=false:=by
   right;obtain⟨y0,y1,yr,rfl⟩:∃y0 y1 yr,yss=y0::y1::yr:=by
    match yss,e9 with
    |y0::y1::yr,_=>exact⟨y0,y1,yr,rfl⟩
   obtain⟨h1,_,h3⟩:=a7.row y1 0#h;show (y1.map aN).all cC=false;cases y1 with
   |nil=>exact 0#A h1 ∅
   |cons y ys=>
    rw[l16,List.all_cons,(h3 y l7).all.2.1];rfl
  unfold tblR;rw[1#d hc,d5];show 6#R [.str "table",cg [], .list [], .list (((0#fV).map (bx m)).map cg)]=_;rw[l20,l20];rfl
 have f5:=4#j;have eL4:=4#k c5;have eR4:=4#k d4;have L:∀(x y:List Nat),7#k<=60->5#u<=60->(S x).length+(S y).length<=sizeLine:=λx y h1 h2=>by rw[aw,aw,hs];omega
 refine⟨_,rfl,(m:Int),rfl,by omega,by omega,?_⟩;rw[l40];refine ib 0 (λv=>∃b:Bool,v=vS (bZ b)) (by rw[hs];omega) ?_ ?_
 ·intro j hj H5 s5 C N hC;refine⟨(1#l).set ∅ _,iteT (B:=N H5) ⟨bg2,λL hL=>⟨_,rfl,_,rfl,_,_,rfl,rfl,_,50+(0+(j:Int)),rfl,by omega,by omega,λm8 p0=>?_⟩⟩⟩;have t6:m8 % 2=0 ∨ m8 % 2=1:=by omega
  rcases t6 with z |z
  ·exact⟨_,_,rfl,rfl,show (0:Int) < 2 by omega,L,_,_,vS (bZ false),rfl,rfl,0#w ac,by rw[z];rfl,hC _ _ 46#hL 24#false⟩
  ·exact⟨_,_,rfl,rfl,show (0:Int) < 2 by omega,L,_,_,vS (bZ true),rfl,rfl,0#w ac,by rw[z];rfl,hC _ _ 46#hL 24#true⟩
 intro Sd H5 zs o1 s5 k0 k3 r0;obtain⟨ss,rfl⟩:=pK r0;rw[l4] at k3
 symm
 obtain⟨k7,p6,j9⟩:∃k7:Nat,(I:Int) / 72 % 2=(k7:Int)/\k7<=1:=⟨I / 72 % 2,by omega,by omega⟩;obtain⟨r1,r2,r3,r4,r5⟩:=zC (ss:=ss) (k:=k7) nofun nofun j9;refine⟨rfl,_,rfl,Sd,rfl,85#k0,?_⟩;refine o2 (ss.map λs=>[32,45]++0#f (k7+1) 60#s++[124]) 74#k0 (by rw[l4,l4]) 1#A ?_ ?_
 ·intro j x t hx ht H6 s6 C N hC;rw[0#x] at hx ht;obtain⟨b,hb,rfl⟩:=0#fP;rw[hb] at ht;cases ht;refine⟨(1#l).set ∅ _,iteT (B:=N H6) ⟨_,rfl,rfl, .inr 118#_⟩⟩;rw[qM];refine⟨_,_,if b then 58 else 45,rfl,rfl,by rw[hs];decide,by cases b <;> rfl,_,rfl,_,_,rfl,rfl,0#q,_,_,rfl,rfl,show (0:Int) < 2 by omega,_,_,rfl,rfl,_,_,rfl,rfl,by show 1<=_;decide,by omega,by omega,?_⟩
  rw[p6,show (1:Int)+(k7:Int)=((k7+1:Nat):Int) by omega,show 9#N ⟨#[if b then 58 else 45]⟩ ((k7+1:Nat):Int)=S (0#f (k7+1) 60#b) from fH _ _];refine⟨_,_,rfl,rfl,L [32,45] (0#f (k7+1) 60#b) ∅ 0#G,?_⟩;rw[show (0#e " -"++S (0#f (k7+1) 60#b))=S 0#bx from aJ _ _];refine⟨_,_,rfl,rfl,L 0#bx [124] 0#G ∅,?_⟩;rw[show (S 0#bx++0#e "|")=S ([32,45]++0#f (k7+1) 60#b++[124]) from aJ _ _];exact hC _ 18#_
 intro D H6 hD s6 eD;have f0:(fo ss k7).length=(ss.map λs=>[32,45]++0#f (k7+1) 60#s++[124]).flatten.length+1:=rfl;refine⟨S [],D,(ss.map λs=>[32,45]++0#f (k7+1) 60#s++[124]).map S,rfl,rfl,0#w (by rw[eD,dA]),?_,?_⟩
 ·rw[show (S []).length=0 from rfl,Nat.mul_zero,Nat.add_zero,fD,hs];rw[List.length_flatten] at f0;omega
 rw[cq,Lw.glue_flat];refine⟨_,_,rfl,rfl,L [124] _ ∅ nofun,?_⟩;rw[show (0#e "|"++S (ss.map λs=>[32,45]++0#f (k7+1) 60#s++[124]).flatten)=S (fo ss k7) from aJ [124] _]
 symm
 refine 0#gs;rw[show 0#ba (S (fo ss k7)) (0#e "::") (0#e ":")=S (bb ss k7) from r1]
 symm
 obtain⟨y0,yr,rfl⟩:∃y0 yr,yss=y0::yr:=by cases yss with |nil=>exact 0#A rfl e3 |cons a b=>exact 0#em
 obtain⟨v0,lr,rfl⟩:∃v0 lr,ls=v0::lr:=by cases ls with |nil=>rw[l5] at e6;cases e6 |cons a b=>exact 0#em
 have m2:=0#fR;have j4:=s4.trans m2;have o4:=f5.trans m2;have m0:=j4 _ _ c5;have p8:=j4 _ _ d4;have n1:Same 86#H3 86#H6:=aq 18#_ j4;have r8:Dn 86#H6 11#Sd 139#(ss.map λb => .str (S (bZ b))):=by
  have m4:=qD (G:=dif H H6) (ls:=ss.map bZ) λl hl=>by
   obtain⟨b,_,rfl⟩:=4#i hl;cases b <;> exact⟨by unfold Asc;decide,by decide⟩
  rw[l20 (f:=bZ) (g:=λl=>PyData.str (S l)),l20] at m4;refine .lst ?_ m4 1#A;rw[aD (f5.free o1)];exact s6 _ _ k0
 refine⟨_,rfl,Ln,_,0,_,rfl,rfl,0#w m0,ag (j:=0) rfl,_,rfl,_,rfl,_,rfl,Ln,_,rfl,0#w m0,λL2 h8=>?_⟩;rw[show cutV (v0::lr) 23#1 none=(v0::lr).drop 1 from iE _ 1];refine⟨bg4,λu1 f3=>?_⟩;cases l2 with
 |cons dv0 dlr=>
 obtain⟨a1,a2⟩:=bP o4 h8 (dlr.same n1) (by rw[l5] at e6;omega);obtain⟨c1,c2⟩:=bu a1 f3 (.cons (dn_k (k:="table")) (.cons ((dv0.same n1).same (bE h8 _)) (.cons (r8.same (bE h8 _)) 34#a2)));have s8:=(ad h8 14#((v0::lr).drop 1)).trans (ad f3 0#cX);have e5:=s8 _ _ p8;have n8:∀{p:Addr},upd (upd H6 L2 14#((v0::lr).drop 1)) u1 0#cX p=none->True:=λ_=>trivial;have cc:4#L 2#W/\Dn 86#2#W 11#u1 _:=⟨c1,c2⟩;show tCons.K0 _ _ _ _ 2#W;generalize upd (upd H6 L2 (.lst ((v0::lr).drop 1))) u1 (.tup [V.str "table",v0, .ref Sd, .ref L2])=H8 at cc e5 ⊢;obtain⟨c1,c2⟩:=cc;refine⟨_,rfl,_,rfl,Rw,_,rfl,0#w e5,λpA hA=>?_⟩;rw[show cutV (((y0::yr).map be).map vS) none 23#1=(([be y0]:0#m).map vS) from kq _ 1];have h1:=ad hA 14#(([be y0]:List (7#b)).map vS);refine⟨_,rfl,bg1,λpB hB=>⟨pA,pB,_,_,rfl,rfl,ad hB _ _ _ ac,ac,by rw[hs];show 1+1<=16777216;decide,λpC hC=>?_⟩⟩;have h2:=h1.trans ((ad hB 126#(bb ss k7)).trans (ad hC 14#(([be y0]:List (7#b)).map vS++[vS (bb ss k7)])));have eC:upd (upd (upd H8 pA 14#(([be y0]:List (7#b)).map vS)) pB 126#(bb ss k7)) pC 14#(([be y0]:List (7#b)).map vS++[vS (bb ss k7)]) pC=some 14#((7#e:List (7#b)).map vS):=ac;generalize upd (upd (upd H8 pA (.lst (([be y0]:List (List Nat)).map vS))) pB (.lst [vS (bb ss k7)])) pC (.lst (([be y0]:List (List Nat)).map vS++[vS (bb ss k7)]))=H9 at h2 eC ⊢;refine⟨_,rfl,_,rfl,Rw,_,rfl,0#w (h2 _ _ e5),λpD hD=>?_⟩;rw[show cutV (((y0::yr).map be).map vS) 23#1 none=(yr.map be).map vS from iE _ 1];refine⟨pC,pD,_,_,rfl,rfl,ad hD _ _ _ eC,ac,by rw[l4,l4,l4,hs];rw[l5] at k9;show 2+_<=_;omega,λpE hE=>?_⟩;rw[<- l14];have h3:=h2.trans ((ad hD 14#((yr.map be).map vS)).trans (ad hE 14#((7#e++yr.map be).map vS)));have eE:upd (upd H9 pD 14#((yr.map be).map vS)) pE 14#((7#e++yr.map be).map vS) pE=some 14#((7#e++yr.map be).map vS):=ac;generalize upd (upd H9 pD (.lst ((yr.map be).map vS))) pE (.lst (([be y0,bb ss k7]++yr.map be).map vS))=H10 at h3 eE ⊢;refine⟨bg2,λu2 i1=>?_⟩;have h4:=ad i1 73#pE;have f4:=a7.row y0 l7;have f1:∀ys∈yr,1<=3#o/\3#o<=m/\∀y∈ys,CY y:=λys h=>a7.row ys 38#h;have htk:Tk dk true (7#e++yr.map be) 3#j:=by
  have t0:=TbOk.tk (m:=m) (yss:=[y0]) λys h=>by rw[2#R h];exact f4
  exact⟨t0.1,by rw[aW,r2];rfl,TbOk.tk f1⟩
 have k1:RwS 1400 (7#e++yr.map be):=by
  have e:((7#e++yr.map be).map λr=>1#m+1).sum=((((y0::yr).map be)).map λr=>1#m+1).sum+((bb ss k7).length+1):=by
   simp;omega
  refine⟨by rw[e];have:=a5.1;omega,λr hr=>?_⟩;rcases 2#n hr with z |z
  ·rcases 1#y z with z |z
   ·exact a5.2 r (by rw[z];exact l7)
   ·rw[2#R z];exact r3
  ·exact a5.2 r 38#z
 refine q u2 _ (.mk 11#u1 pE _ .table _ ((c1.trans h3).trans h4) ac (h4 _ _ eE) (c2.same 80#(h3.trans h4)) (λn _=>⟨(tblR 3#j:BkF (Bl n)),mz htk 0#h,?_⟩) k1 (by rw[l6,l4];rw[l5] at k9;show 2+_<=_;omega));have j0:bU 3#j=m:=by
  have e1:bU ((y0::yr).map 6#b)=max (y0.map aN).length (bU (yr.map 6#b)):=rfl;have e2:bU 3#j=max (y0.map aN).length (max (ss.map λs=>bf s k7).length (bU (yr.map 6#b))):=rfl;rw[d5] at e1;rw[e2,l4,l4];rw[l4] at e1;omega
 have j7:(ss.map λs=>bf s k7).all cC=true:=l39.mpr λx hx=>by
  obtain⟨s,_,rfl⟩:=4#i hx;exact(iO s k7).1
 unfold tblR;rw [0#z (by
  rintro(z |z)
  ·rw[l5,l5] at z;omega
  ·have z:(ss.map λs=>bf s k7).all cC=false:=z;rw[j7] at z;cases z),j0]
 have q5:(ss.map λs=>bf s k7).map isR++0#f (m - (ss.map λs=>bf s k7).length) false=ss:=by
  rw[l4,k3,l53,l20];show ss.map (isR ∘ λs=>bf s k7)++[]=ss;rw[l12];have:(isR ∘ λs=>bf s k7)=id:=funext λs=>(iO s k7).2;rw[this,List.map_id]
 show 6#R [.str "table",cg (bx m (y0.map aN)), .list (((ss.map λs=>bf s k7).map isR++0#f (m - (ss.map λs=>bf s k7).length) false).map λb => .str (S (bZ b))), .list (((yr.map 6#b).map (bx m)).map cg)]=_;rw[q5,l20,l20];rfl
end
def GotK.wide {N N':Nat->Prop}{m m' nb nb':Nat}{H0 H H':Hp}{t:Addr}(s:9#K)(hN:∀n,N' n->N n)(hm:m<=m')(hb:nb<=nb')(h:GotK N m nb H H' t):GotK N' m' nb' H0 H' t:=by
 obtain⟨v,r,rs,kd,d,a1,a2,a3,a4,a5,a6,a7⟩:=h;exact .mk v r rs kd d (s.trans a1) a2 a3 (a4.same (aq s 18#_)) (λn hn=>a5 n (hN n hn)) (a6.le hm) nofun
theorem mC:∀{ws:List (List Nat)},ws≠[]->(∀w∈ws,w≠[]/\32∉w)->ao [32] ws≠[]/\(ao [32] ws).getLastD 0≠32
 | [],h,_=>0#A rfl h
 | [p],_,k=>⟨(k p l7).1,dW (k p l7).2 (k p l7).1⟩
 |p::q::r,_,k=>by
  obtain⟨a,b⟩:=mC (ws:=q::r) 0#h λw hw=>k w 38#hw;rw[5#v,bB a];exact⟨by simp[a],b⟩
def Bp {raw:0#a}{ps:7#E}(h:PtOk raw ps):Wds raw raw:=by
 obtain⟨ws,e,hw,hf,_⟩:=h.ws;have a1:ws≠[]:=λz=>by
  cases hf with
  |sg c r h _=>rw[z] at h;cases h
  |mk g t h _=>rw[z] at h;cases h
 obtain⟨a,b⟩:=mC a1 hw;rw[<- e] at a b;exact⟨h.cell.tidy.symm,a,b⟩
def litTs:List 16#Nat:=[[],[32,97],[62,32,120],[126,126,126,32,97],[61,32,98],[45,32,99],[124,32,100,32,124],[32,32],[91,101,93,58,32,102],[112,108,97,105,110,32,32,119,111,114,100,115,32]]
def zF:(litTs.all λt=>decide (bT (aL t)≠bV)&&t.all 0#eN&&decide (1#n<=13))=true:=by decide
def pL {t:0#a}(h:t∈litTs):bT (aL t)≠bV/\GdR t/\1#n<=13:=by
 have h:=l39.mp zF t h;show 136;exact⟨h.1.1,λc hc=>0#s (l39.mp h.1.2 c hc),h.2⟩
def Bq {xs:0#t}(ts:0#m){i:Int}(he:xs=0#fT)(hn:0 < 2#g):∃t∈ts,atI xs (i % (ts.length:Int))=some (vS t):=by
 obtain⟨j,hj⟩:∃j:Nat,i % (ts.length:Int)=(j:Int):=⟨(i % (ts.length:Int)).toNat,by have:=l66 i (show (ts.length:Int)≠0 by omega);omega⟩;have a1:j < ts.length:=by have:=l96 i (show (0:Int) < 2#g by omega);omega
 refine⟨ts[j],l46 a1,?_⟩;rw[hj,he];exact ag (by rw[0#x,0#l a1];rfl)
section
abbrev zG:Stmt:=top 111
inductive spLLit (vs:0#t) (H:Hp) (Q:VK) (u3:XK):Prop
 |mk:∀i:Int,(vs=[.int i])->0<=i->(∀t H',GotK (λ_=>True) 1400 60 H H' t->Q (.ref t) H')->spLLit vs H Q u3
def zH (F:2#k "_law_literal" "_law_literal" zG f fd)(T:TxL mg)(Dc:0#c 1 "_law_mixed" p17 spMixed):0#b 2 f fd 1#t spLLit:=by
 have sc:1#b ["_law_number","_law_some","_law_lines"] 1#t 55#zG:=mkS;show 1;show 68;refine az (xbc (xset (i:=1) sc.nd rfl 0#gd 130#(1#p 142#(1#p (1#p (1#p (1#p (1#p (1#p (1#p 10#xstr)))))))))
  (xbc (xslc (i:=2) sc.nd rfl rfl (cl:=[("_law_some",0#g+2),7#M]) (own:=["_law_k"]) (fr:=[1,0]) (N':=0#gn) rfl (iS (xs:=["_law_some","_law_number"]) 89#⟨rfl,trivial⟩ 45#⟨rfl,rfl, .inl rfl, .inl rfl,trivial⟩ ∅) ∅ ∅ 1#q
  (xir1 rfl T.q10 10#(xop aM (2#U) xint))
  22#(show (0#gn:0#O).Nodup by decide) 1#k (λ_ _ _ _=>(xix oy (2#E) 48#(xcd Dc hr (xac (5#M) 10#(2#U))) 0#n)))
  13#(xtup (xac (xtup (1#p 19#(5#M))) 19#(xop cb (xop cb (xlst 35#(9#F (6#o 26#0))) (5#M)) 130#35#xstr))))) ?_
 show 13;rw[uV];refine⟨bg10,λL hL=>?_⟩
 symm
 have s1:=ad hL 14#(litTs.map vS);have e1:4#b L 14#(litTs.map vS) L=some 14#(litTs.map vS):=ac;rw[show upd H L (.lst [V.str "", .str " a", .str "> x", .str "~~~ a", .str "= b", .str "- c", .str "| d |", .str "  ", .str "[e]: f", .str "plain  words "])=4#b L 14#(litTs.map vS) from rfl];generalize upd H L (.lst (litTs.map vS))=H1 at s1 e1 ⊢;refine⟨_,rfl,_,_,rfl,rfl,show (0:Int) < 4 by omega,?_⟩;obtain⟨n,hn⟩:∃n:Nat,i % 4=(n:Int):=⟨(i % 4).toNat,by omega⟩;refine 2#V;rw[l40];refine ib 0 (λv=>∃t,v=vS t/\t∈litTs) (by rw[hs];omega) ?_ ?_
 ·intro j hj H' s' C N hC;refine⟨(1#l).set ∅ _,iteT (B:=N H') ⟨_,rfl,_,rfl,_,rfl,i,0+(j:Int),rfl,by omega,by omega,λm3 hm3=>?_⟩⟩;obtain⟨t,ht,a7⟩:=Bq (xs:=litTs.map vS) litTs (i:=m3) rfl ∅;exact⟨_,_,rfl,rfl,show (0:Int) < 10 by omega,L,_,_,vS t,rfl,rfl,0#w (s' _ _ e1),a7,hC _ _ 18#_ ⟨t,rfl,ht⟩⟩
 intro D H2 ys hD s2 eD a5 a6;obtain⟨ls,rfl,a1⟩:=jN (p:=λt=>t∈litTs) a6;rw[l4] at a5
 symm
 have a8:=2#c;have dD:Dn 86#H2 11#D 139#(ls.map λl => .str (S l)) := .lst (by rw[aD (s1.free hD)];exact eD) (qD λl hl=>⟨λc hc=>((pL (a1 l hl)).2.1 c hc).1,by have:=(pL (a1 l hl)).2.2;omega⟩) 1#A;obtain⟨a,ha,ha1⟩:∃a:Nat,i / 4 % 2=(a:Int)/\a<=1:=⟨(i / 4 % 2).toNat,by omega,by omega⟩;refine⟨_,rfl,bg2,λu1 a2=>?_⟩;obtain⟨z1,z2⟩:=bu a8 a2 (.cons (dn_k (k:="literal")) 34#dD);have a3:=ad a2 (.tup [V.str "literal", .ref D]) _ _ eD;generalize upd H2 u1 (.tup [V.str "literal", .ref D])=H3 at z1 z2 a3 ⊢;refine 4#Q;rw[ha,show 9#N 4#G ((a:Nat):Int)=S 165#a from fH 32 a];have lb:∀n,(bls n).length=n:=λn=>by rw[bls,l23]
 have L:∀(x y:List Nat),7#k<=60->5#u<=60->(S x).length+(S y).length<=sizeLine:=λx y h1 h2=>by rw[aw,aw,hs];omega
 refine⟨_,_,rfl,rfl,L 3#m 165#a ∅ (by rw[lb];omega),?_⟩;rw[show 0#e "~~~"++S 165#a=S (3#m++bls a) from aJ _ _];refine⟨bg1,λpA hA=>⟨_,rfl,pA,D,_,_,rfl,rfl,ac,ad hA _ _ _ a3,by rw[l4,hs];show 1+_<=_;omega,λpB hB=>⟨bg1,λpC hC=>⟨pB,pC,_,_,rfl,rfl,ad hC _ _ _ ac,ac,by rw[l6,l4,hs];show 1+_+1<=_;omega,λpE hE=>⟨bg2,λu2 a4=>?_⟩⟩⟩⟩⟩;have h3:=(ad hA 126#(3#m++bls a)).trans ((ad hB 14#([vS (3#m++bls a)]++ls.map vS)).trans ((ad hC 124#(0#e "~~~")).trans (ad hE 14#([vS (3#m++bls a)]++ls.map vS++[V.str (Str.ofString "~~~")]))));have h4:=ad a4 73#pE;refine q u2 _ (.mk 11#u1 pE ([[126,126,126]++bls a]++ls++[[126,126,126]]) .lit _ ((z1.trans h3).trans h4) ac (by rw[l14,l14];exact h4 _ _ ac) (z2.same 80#(h3.trans h4)) (λn _=>⟨(.lit ls:BkF (Bl n)),zq (jg a) (λl hl=>(pL (a1 l hl)).1) (jg 0),rfl⟩) ?_ ?_)
 ·have:∀l:0#m,(∀t∈l,t∈litTs)->RwS (14 * 0#L) l:=by
   intro l
   induction l with
   |nil=>intro _;exact RwS.nil
   |cons t l ih=>
    intro h;obtain⟨_,b,k⟩:=pL (h t l7);exact((RwS.one (m:=14) b nofun).app (ih λx hx=>0#bO)).le 3#S
  refine(((RwS.one (m:=5) (r:=3#m++bls a) ((show GdR 3#m by unfold GdR;decide).app (dY a)) (by rw[l6,lb];show 3+_+1<=_;omega)).app (this ls a1)).app (RwS.one (m:=4) (r:=3#m) (by unfold GdR;decide) (7#j))).le nofun
 ·rw[l6,l6];show 1+_+1<=_;omega
abbrev n9:Stmt:=top 113
abbrev pM:List Str:=["_law_number","_law_deep","_law_kind","_law_more","_law_told","_law_raw","_law_name_here","_law_great","_law_level"]
inductive spLBlk (d m nb:Nat) (vs:0#t) (H:Hp) (Q:VK) (u3:XK):Prop
 |mk:∀i:Int,(vs=[.int i, .int (d:Int)])->0<=i->(∀t H',GotK (λn=>n=3 - d) m nb H H' t->Q (.ref t) H')->spLBlk d m nb vs H Q u3
def kK {d m nb k:Nat}{spQ:Sp}(hk:10<=k)(hm:1400<=m)(hnb:60<=nb)(hQ:d < 3->∀vs H Q E,spLBlk d m nb vs H Q E->spQ vs H Q E)(F:2#k "_law_block" "_law_block" n9 f fd)(T:TxL mg)(Dj:0#c 4 "_law_parts" 1#t spLParts)(Dq:0#c 3 "_law_name" 1#t spLName)(Di:0#c 2 "_law_word" 1#t spWord)(Dl:0#c 2 "_law_broken" p36 spBroken)
  (DH:0#c 10 "_law_list" 1#t spLList)(DI:0#c 5 "_law_table" 1#t spLTab)(DJ:0#c 2 "_law_literal" 1#t spLLit)(YA:0#c k "_law_quote" p21 spQ):0#b (k+1) f fd p21 (spLBlk d m nb):=by
 have sc:1#b pM p21 55#n9:=mkS;show 0;show 68;refine az (xbc 49#(xop aM (2#U) xint)
  (xbc 39#(xop aS (2#U) xint)
  (xbc (xasg (xcd Dj hr 10#(6#k)) 92#xgs0)
  (xbc (xasg (xcd Dq hr 10#(xop aS (6#k) xint)) 0#eM)
  (xbc (xif 37#2 (xbc (xst (i:=8) sc.nd (9#G 48#(6#k)))
  13#(xtup (xac (xtup 142#(xac (xv 8) 19#(xv 4))) 19#(xlst 35#(2#Z (2#Z (2#Z (6#o (xv 8)) (6#o (9#G 26#3))) (xv 5)) (6#o 26#3)))))) xb0)
  (xbc (xif 37#2 13#(xtup (xac (xtup (1#p 19#(xv 4))) 19#(xcd Dl hr (xac (xv 5) (xac (6#k) 35#xstr))))) xb0)
  (xbc (xif 37#2 13#(xcd DH hr 19#(6#k)) xb0)
  (xbc (xif 37#2 13#(xcd DI hr 19#(6#k)) xb0)
  (xbc (xif 37#2 13#(xcd DJ hr 19#(6#k)) xb0)
  (xbc (xif (xand 37#2 (gU 152#(2#E))).xt 13#(xcd YA hr 167#(6#k)) xb0)
  (xbc (xif 37#2 13#(xtup (xac (xtup 142#(xac (xv 6) 19#(2#Z (xcd Di hr 35#(6#k)) xstr))) 19#(xlst 35#(2#Z (2#Z 53#(9#F (xv 7)) (xcd Di hr (xac (6#k) xa0))) xstr)))) xb0)
  13#(xtup (xac (xtup 142#(xac (xv 6) 19#(xv 4))) 19#(xcd Dl hr (xac (xv 5) (xac (6#k) 35#(2#Z (9#F (xv 7)) xstr))))))))))))))))) ?_
 show 13;rw[show start pM [V.int i,V.int (d:Int)]=0#au from rfl];refine⟨_,rfl,_,_,rfl,rfl,show (0:Int) < 8 by omega,?_⟩
 symm
 refine⟨_,rfl,_,_,rfl,rfl,0#q,?_⟩
 symm
 obtain⟨M,hM⟩:∃M:Nat,i / 8=(M:Int):=⟨(i / 8).toNat,by omega⟩;rw[hM];refine⟨_,rfl,_,rfl,λtp lp raw ps H1 s1 e3 a4 a6=>?_⟩;refine 168#(tp,e3)
 symm
 refine⟨_,rfl,_,_,rfl,rfl,0#q,_,rfl,λtn nm gr H2 s2 e2 hn hnn=>?_⟩;refine 168#(tn,e2)
 symm
 have a3:=2#c;have a4:Dn 86#H2 11#lp 139#(ps.map dP):=a4.same 80#s2;clear e3 e2;have lb:∀n,(bls n).length=n:=λn=>by rw[bls,l23]
 obtain⟨ws,a5,d6,e4,e1⟩:=a6.ws;have d7 : ∀ u ∈ ws, u ≠ [] /\ 32 ∉ u /\ GdR u := fun u hu => ⟨(d6 u hu).1,(d6 u hu).2,λc hc=>by
  have:c∈raw:=by rw[a5];exact mem_glue hu hc
  have:=a6.gd c this;omega⟩
 have c2:GdR raw:=λc hc=>by have:=a6.gd c hc;omega
 have hsz:szW ws<=112:=by
  have h1:=kJ ws;rw[<- a5] at h1;have:=a6.len;omega
 have c3:ws≠[]:=λz=>by
  cases e4 with
  |sg c r h _=>rw[z] at h;cases h
  |mk g t h _=>rw[z] at h;cases h
 have d3:=Bp a6;have hrl:=a6.len;have L:∀(x y:List Nat),7#k<=100->5#u<=100->(S x).length+(S y).length<=sizeLine:=λx y h1 h2=>by rw[aw,aw,hs];omega
 have e5:=hn.l;have hN:∀n,n=3 - d->True:=λ_ _=>trivial;refine s_if 28#(i % 8=0) 3#D 5#x λH3 s3 _=>?_
 ·have f0:=0#fM;refine 9#o
  symm
  obtain⟨lv,g1,h1,h3⟩:∃lv:Nat,1+(M:Int) % 3=(lv:Int)/\1<=lv/\lv<=3:=⟨1+M % 3,by omega,by omega,by omega⟩;rw[g1];obtain⟨a1,f5,ha11⟩:∃a1:Nat,(M:Int) / 3 % 2=(a1:Int)/\a1<=1:=⟨M / 3 % 2,by omega,by omega⟩;obtain⟨a2,e9,ha21⟩:∃a2:Nat,(M:Int) / 6 % 2=(a2:Int)/\a2<=1:=⟨M / 6 % 2,by omega,by omega⟩;refine⟨_,rfl,_,rfl,bg3,λu1 a7=>?_⟩;obtain⟨z1,z2⟩:=bu f0 a7 (.cons (dn_k (k:="heading")) (.cons 21#(lv:Int) 34#(a4.same 80#s3)));generalize upd H3 u1 (.tup [V.str "heading", .int (lv:Int), .ref lp])=H4 at z1 z2 ⊢;refine⟨_,rfl,_,_,rfl,rfl,by decide,by omega,by omega,?_⟩;rw[show 9#N (0#e "=") ((lv:Nat):Int)=S (6#C) from fH 61 lv];refine 1#U;rw[f5,show (1:Int)+(a1:Int)=((a1+1:Nat):Int) by omega,show 9#N 4#G ((a1+1:Nat):Int)=S 165#(a1+1) from fH 32 (a1+1)];refine⟨_,_,rfl,rfl,L (6#C) 165#(a1+1) 0#G (by rw[lb];omega),?_⟩;rw[aJ];refine⟨_,rfl,_,_,rfl,rfl,L (6#C++bls (a1+1)) raw (by rw[l6,l23,lb];omega) nofun,?_⟩;rw[aJ];refine 4#Q;rw[e9,show 9#N 4#G ((a2:Nat):Int)=S 165#a2 from fH 32 a2];refine⟨_,_,rfl,rfl,L (6#C++bls (a1+1)++raw) 165#a2 (by rw[l6,l6,l23,lb];omega) (by rw[lb];omega),?_⟩;rw[aJ];refine 0#eG;have h4:=ad d5 126#(6#C++bls (a1+1)++raw++bls a2);have h5:=ad a9 73#r;refine q u2 _ (.mk 11#u1 r [6#C++bls (a1+1)++raw++bls a2] .heading _ (z1.trans (h4.trans h5)) ac (h5 _ _ ac) (z2.same 80#(h4.trans h5)) (λn _=>⟨(.heading lv (aT raw):BkF (Bl n)),wf (lI d3 lv a1 a2 h1 h3),by rw[a6.parts];rfl⟩) ?_ (by show 1<=_;omega));refine RwS.one ((((show GdR (6#C) from λc hc=>by rw[(l85.mp hc).2];decide).app (dY _)).app c2).app (dY _)) ?_;rw[l6,l6,l6,l23,lb,lb];omega
 have a3:=0#fM;have a4:=a4.same 80#s3;clear s3;refine s_if 28#(i % 8=1) 3#D (λH4 s4 _=>?_) λH4 s4 _=>?_
 ·have f4:=a3.trans s4;refine⟨_,rfl,bg2,λu1 a7=>?_⟩;obtain⟨z1,z2⟩:=bu f4 a7 (.cons (dn_k (k:="para")) 34#(a4.same 80#s4));refine⟨_,rfl,_,rfl,ws,(M:Int),[],by rw[<- a5];rfl,d7,c3,e1,by omega,1#F,by decide,λr rs H5 s5 f3 c5 c0 a8 d4=>⟨bg2,λu2 a9=>?_⟩⟩;have h5:=ad a9 73#r;obtain⟨r0,ms,x0,us,g4,f2,htk,d2⟩:=c0.para e4;refine q u2 _ (.mk 11#u1 r rs .para _ (z1.trans (s5.trans h5)) ac (h5 _ _ c5) (z2.same 80#(s5.trans h5)) (λn _=>⟨(.para (aT 71#(x0::us)):BkF (Bl n)),by rw[g4];exact wj f2 htk,?_⟩) (a8.le (by show 0+1+_<=_;omega)) nofun);show 6#R [.str "para", .list ((aT 71#(x0::us)).map dP)]=_;rw[d2,<- a5,a6.parts]
 have a3:=a3.trans s4;have a4:=a4.same 80#s4;clear s4;refine s_if 28#(i % 8=2) 3#D (λH5 s5 _=>?_) λH5 s5 _=>?_
 ·exact⟨_,rfl,(M:Int),rfl,by omega,λt H' g=>q t H' (g.wide (a3.trans s5) hN hm hnb)⟩
 have a3:=a3.trans s5;have a4:=a4.same 80#s5;clear s5;refine s_if 28#(i % 8=3) 3#D (λH6 s6 _=>?_) λH6 s6 _=>?_
 ·exact⟨_,rfl,(M:Int),rfl,by omega,λt H' g=>q t H' (g.wide (a3.trans s6) hN hm hnb)⟩
 have a3:=a3.trans s6;have a4:=a4.same 80#s6;clear s6;refine s_if 28#(i % 8=4) 3#D (λH7 s7 _=>?_) λH7 s7 _=>?_
 ·exact⟨_,rfl,(M:Int),rfl,by omega,λt H' g=>q t H' (g.wide (a3.trans s7) hN hm hnb)⟩
 have a3:=a3.trans s7;have a4:=a4.same 80#s7;clear s7;refine s_if (decide (i % 8=5)&&decide (d < 3)) (dF _ _ 3#D λ_ H8 s8=>7#h 0#bW) (λH8 s8 z=>?_) λH8 s8 _=>?_
 ·rw[0#r] at z;exact⟨_,rfl,_,rfl,hQ (0#s z.2) _ _ _ _ ⟨(M:Int),rfl,by omega,λt H' g=>q t H' (g.wide (a3.trans s8) (λ_ h=>h) (7#j) (7#j))⟩⟩
 have a3:=a3.trans s8;have a4:=a4.same 80#s8;clear s8;refine s_if 28#(i % 8=6) 3#D (λH9 s9 _=>?_) λH9 s9 _=>?_
 ·have d0:=a3.trans s9;refine⟨_,rfl,_,rfl,(M:Int),rfl,λx H10 e8 hx ex=>?_⟩;have hxl:=hx.len;have e6:=bF hx;refine⟨_,_,rfl,rfl,L x [47,93,58,120] nofun ∅,?_⟩;rw[show S x++0#e "/]:x"=S (x++[47,93,58,120]) from aJ _ _];refine⟨bg3,λu1 a7=>?_⟩;have c4:=d0.trans e8;have e7:∀c∈[47,93,58,120],c < 128:=by decide
  have g3:Asc (x++[47,93,58,120]):=λc hc=>(2#n hc).elim (cX e6 c) (e7 c);obtain⟨z1,z2⟩:=bu c4 a7 (.cons (dn_k (k:="name")) (.cons 6#p 34#(dn_S (l:=x++[47,93,58,120]) ⟨g3,by simp;omega⟩)));refine⟨_,rfl,_,_,rfl,rfl,L [91] gr ∅ nofun,?_⟩;rw[show 0#e "["++S gr=S ([91]++gr) from aJ _ _];refine⟨_,_,rfl,rfl,L ([91]++gr) [93,58,32,32] 0#G ∅,?_⟩;rw[show S ([91]++gr)++0#e "]:  "=S ([91]++gr++[93,58,32,32]) from aJ _ _];refine⟨_,rfl,(M:Int),rfl,λy H11 d8 hy ey=>?_⟩;have g2:y=x:=ey.trans ex.symm;subst g2;refine⟨_,_,rfl,rfl,L ([91]++gr++[93,58,32,32]) y 0#G nofun,?_⟩;rw[aJ];refine⟨_,_,rfl,rfl,L ([91]++gr++[93,58,32,32]++y) [47,93,58,120] 0#G ∅,?_⟩;rw[show S ([91]++gr++[93,58,32,32]++y)++0#e "/]:x"=S ([91]++gr++[93,58,32,32]++y++[47,93,58,120]) from aJ _ _];refine 0#eG;have h4:=ad d5 126#([91]++gr++[93,58,32,32]++y++[47,93,58,120]);have h5:=ad a9 73#r;have c1 := rT gr hn.n (y ++ [47, 93, 58, 120]) 0#h (λz=>by
   rcases 2#n z with z |z
   ·exact hy.no ∅ z
   ·exact 0#A z ∅) 1 0
  rw[hn.s,show [91]++gr++[93,58,32]++bls 1++(y++[47,93,58,120])++bls 0=[91]++gr++[93,58,32,32]++y++[47,93,58,120] by simp[bls]] at c1;refine q u2 _ (.mk 11#u1 r [[91]++gr++[93,58,32,32]++y++[47,93,58,120]] .name _ (z1.trans (d8.trans (h4.trans h5))) ac (h5 _ _ ac) (z2.same 80#(d8.trans (h4.trans h5))) (λn _=>⟨(.name nm (y++[47,93,58,120]):BkF (Bl n)),wg c1,rfl⟩) ?_ (by show 1<=_;omega));refine RwS.one (λc hc=>?_) 0#G;simp only[l13] at hc;rcases hc with (((z |z) |z) |z) |z
  ·rw[2#R z];decide
  ·have:=t7 hn c z;omega
  ·have:∀c∈[93,58,32,32],c < 128/\c≠10/\c≠9:=by decide
   exact this c z
  ·have:=e6 c z;omega
  ·have:∀c∈[47,93,58,120],c < 128/\c≠10/\c≠9:=by decide
   exact this c z
 have d0:=a3.trans s9;have a4:=a4.same 80#s9;refine⟨_,rfl,_,rfl,bg3,λu1 a7=>?_⟩;obtain⟨z1,z2⟩:=bu d0 a7 (.cons (dn_k (k:="note")) (.cons 6#p 34#a4));refine⟨_,rfl,_,rfl,_,rfl,_,_,rfl,rfl,L 3#f gr ∅ nofun,?_⟩;rw[show 0#e "[^"++S gr=S (3#f++gr) from aJ _ _];refine⟨_,_,rfl,rfl,L (3#f++gr) 7#p 0#G ∅,?_⟩;rw[show S (3#f++gr)++0#e "]: "=S (3#f++gr++[93,58,32]) from aJ _ _];refine⟨ws,(M:Int),3#f++gr++[93,58,32],by rw[<- a5];rfl,d7,c3,e1,by omega,λc hc=>?_,by simp;omega,λr rs H5 s5 f3 c5 c0 a8 d4=>⟨bg2,λu2 a9=>?_⟩⟩
 ·simp only[l13] at hc;rcases hc with (z |z) |z
  ·have:∀c∈[91,94],c < 128/\c≠10/\c≠9:=by decide
   exact this c z
  ·have:=t7 hn c z;omega
  ·have:∀c∈[93,58,32],c < 128/\c≠10/\c≠9:=by decide
   exact this c z
 have h5:=ad a9 73#r;obtain⟨xx,kk,ms,us,em,f1,htk,d2⟩:=c0.more d6;have c1:=rS f1 gr hn.n 0 kk;rw[hn.s,show 3#f++gr++[93,58,32]++bls 0++xx++bls kk=3#f++gr++[93,58,32]++xx++bls kk by simp[bls]] at c1;refine q u2 _ (.mk 11#u1 r rs .note _ (z1.trans (s5.trans h5)) ac (h5 _ _ c5) (z2.same 80#(s5.trans h5)) (λn _=>⟨(.note nm (aT 71#(aN xx::us)):BkF (Bl n)),by rw[em];exact wk c1 htk,?_⟩) (a8.le 0#G) nofun);show 6#R [.str "note", .str (S nm), .list ((aT 71#(aN xx::us)).map dP)]=_;rw[d2,<- a5,a6.parts]
end
def isG:Knd->Bool
 | .para=>true
 | .list=>true
 | .table=>true
 | .quote=>true
 |_=>false
def uz (a b:Knd):decide (V.str (kdW a)=V.str (kdW b))=decide (a=b):=by cases a <;> cases b <;> decide
def Br (a:Knd):inV (V.str (kdW a)) 0#az=isG a:=by cases a <;> decide
def wA {k k':Knd}(h:(decide (k=k')&&isG k')=false){s:Srt}(f:gu k' s):qL k s:=by
 refine t8 ?_ f;by_cases c:k=k'
 ·right;subst c;rw[1#f rfl,3#Q] at h;cases k <;> first |exact⟨by decide,by decide,by decide,by decide⟩ |cases h
 ·exact .inl c
theorem Bs:∀(n:Nat) (b:Bl n),∃xs,dB n b = .tuple xs
 |0,b=>by cases b <;> exact 0#F
 |n+1,b=>by cases (show BkF (Bl n) from b) <;> exact 0#F
def oa {G:Hp}{v:V}{k:Str}{ds:2#w}(h:Dn G v (.tuple (.str k::ds))):∃a xs,v = .ref a/\G a=some (.tup (.str k::xs)):=by
 cases h with
 |tup e r=>
  cases r with
  |cons a r=>cases a;exact⟨_,_,rfl,e⟩
def xA {W:Addr->Prop}{H:Hp}{A ro:Addr}{tv:0#t}{ds:2#w}{own:0#m}(eA:H A=some 14#tv)(ero:H ro=some 14#(own.map vS))(hne:own≠[])(ho:6#Q H tv ds)(ht:∀x∈ds,∃xs,x=6#R xs):ro≠A:=λz=>by
 rw[z,eA] at ero;have e:tv=own.map vS:=by cases ero;rfl
 obtain⟨o,os,rfl⟩:∃o os,own=o::os:=by cases own with |nil=>exact 0#A rfl hne |cons a b=>exact 0#em
 have hl:=ho.len;rw[e] at hl ho;cases ds with
 |nil=>cases hl
 |cons x ds=>
  obtain⟨v,h1,h2⟩:=ho.get (i:=0) (d:=x) rfl;cases h1;obtain⟨xs,rfl⟩:=ht x l7;cases h2.dn
section
abbrev sGap:Stmt:=top 114
inductive spGap (vs:0#t) (H:Hp) (Q:VK) (u3:XK):Prop
 |mk:∀(a b:Addr) (k k':Knd) (xs ys:List V),(vs=[.ref a, .ref b])->H a=some (.tup (.str (kdW k)::xs))->H b=some (.tup (.str (kdW k')::ys))->(∀H',Same H H'->Q (.bl (decide (k=k')&&isG k')) H')->spGap vs H Q u3
def Bt (F:2#k "_law_needs_gap" "_law_needs_gap" sGap f fd):FnOk P w K mg base CX0 1 f fd p37 spGap:=by
 have sc:1#b p37 p37 55#sGap:=mkS;show 0;obtain⟨a,b,k,k',xs,ys,rfl,ea,eb,q⟩:=h;refine az 13#(jA (xcmp aY 47#(2#U) 47#(2#E) (ak _)) (xone (xcmp rg 47#(2#E) (ic 91#(xlsc (dG ∅) (xlsc (dG ∅) (xlsc (dG ∅) xls0)))) 1#q))) ?_;ac_nf;refine⟨_,rfl,a,_,0,_,rfl,rfl,2#m ea,ag (j:=0) rfl,_,rfl,b,_,0,_,rfl,rfl,2#m eb,ag (j:=0) rfl,rfl,_,rfl,?_⟩;rw[uz];by_cases c:k=k'
 ·have q:=q;rw[1#f c] at q ⊢;refine iteT ⟨_,rfl,b,_,0,_,rfl,rfl,2#m eb,ag (j:=0) rfl,λv H1 s1 d1=>?_⟩;obtain⟨p,rfl,ep⟩:=ui (ks:=[0#e "para",0#e "list",0#e "table",0#e "quote"]) d1;refine⟨p,0#az,rfl, .inr (2#m (0#gz ep)),rfl,rfl,?_⟩;rw[0#z ∅,Br];have:=q H1 s1;rw[3#Q] at this;show 54
 ·have:=q H 18#_;rw[0#D c] at this ⊢;exact iteF this
abbrev uA:Stmt:=top 115
abbrev uB:List Str:=["_law_number","_law_many","_law_deep","_law_told","_law_rows","_law_spots","_law_k","_law_more","_law_block_here","_law_own"]
def dSp (x:Nat×Nat):PyData := .tuple [.int x.1, .int x.2]
inductive Lst3 (n:Nat):0#m->List 4#Z->0#eT->Prop
 |none (R:List (List Nat)):WOk n R [] none->Lst3 n R [] none
 |some (R own:List (List Nat)) (L:List (Bl (n+1)×Nat×Nat)) (k:Option Knd) (kd:Knd) (b:Bl (n+1)):WOk n R L k->BOk n kd own b->(∀s,gu kd s->nY k s)->Lst3 n (R++own) (L++[(b,R.length,R.length+own.length)]) (some kd)
def Lst3.wok {n:Nat}{R:0#m}{L:List 4#Z}{k:0#eT}(h:Lst3 n R L k):WOk n R L k:=by
 cases h with
 |none _ h=>exact h
 |some R own L k kd b h1 h2 h3=>exact h1.block h2 h3
inductive spLBlks (d m nb:Nat) (vs:0#t) (H:Hp) (Q:VK) (u3:XK):Prop
 |mk:∀(i:Int) (q9:Nat),(vs=[.int i, .int (q9:Int), .int (d:Int)])->0<=i->q9<=6->(∀t T R Sp R0 tr L k H',Same H H'->H R=none->H' t=some (.tup [.ref T, .ref R, .ref Sp])->H' R=some (.lst ((R0++tr).map vS))->Dn (dif H H') (.ref T) (.list (L.map λx=>dB (3 - d+1) x.1))->Dn (dif H H') (.ref Sp) (.list (L.map λx=>dSp x.2))->Lst3 (3 - d) R0 L k->(∀r∈tr,r=[] ∨ r=[32,32])->L.length<=6->(0 < q9->L≠[])->RwS (3020+q9 * (nb+2)+m) (R0++tr)->(R0++tr).length<=4+q9 * (nb+2)->Q (.ref t) H')->spLBlks d m nb vs H Q u3
theorem kL {R:0#m}{n:Nat}{L:List 4#Z}{k:0#eT}(h:WOk n R L k):∀{tr:List (List Nat)},tr≠[]->(∀r∈tr,r=[] ∨ r=[32,32])->WOk n (R++tr) L none
 | [],hn,_=>0#A rfl hn
 | [r],_,hr=>h.emp 0#bI
 |r::r2::tr,_,hr=>by
  have h1:=h.emp (e:=r) 0#bI
  have:=kL h1 (tr:=r2::tr) 0#h λx hx=>hr x 38#hx;rwa [l19] at this
theorem pN:∀rs:List 16#Nat,(rs.map λr=>1#m+1).sum=(rs.map 4#g).sum+1#r
 | []=>rfl
 |r::rs=>by rw[l16,l25,l16,l25,pN rs,l5];omega
theorem pO:∀l:List Nat,(l.map λx:Nat=>(x:Int)).sum=((l.sum:Nat):Int)
 | []=>rfl
 |x::l=>by rw[l16,l25,l25,pO l];omega
def gapTs:List 16#Nat:=[[],[32,32]]
def kM (k:Nat):∀r∈gapTs.take k,r=[] ∨ r=[32,32]:=λr hr=>by
 have:=l81 hr;simpa[gapTs] using this
def uC (k : Nat) : RwS 4 (gapTs.take k) := ⟨by
 have:k=0 ∨ k=1 ∨ 2<=k:=by omega
 rcases this with rfl |rfl |h
 ·decide
 ·decide
 ·rw[l41 (show gapTs.length<=k from h)];decide,λr hr=>by
 rcases kM k r hr with z |z <;> rw[z]
 ·exact λ_ y=>nomatch y
 ·unfold GdR;decide⟩
def gJ {d m nb k9:Nat}(hd:d<=3)(hk9:2<=k9)(hm9:m<=60000)(hnb9:nb<=3000)(F:2#k "_law_blocks" "_law_blocks" uA f fd)(T9:TxL mg)(Dc:0#c 1 "_law_mixed" p17 spMixed)(YB:0#c k9 "_law_block" p21 (spLBlk d m nb))(DK:0#c 1 "_law_needs_gap" p37 spGap):0#b (k9+1) f fd p38 (spLBlks d m nb):=by
 have sc:1#b uB p38 55#uA:=mkS;have T:=T9;refine F.oks sc λ{_ A _ s vs _}H Q hr h=>?_;obtain⟨i,q9,rfl,hi0,p6,q⟩:=h;refine az (xbc 20#3
  (xbc 56#(xop la 130#10#xstr 48#(2#U))
  (xbc 20#5
  (xbc (0#cd rfl (xir1 rfl T.q10 10#(2#E)) 27#6
  (xbc (xif (aB gL (xcB (vf rfl) T.g16 rfl (xac (xlc0 (own:=["_law_row"])
  (xil (xv 4))
  22#(show (["_law_row"]:0#O).Nodup by decide) 1#k (λ_ _ _ _=>15#aI)) xa0)) xint (ak _)) 103#xbrk xb0)
  (xbc (xst (i:=7) sc.nd 154#(2#h (xv 6) xint))
  (xbc (xasg (xcd YB hr (xac (xv 7) 10#(5#M))) (xgt rfl (xgsc 27#8 (xgsc 27#9 xgs0))))
  (xbc (xif (xand (aB gL (xv 6) xint (ak _)) (gU (xor (bL (xcd DK hr (xac (4#t (6#k) (5#c) 0#n) 10#(xv 8)))) (xor1 40#26#7)).xt)).xt (xb1 56#(xop cb (xv 4) (xsl dm 130#(1#p 10#xstr) xo0 93#(xop au xint 26#7)))) xb0)
  (xbc (bI (xmA (6#k) 10#(xv 8)))
  (xbc (bI (xmA (xv 5) 10#(xtup (xac (1#c 19#(xv 4)) 19#(2#h (1#c 35#(xv 4)) (1#c 35#(xv 9)))))))
  (xb1 56#(xop cb (xv 4) (xv 9))))))))))
  13#(xtup (xac (6#k) (xac (xop cb (xv 4) (xsl dm 130#(1#p 19#xstr) xo0 93#26#0)) 19#(xv 5)))))))) ?_
 show 13;rw[show start uB [V.int i,V.int (q9:Int),V.int (d:Int)]=[5#m,some 21#(q9:Int),some 21#(d:Int),none,none,none,none,none,none,none] from rfl];show 62;obtain⟨n,hn⟩:∃n,n=3 - d:=0#F;rw[<- hn] at q;refine⟨bg0,λTT j3=>?_⟩
 symm
 have s1:=ad j3 0#y;have e1:4#b TT 0#y TT=some 0#y:=ac;generalize upd H TT (.lst [])=H1 at s1 e1 ⊢;obtain⟨c0,q7,hc01⟩:∃c0:Nat,(I:Int) % 2=(c0:Int)/\c0<=1:=⟨I % 2,by omega,by omega⟩;refine⟨bg1,λpA hA=>⟨_,rfl,_,_,rfl,rfl,show (0:Int) < 2 by omega,pA,_,_,rfl,rfl,ac,by omega,by omega,by rw[hs];show 1 * _<=_;omega,λR0 f0=>?_⟩⟩;rw[q7,l40,l100]
 symm
 have s2:=s1.trans 0#aI;have e2:=0#aI _ _ e1;have i4:upd (upd H1 pA 124#(0#e "")) R0 14#(1#G c0 5#Y) R0=some 14#((1#G c0 ([]:7#b)).map vS):=by rw[ac,l65];rfl
 have e9:R0≠TT:=(aC (ad hA 124#(0#e "") _ _ e1) f0).symm;generalize hgen:upd (upd H1 pA (.lst [V.str (Str.ofString "")])) R0 (.lst (List.replicate c0 (V.str (Str.ofString ""))))=H2 at s2 e2 i4 ⊢;clear hgen;refine⟨bg0,λSp d0=>?_⟩
 symm
 have p0:Sp≠TT:=(aC e2 d0).symm;have n2:H Sp=none:=s2.free d0;have s3:=s2.trans (ad d0 0#y);have e3:=ad d0 0#y _ _ e2;have l0:=ad d0 0#y _ _ i4;have p4:upd H2 Sp 0#y Sp=some 0#y:=ac;generalize upd H2 Sp (.lst [])=H3 at s3 e3 l0 p4 ⊢;obtain⟨W,hW⟩:∃W:Addr->Prop,W=λb=>H b≠none ∨ b=TT ∨ b=Sp:=0#F;have n4:W TT:=by rw[hW];exact .inr 2#a
 have n8:W Sp:=by rw[hW];exact .inr 0#dT
 have a8:∀{G:Hp} {x y:HO},4#L G->G TT=some x->G Sp=some y->∀b,W b->G b≠none:=λsG eL eR b hb z=>by
  rw[hW] at hb;rcases hb with y |y |y
  ·exact y (sG.free z)
  ·rw[y,eL] at z;cases z
  ·rw[y,eR] at z;cases z
 have w0:WOk n (0#f c0 ([]:0#a)) [] none:=by
  have:c0=0 ∨ c0=1:=by omega
  rcases this with z |z <;> rw[z]
  ·exact WOk.nil
  ·exact(WOk.nil (n:=n)).emp (e:=[]) rfl
 have r0:RwS 2 (0#f c0 ([]:0#a)):=by
  have:c0=0 ∨ c0=1:=by omega
  rcases this with z |z <;> rw[z]
  ·exact RwS.nil.le ∅
  ·exact RwS.one (λ_ y=>nomatch y) ∅
 refine bS (λσ H'=>Ex10 λ(x6 x7 x8 x9:Option V) (R:Addr) (rs:List (List Nat)) (tv sv:List V) (L:List (Bl (n+1)×Nat×Nat)) (k:Option Knd)=>Al12 5#z (0#T) (H' TT=some 14#tv) (H' Sp=some 14#sv) 8#l 0#ft (6#Q H' sv 0#gc) (Lst3 n rs L k) (L.length<=6) (0 < q9->L≠[]) (RwS (3006+q9 * (nb+2)+m) rs) (1#r<=2+q9 * (nb+2))) 3#H ?_
 ·refine⟨_,rfl,(q9:Int),rfl,by omega,by omega,?_⟩;rw[l40];refine cO (n:=q9) (λk σ H'=>Ex10 λ(x6 x7 x8 x9:Option V) (R:Addr) (rs:List (List Nat)) (tv sv:List V) (L:List (Bl (n+1)×Nat×Nat)) (kk:Option Knd)=>Al13 5#z (0#T) (H' TT=some 14#tv) (H' Sp=some 14#sv) 8#l (R≠TT/\R≠Sp) 0#ft (6#Q H' sv 0#gc) (Lst3 n rs L kk) (L.length=k) (RwS (3006+k * (nb+2)+m) rs) (1#r<=2+k * (nb+2)) (k=0->(rs.map 4#g).sum=0)) ⟨none,none,none,none,R0,0#f c0 [],[],[],[],none,rfl,s3,e3,p4,l0,⟨e9,(aC i4 d0)⟩, .nil, .nil, .none _ w0,rfl,r0.le nofun,by rw[l23];omega,λ_=>by rw[l65];simp⟩ ?_ ?_
  ·rintro k σ H4 hk ⟨x6,x7,x8,x9,R,rs,tv,sv,L,kk,rfl,s4,a5,a7,a3,e8,a1,a4,d2,a9,c1,g5,l3⟩;ac_rfl
   symm
   show 64;have r1:k<=5:=by omega
   have hkn:k * (nb+2)<=5 * (nb+2):=l86 _ r1;have hk1:(k+1) * (nb+2)<=q9 * (nb+2):=l86 _ hk;have hke:(k+1) * (nb+2)=k * (nb+2)+(nb+2):=Nat.succ_mul _ _;have e4:=a1.len;have k1:=a4.len;rw[l4] at e4 k1;refine s_if 28#((((rs.map 4#g).sum:Nat):Int) > 3000) (λRr q4=>?_) (λH5 s5 z=>?_) λH5 s5 z=>?_
   ·refine⟨_,rfl,R,rfl,85#a3,?_⟩;refine qv (λj=>((rs[j]?).map λr=>V.int ((r.length:Nat):Int)).getD .non) 74#a3 (by rw[l4,hs];omega) ?_ ?_
    ·intro j v hv H5 s5 C N' hC;rw[0#x] at hv;obtain⟨r,l2,rfl⟩:=l52.mp hv;have hc:=hC H5 18#_;rw[l2] at hc;have hmem:=km 125#l2;have hsum:=c1.1;refine⟨(1#l).set ∅ _,iteT (B:=N' H5) ⟨_,rfl,S r,rfl,by rw[aw,hs];omega,?_⟩⟩;rw[aw];exact hc
    ·intro D H5 hD s5 eD;rw[l4,bG] at eD;refine⟨D,(rs.map 4#g).map λx:Nat=>(x:Int),rfl,0#w (by rw[eD,l20,l20];rfl),_,_,rfl,rfl,_,rfl,?_⟩;rw[pO];exact q4 _ s5
   ·have z:=0#s z;have d4:k≠0:=λy=>by have:=l3 y;omega
    exact hN _ _ ⟨_,x7,x8,x9,R,rs,tv,sv,L,kk,rfl,9#h,4#D a5,4#D a7,4#D a3,a1.same s5,a4.same s5,d2,by omega,λ_ y=>by rw[y] at a9;exact d4 a9.symm,c1.le nofun,by omega⟩
   have hT3:(rs.map 4#g).sum<=3000:=by have:=1#u z;omega
   have c2:RwS (3000+1#r) rs:=⟨by rw[pN];omega,c1.2⟩;have s4:=9#h;have a5:=4#D a5;have a7:=4#D a7;have a3:=4#D a3;have a1:=a1.same s5;have a4:=a4.same s5;clear z s5;refine⟨_,rfl,_,rfl,_,_,rfl,rfl,_,(k:Int)+3,rfl,by omega,by omega,λm7 p9=>?_⟩
   symm
   refine⟨_,rfl,_,rfl,m7,rfl,p9,λtb H6 g6=>?_⟩;obtain⟨v,ro,own,kd,dd,s6,m8,r3,dv,hb,j2,hrlo⟩:=g6;refine 168#(tb,m8)
   symm
   obtain⟨b,c5,m3⟩:=hb n hn;obtain⟨ds,l1⟩:=c5.wd;rw[m3] at l1;have j7:=dv;rw[l1] at j7;obtain⟨av,xsv,rfl,k3⟩:=oa j7;have k3:=0#gz k3;clear j7 m8;have j9:Off W H6 11#av (dB (n+1) b):=by rw[m3];exact Off.new dv (a8 s4 a5 a7)
   have q5:=s4.trans s6;have i1:=s6 _ _ a5;have k7:=s6 _ _ a7;have g4:=s6 _ _ a3;have j0:=a1.same s6;have m2:=a4.same s6;clear s4 a5 a7 a3 a1 a4 s6;refine bS (λσ H'=>Ex3 λ(R':Addr) (rs':List (List Nat)) (e7:Option Knd)=>Al8 (σ=[some 21#(I:Int),some 21#(q9:Int),some 21#(d:Int),some 11#TT,some 11#R',some 11#Sp,some 21#(k:Int),some 21#m7,some 11#av,some 11#ro]) 137#H6 (H' R'=some 14#(rs'.map vS)) (R'≠TT/\R'≠Sp) (WOk n rs' L e7) (∀s,gu kd s->nY e7 s) (RwS (3004+1#r) rs') (8#v<=1#r+2)) (λN' j4=>?_) ?_
   ·obtain⟨M,rfl⟩:∃M:Nat,m7=(M:Int):=96#m7.toNat;cases d2 with
    |none _ hw0=>
     have d4:k=0:=by rw[<- a9];rfl
     refine s_if (decide (0 < k)&&false) (dF _ _ (7#h 0#bW) λz=>by rw[d4] at z;exact 0#A z ∅) (λH7 s7 z=>by rw[0#dp] at z;cases z) λH7 s7 _=>?_;exact j4 _ _ ⟨R,rs,none,rfl,s7,0#gp g4,e8,hw0,λ_ _=>trivial,c2.le nofun,by omega⟩
    |some Rp op L' kp kd' b' hp1 hp2 hp3=>
     have d4:0 < k:=by rw[<- a9,l6];show 0 < _+1;omega
     obtain⟨vl,h8,i2⟩:=j0.get (i:=L'.length) (d:=dB (n+1) b') (by rw[0#x,2#l (7#j),l53];rfl);obtain⟨ds',f3⟩:=hp2.wd;have n1:=i2.dn;rw[f3] at n1;obtain⟨al,xl,rfl,r2⟩:=oa n1;have q6:atI tv (-1)=some 11#al:=by
      have:tv.length=L'.length+1:=by rw[e4,l6];rfl
      rcases l48 tv with z |⟨t0,tx,z⟩
      ·rw[z] at this;cases this
      ·rw[l55] at z;rw[z] at h8 this ⊢;rw[l6] at this;have h9:t0.length=L'.length:=by have:t0.length+1=L'.length+1:=this;omega
       rw[2#l nofun,h9,l53] at h8;rw[ol];exact h8
     refine s_if (decide (0 < k)&&((decide (kd'=kd)&&isG kd)||decide ((M:Int) / 64 % 2=1))) (dF _ _ (7#h 0#bW) λ_ H7 s7=>t_or _ _ (λRr k0=>⟨_,rfl,1,rfl,TT,_,_,_,rfl,rfl,0#w (0#gp i1),q6,_,rfl,al,av,kd',kd,_,_,rfl,0#gp r2,0#gp k3,λH8 s8=>⟨_,rfl,k0 _ s8⟩⟩) λ_ H8 s8=>cV (λRr k0=>⟨_,rfl,_,_,rfl,rfl,0#q,_,_,rfl,rfl,show (0:Int) < 2 by omega,k0⟩) ev_c) (λH7 s7 z=>?_) λH7 s7 z=>?_
     ·obtain⟨a2,f2,ha21⟩:∃a2:Nat,1+(M:Int) / 16 % 2=((a2+1:Nat):Int)/\a2<=1:=⟨M / 16 % 2,by omega,by omega⟩;refine⟨_,rfl,bg2,λpG hG=>⟨_,rfl,_,_,rfl,rfl,0#q,_,_,rfl,rfl,show (0:Int) < 2 by omega,_,_,rfl,rfl,_,rfl,pG,_,rfl,0#w ac,λpH hH=>?_⟩⟩;rw[f2,show cutV 5#S none 23#((a2+1:Nat):Int)=(gapTs.take (a2+1)).map vS by rw[kq,List.map_take];rfl] at *;have g1:=(ad hG (.lst 5#S)).trans (ad hH 14#((gapTs.take (a2+1)).map vS));have hgl:=(uC (a2+1)).len;have p7:(gapTs.take (a2+1)).length<=2:=by rw[l29];show min _ 2<=2;omega
      refine⟨R,pH,_,_,rfl,rfl,g1 _ _ (0#gp g4),ac,by rw[l4,l4,hs];omega,λR2 a6=>?_⟩;rw[<- l14];refine j4 _ _ ⟨R2,_,none,rfl,(s7.trans g1).trans 46#a6,ac,⟨(aC (g1 _ _ (0#gp i1)) a6).symm,(aC (g1 _ _ (0#gp k7)) a6).symm⟩,kL (hp1.block hp2 hp3) (by simp[gapTs]) (kM _),λ_ _=>trivial,(c2.app (uC (a2+1))).le nofun,by rw[l6];omega⟩
     ·rw[1#f d4,3#Q,0#bh] at z;exact j4 _ _ ⟨R,_,some kd',rfl,s7,0#gp g4,e8,hp1.block hp2 hp3,λs f=>wA z.1 f,c2.le nofun,by omega⟩
   rintro σ H7 ⟨R',rs',e7,rfl,s7,p8,d5,j1,d7,j8,hrl7⟩;ac_rfl;have i3:=0#gp i1;have o1:=0#gp k7;have c4:=0#gp r3;have r4:=q5.trans s7;have d6:own≠[]:=by obtain⟨r,rr,e,_⟩:=c5.fst;rw[e];simp
   have f1:∀x∈L.map (λx=>dB (n+1) x.1),∃xs,x=6#R xs:=λx hx=>by
    obtain⟨y,_,rfl⟩:=4#i hx;exact Bs _ y.1
   have j5:=xA i3 c4 d6 (j0.same s7) f1;have k2:=xA o1 c4 d6 (m2.same s7) λx hx=>by obtain⟨y,_,rfl⟩:=4#i hx;exact 0#F
   refine⟨_,rfl, .inl 33#i3,_,rfl,TT,_,_,rfl,rfl,i3,by rw[hs];omega,?_⟩
   symm
   have f5:upd H7 TT 14#(tv++[.ref av]) TT=some 14#(tv++[.ref av]):=ac;have e5:upd H7 TT 14#(tv++[.ref av]) Sp=some 14#sv:=by rw[ai p0];exact o1
   have e6:upd H7 TT 14#(tv++[.ref av]) R'=some 14#(rs'.map vS):=by rw[ai d5.1];exact p8
   have c3:upd H7 TT 14#(tv++[.ref av]) ro=some 14#(own.map vS):=by rw[ai j5];exact c4
   have k5:4#L 0#ar:=aj j3 r4;have m1:6#Q 0#ar (tv++[.ref av]) ((L++[(b,8#v,8#v+8#u)]).map λx=>dB (n+1) x.1):=by
    rw[l14];exact((j0.same s7).snoc (j9.same s7)).upd n4
   have m0:6#Q 0#ar sv 0#gc:=(m2.same s7).upd n4;generalize upd H7 TT (.lst (tv++[.ref av]))=H8 at f5 e5 e6 c3 k5 m1 m0 ⊢;refine⟨_,rfl, .inl 33#e5,_,rfl,R',_,rfl, .inl 74#e6,_,rfl,R',_,rfl, .inl 74#e6,_,rfl,ro,_,rfl, .inl 74#c3,_,_,rfl,rfl,bg2,λu hu=>?_⟩;rw[l4,l4];have s9:=ad hu 0#J;refine⟨Sp,_,_,rfl,rfl,s9 _ _ e5,by rw[hs];omega,?_⟩
   symm
   have q0:Off W 8#I 11#u (dSp (8#v,8#v+8#u)):=by
    show Off _ _ _ (.tuple [.int ((rs'.length:Nat):Int), .int ((8#v+own.length:Nat):Int)]);rw[show ((8#v+own.length:Nat):Int)=(rs'.length:Int)+(own.length:Int) by omega];exact ud ((Offs.nil.snoc (nZ λG => .int _)).snoc (nZ λG => .int _)) ac (λz=>a8 k5 f5 e5 u z hu)
   have m4:6#Q (upd 8#I Sp 14#(sv++[.ref u])) (sv++[.ref u]) ((L++[(b,8#v,8#v+8#u)]).map λx=>dSp x.2):=by
    rw[l14];exact((m0.same s9).snoc q0).upd n8
   have o4:=((m1.same s9).upd n8 (o := .lst (sv++[.ref u])));have f4:upd 8#I Sp 14#(sv++[.ref u]) TT=some 14#(tv++[.ref av]):=by rw[ai 76#p0];exact s9 _ _ f5
   have p5:upd 8#I Sp 14#(sv++[.ref u]) R'=some 14#(rs'.map vS):=by rw[ai d5.2];exact s9 _ _ e6
   have d8:upd 8#I Sp 14#(sv++[.ref u]) ro=some 14#(own.map vS):=by rw[ai k2];exact s9 _ _ c3
   have k4:upd 8#I Sp 14#(sv++[.ref u]) Sp=some 14#(sv++[.ref u]):=ac;have n7:4#L (upd 8#I Sp 14#(sv++[.ref u])):=aj n2 (k5.trans s9);generalize upd (upd H8 u (.tup [.int (rs'.length:Int), .int ((rs'.length:Int)+(own.length:Int))])) Sp (.lst (sv++[.ref u]))=H9 at m4 o4 f4 p5 d8 k4 n7 ⊢;refine⟨_,rfl,_,rfl,R',ro,_,_,rfl,rfl,p5,d8,by rw[l4,l4,hs];omega,λR2 a6=>?_⟩;rw[<- l14];have d3:=ad a6 14#((rs'++own).map vS);exact⟨_,_,_,_,R2,rs'++own,tv++[.ref av],sv++[.ref u],L++[(b,8#v,8#v+8#u)],some kd,rfl,n7.trans d3,d3 _ _ f4,d3 _ _ k4,ac,⟨(aC f4 a6).symm,(aC k4 a6).symm⟩,o4.same d3,m4.same d3, .some rs' own L e7 kd b j1 c5 d7,by rw[l6,a9];rfl,(j8.app j2).le nofun,by rw[l6];omega,λz=>by omega⟩
  ·rintro σ H4 ⟨x6,x7,x8,x9,R,rs,tv,sv,L,kk,rfl,s4,a5,a7,a3,e8,a1,a4,d2,a9,c1,g5,l3⟩;ac_rfl;exact hN _ _ ⟨x6,x7,x8,x9,R,rs,tv,sv,L,kk,rfl,s4,a5,a7,a3,a1,a4,d2,by omega,λy z=>by rw[z] at a9;have:0=q9:=a9;omega,c1,g5⟩
 rintro σ H4 ⟨x6,x7,x8,x9,R,rs,tv,sv,L,k,rfl,s4,a5,a7,a3,a1,a4,d2,r5,r7,c1,g5⟩;ac_rfl;obtain⟨a2,f2,ha22⟩:∃a2:Nat,(I:Int) / 2 % 3=((a2:Nat):Int)/\a2<=2:=⟨I / 2 % 3,by omega,by omega⟩;have hqn:q9 * (nb+2)<=6 * (nb+2):=l86 _ p6;have e4:=a1.len;have k1:=a4.len;rw[l4] at e4 k1;refine⟨_,rfl,_,rfl,bg2,λpG hG=>⟨_,rfl,_,_,rfl,rfl,0#q,_,_,rfl,rfl,show (0:Int) < 3 by omega,_,rfl,pG,_,rfl,0#w ac,λpH hH=>?_⟩⟩;rw[f2,show cutV 5#S none 23#((a2:Nat):Int)=(gapTs.take a2).map vS by rw[kq,List.map_take];rfl] at *;have g1:=(ad hG (.lst 5#S)).trans (ad hH 14#((gapTs.take a2).map vS));have p7:(gapTs.take a2).length<=2:=by rw[l29];show min _ 2<=2;omega
 refine⟨R,pH,_,_,rfl,rfl,g1 _ _ a3,ac,by rw[l4,l4,hs];omega,λR2 a6=>⟨_,rfl,bg3,λt ht=>?_⟩⟩;rw[<- l14] at ht ⊢;have g2:=g1.trans (ad a6 14#((rs++gapTs.take a2).map vS));have g3:=ad ht (.tup [V.ref TT, .ref R2, .ref Sp]);have n3:∀{A:Addr} {vs:List V} {ds:List PyData},H A=none->H4 A=0#cS->6#Q H4 vs ds->6#h<=100000->∀{G:Hp},Same H4 G->Dn 86#G 11#A 139#ds:=λ{A vs ds} hA eA ho hl {G} sG=>by
  refine .lst (by rw[aD hA];exact sG _ _ eA) ?_ hl;obtain⟨G',q1,q2,q3⟩:=ho;refine q3.same λb o e=>?_;have hb:H b=none:=by
   cases qq:H b with
   |none=>rfl
   |some u=>rw[q2 b (by rw[hW];exact .inl (by rw[qq];simp))] at e;cases e
  rw[aD hb];exact sG _ _ (q1 _ _ e)
 exact q t TT R2 Sp rs (gapTs.take a2) L k _ ((s4.trans g2).trans g3) ((s4.trans g1).free a6) ac (g3 _ _ ac) (n3 j3 a5 a1 nofun (g2.trans g3)) (n3 n2 a7 a4 nofun (g2.trans g3)) d2 (kM _) r5 r7 ((c1.app (uC a2)).le nofun) 7#V
end
inductive spMixW (vs:0#t)(H:Hp)(Q:VK)(u3:XK):Prop
 |mk (c k:Int)(_:vs=[.int c, .int k])(_:0<=k)(_:k<=20000)(_:∀i:Int,0<=i->Q (.int i) H)
section
def zI (F:2#k "_law_mixed" "_law_mixed" mx f fd):FnOk P w K mg base CX0 1 f fd p17 spMixW:=by
 have sc:=nX;show 0;show 134;refine az (xbc 49#(xop aM 6#B xint)
  13#(xop aS 48#(xop bJ (5#M) 3#E) xint)) ?_
 ac_nf;have hk2:0<=k * k/\k * k<=400000000:=by
  show 41
  ·exact Int.mul_nonneg h0 h0
  ·calc k * k<=20000 * 20000:=0#eg nofun
    _=400000000:=rfl
 have hk3:7919 * k * k=7919 * (k * k):=Int.mul_assoc _ _ _;refine 1#z;refine 0#R
 ·show 74;show 41
  ·show 85
  ·show 86
 ·refine q _ ?_;show 80
abbrev og:Stmt:=top 112
abbrev pP:List Str:=["_law_number","_law_deep","_law_blocks_here","_law_rows","_law_spots","_law_found","_law_k","_law_row","_law_gap"]
def iP {d m nb mq nbq k9:Nat}(hd:d < 3)(hk9:2<=k9)(hm9:3020+3 * (nb+2)+m+2 * (4+3 * (nb+2))<=mq)(hq9:4+3 * (nb+2)<=nbq)(hnb9:nb<=3000)(hmm:m<=60000)(F:2#k "_law_quote" "_law_quote" og f fd)(T:TxL mg)(Dc:0#c 1 "_law_mixed" p17 spMixW)(Yp:0#c k9 "_law_blocks" p38 (spLBlks (d+1) m nb)):0#b (k9+1) f fd p21 (spLBlk d mq nbq):=by
 have sc:1#b pP p21 55#og:=mkS;show 0;show 68;refine az (xbc (xasg (xcd Yp hr (xac 154#xint (xac (9#G 48#(2#U)) 10#(2#h (2#E) xint)))) (xgt rfl (xgsc 27#2 (xgsc 27#3 (xgsc 27#4 xgs0)))))
  (xbc 20#5
  (xbc (0#cd rfl (xie T.z12 10#(6#k)) 0#eM
  (xbc (xst (i:=8) sc.nd (6#o (xcTy ft T.u13 rfl 10#(xorV (xcmp aY (9#n (xv 7) xo0 93#xint) xstr (ak _)) (xone (jA (xcmp pY (xv 7) xstr (ak _)) (xone (xcmp gL 48#(xcd Dc hr (xac (2#U) 19#(xv 6))) xint (ak _)))))))))
  103#(bI (xmA (xv 5) 10#(2#Z (9#F (xv 8)) (xv 7))))))
  13#(xtup (xac (xtup (1#p 19#(5#M))) 19#(xv 5)))))) ?_
 show 13;rw[show start pP [V.int i,V.int (d:Int)]=0#au from rfl];obtain⟨q9,hq,hq1,e4⟩:∃q9:Nat,1+i % 3=(q9:Int)/\1<=q9/\q9<=3:=⟨(1+i % 3).toNat,by omega,by omega,by omega⟩;refine⟨_,rfl,i,1,rfl,by omega,by omega,λm1 d6=>⟨_,rfl,_,_,rfl,rfl,show (0:Int) < 3 by omega,_,_,rfl,rfl,_,rfl,_,_,rfl,rfl,m1,q9,by rw[hq];rfl,d6,by omega,λt T0 R Sp R0 tr L k H1 s1 _ et eR dT dS c5 d2 hl6 d7 a6 e3=>?_⟩⟩;refine⟨t,_,rfl,2#m et,rfl,_,_,rfl,_,_,rfl,_,_,rfl,rfl,?_⟩
 symm
 have hqn:q9 * (nb+2)<=3 * (nb+2):=l86 _ e4;have hnd:3 - d=(3 - (d+1))+1:=by omega
 have a1:blks 0#dV (R0++tr)=L:=by
  cases tr with
  |nil=>rw[l12];exact c5.wok.all
  |cons a b=>exact(kL c5.wok 0#h d2).all
 have a5:R0++tr≠[]:=λz=>by rw[z] at a1;exact d7 nofun a1.symm
 generalize R0++tr=rs at a1 a5 eR a6 e3;refine 3#k
 symm
 have s2:=0#bM;have e2:upd H1 X 0#y X=some 0#y:=ac;generalize upd H1 X (.lst [])=H2 at s2 e2 ⊢;refine bS (λσ H'=>Ex4 λ(x6 x7 x8:Option V) (qs:List (List Nat))=>Al6 8#r 137#H1 (H' X=some 14#(qs.map vS)) (Tk eH true qs rs) (RwS mq qs) (qs.length=1#r)) 3#H ?_
 ·refine⟨_,rfl,R,_,rfl,s2 _ _ eR,?_⟩;refine o0 (xs:=rs.map vS) (λj σ H'=>Ex4 λ(x6 x7 x8:Option V) (qs:List (List Nat))=>Al5 8#r 137#H1 (H' X=some 14#(qs.map vS)) (Tk eH true qs (rs.take j)) (RwS (((rs.take j).map λr=>1#m+1).sum+2 * j) qs)) ⟨none,none,none,[],rfl,s2,e2,trivial,RwS.nil⟩ ?_ ?_ ?_
  ·rintro j σ H3 _ ⟨_,_,_,_,_,s3,_⟩;ac_rfl;exact 0#w (8#g eR)
  ·rintro j x σ H3 U hx ⟨x6,x7,x8,qs,rfl,s3,a3,htk,a2⟩ hU;rw[0#x] at hx;obtain⟨r,a7,rfl⟩:=0#fP;have hj:=(0#C a7).1;have a4:rs.take (j+1)=rs.take j++[r]:=by rw[List.take_succ,a7];rfl
   have hmem:=km 125#a7;have hsum:=a6.1;have d8:=a6.2 r 125#a7;have a8:=htk.len;rw[l29] at a8;have c3:=ad hU (.tup [.int (j:Nat),vS r]);refine 0#bT
   symm
   have a9:=c3 _ _ a3;have s4:=s3.trans c3;generalize upd H3 U (.tup [.int (j:Nat),vS r])=H4 at a9 s4 ⊢;refine bS (λσ H'=>Ex1 λ(g:Nat)=>Al4 (σ=[5#m,some 21#(d:Int),some 11#T0,some 11#R,some 11#Sp,2#y,some 21#(j:Int),some (vS r),some (vS 165#g)]) (H'=H4) (g<=1) (g=0->r[0]? ≠ some 32)) (λN' e1=>?_) ?_
   ·have d3:decide (V.str (S 99#1)=V.str 4#G)=decide (r[0]? = some 32):=by
     have e:(V.str (S 99#1)=V.str 4#G) ↔ r[0]? = some 32:=by
      rw[<- rM r 0 32,l69];exact 8#x
     exact 2#F e
    refine⟨_,rfl,_,rfl,S r,rfl,by rw[aw,hs];omega,?_⟩;rw[show 6#f (S r) none 23#1=S 99#1 from (eO r none 23#1).trans (2#u S (wP r 1))];refine 0#ce;rw[d3];have done:∀b:Bool,(b=false->r[0]? ≠ some 32)->N' [5#m,some 21#(d:Int),some 11#T0,some 11#R,some 11#Sp,2#y,some 21#(j:Int),some (vS r),some (V.str (9#N 4#G (if b=true then 1 else 0)))] H4:=λb hb=>by
     have:9#N 4#G (if b=true then 1 else 0)=S 165#(if b then 1 else 0):=by cases b;exact fH 32 0;exact fH 32 1
     rw[this];refine e1 _ _ ⟨if b then 1 else 0,rfl,rfl,by cases b <;> decide,λz=>hb (by cases b;rfl;cases z)⟩
    refine ite2 5#y λc=>?_
    ·exact .inr ⟨_,rfl,_,_,rfl,rfl,by decide,by decide,by decide,done true λz=>0#k⟩
    ·have c:r[0]? ≠ some 32:=λz=>c (by rw[z];rfl);refine 6#w;refine ite2 (λc2=>?_) λc2=>?_
     ·refine⟨_,rfl,_,rfl,i,(j:Int),rfl,by omega,by omega,λm8 hm8=>⟨_,_,rfl,rfl,show (0:Int) < 3 by omega,_,_,rfl,rfl, .inr 118#_⟩⟩;exact⟨_,_,rfl,rfl,by decide,by split <;> decide,by split <;> decide,done _ λ_=>c⟩
     ·exact .inr ⟨_,rfl,_,_,rfl,rfl,by decide,by decide,by decide,done false λ_=>c⟩
   rintro σ Hq ⟨g,rfl,c0,hg1,d5⟩;ac_rfl;rw[c0];clear c0;have lb:(bls g).length=g:=by rw[bls,l23]
   refine⟨_,rfl, .inl 33#a9,_,rfl,_,_,rfl,rfl,by have h9:=aw 165#g;show 1+(S 165#g).length<=_;rw[h9,lb,hs];omega,?_⟩;rw[show 0#e ">"++S 165#g=S ([62]++bls g) from aJ _ _];refine⟨_,rfl,_,_,rfl,rfl,by rw[aw,aw,l6,lb,hs];show 1+_+_<=_;omega,?_⟩;rw[aJ];refine⟨X,_,_,rfl,rfl,a9,by rw[l4,hs];omega,?_⟩;refine⟨_,_,_,qs++[[62]++bls g++r],rfl,aj hX s4,by rw[ac,l14];rfl,?_,?_⟩
   ·rw[a4];refine htk.snoc ?_;rw[aW,qr (by rfl)];have hg:g=0 ∨ g=1:=by omega
    rcases hg with rfl |rfl
    ·show eH (.quote (dz (62::r)))=_;rw[yx r (d5 rfl)];rfl
    ·show eH (.quote (dz (62::32::r)))=_;rw[vC];rfl
   ·rw[a4,l14,l45];refine(a2.app (RwS.one (m:=1#m+3) (((show GdR [62] by unfold GdR;decide).app (dY g)).app d8) (by rw[l6,l6,lb];show 1+_+_+1<=_;omega))).le ?_;show _+2 * j+(1#m+3)<=_+(1#m+1+0)+2 * (j+1);omega
  ·rintro σ H3 ⟨x6,x7,x8,qs,rfl,s3,a3,htk,a2⟩;ac_rfl;rw[l4,l62] at htk a2;have hl:=htk.len;exact hN _ _ ⟨x6,x7,x8,qs,rfl,s3,a3,htk,a2.le (by have:=a6.1;omega),hl.symm⟩
 rintro σ H3 ⟨x6,x7,x8,qs,rfl,s3,a3,htk,a2,a8⟩;ac_rfl;refine⟨_,rfl,bg2,λu1 c1=>⟨_,rfl,bg2,λu2 c4=>?_⟩⟩;have d4:=s1.trans s3;obtain⟨z1,z2⟩:=bu d4 c1 (.cons (dn_k (k:="quote")) 34#(dT.same 80#s3));have h1:=ad c1 (.tup [V.str "quote", .ref T0]);have h2:=ad c4 73#X;refine q u2 _ (.mk 11#u1 X qs .quote _ (z1.trans h2) ac ((h1.trans h2) _ _ a3) (z2.same (bE c4 _)) (λn' d0=>?_) a2 nofun);have d0:n'=3 - (d+1)+1:=by omega
 subst d0;refine⟨(.quote ((blks 0#dV rs).map (·.1)):BkF (Bl 0#dV)),ua htk (λz=>by rw[z] at a8;exact a5 (l60 a8.symm)),?_⟩;show 6#R [.str "quote", .list (((blks 0#dV rs).map (·.1)).map (dB 0#dV))]=_;rw[a1,l20];rfl
end
def fq (ps:7#E):(0#fE 166#dP).depth<=4:=bo λd hd=>by
 obtain⟨p,_,rfl⟩:=4#i hd;exact vN p
def uD:∀(n:Nat) (e:En n),(dE n e).depth<=2 * n+4
 |0,e=>7#t
 |n+1,e=>by
  refine l17 (cE (n:=2 * n+5) λd hd=>?_) nofun;rcases 1#y hd with z |hd
  ·rw[z,cF];exact l11 _
  rcases 1#y hd with z |hd
  ·rw[z];exact l17 (fq _) nofun
  rw[2#R hd];exact bo λd hd=>by
   obtain⟨x,_,rfl⟩:=4#i hd;exact uD n x
def iQ (cs:List 16#PC):(cg cs).depth<=5:=bo λd hd=>by
 obtain⟨ps,_,rfl⟩:=4#i hd;exact fq ps
def pQ {β:Type}{f:β->PyData}{n:Nat}(hn:18<=n)(hf:∀b,(f b).depth<=n):∀b:BkF β,(dBF f b).depth<=n+2:=by
 have str:∀s:Str,(PyData.str s).depth<=n+1:=λs=>by rw[cF];exact l11 _
 have int:∀i:Int,(PyData.int i).depth<=n+1:=λi=>by unfold PyData.depth;exact l11 _
 have a2:∀ps:7#E,(0#fE 166#dP).depth<=n+1:=λps=>l17 (fq ps) nofun;have two:∀{a b:PyData},a.depth<=n+1->b.depth<=n+1->(6#R [a,b]).depth<=n+2:=λha hb=>cE λd hd=>by
  rcases 1#y hd with z |z
  ·rw[z];exact ha
  ·rw[2#R z];exact hb
 have a1:∀{a b d:PyData},a.depth<=n+1->b.depth<=n+1->d.depth<=n+1->(6#R [a,b,d]).depth<=n+2:=λha hb hc=>cE λd hd=>by
  rcases 1#y hd with z |z
  ·rw[z];exact ha
  ·rcases 1#y z with z |z
   ·rw[z];exact hb
   ·rw[2#R z];exact hc
 intro b;cases b with
 |heading l ps=>exact a1 (str _) (int _) (a2 ps)
 |para ps=>exact two (str _) (a2 ps)
 |lst es=>exact two (str _) (bo λd hd=>by obtain⟨e,_,rfl⟩:=4#i hd;exact l17 (uD 6 e) nofun)
 |table hd sd ls=>
  refine cE λd h=>?_;rcases 1#y h with z |h
  ·rw[z];exact str _
  rcases 1#y h with z |h
  ·rw[z];exact l17 (iQ hd) nofun
  rcases 1#y h with z |h
  ·rw[z];exact l17 (bo (n:=0) λd h=>by obtain⟨b,_,rfl⟩:=4#i h;rw[cF];exact l9 _) nofun
  rw[2#R h];exact l17 (bo (n:=5) λd h=>by obtain⟨b,_,rfl⟩:=4#i h;exact iQ b) nofun
 |lit ls=>exact two (str _) (l17 (bo (n:=0) λd h=>by obtain⟨b,_,rfl⟩:=4#i h;rw[cF];exact l9 _) nofun)
 |quote bs=>exact two (str _) (bo λd h=>by obtain⟨b,_,rfl⟩:=4#i h;exact hf b)
 |name a t=>exact a1 (str _) (str _) (str _)
 |note a ps=>exact a1 (str _) (str _) (a2 ps)
def uE:∀(n:Nat) (b:Bl n),(dB n b).depth<=2 * n+20
 |0,b=>pQ (n:=18) (7#j) 2#B b
 |n+1,b=>l17 (pQ (n:=2 * n+20) nofun (uE n) b) nofun
def B9 {ws:0#m}(h:SmR ws):((ws.map S).map 8#S).sum+(ws.map S).length * (S [10]).length<=sizeLine:=by
 have e:(S [10]).length=1:=aw _;show 118
theorem uF:∀(ws:List (List Nat)),(ao [10] ws).length<=(ws.map λr=>1#m+1).sum
 | []=>4#r
 | [p]=>by show 0#dB<=0#dB+1+0;omega
 |p::q::r=>by
  have a:=uF (q::r);show (p++[10]++ao [10] (q::r)).length<=_;rw[l6,l6,l16,l25];show 0#dB+1+_<=_;omega
def RwS.text {m:Nat}{rs:0#m}(h:RwS m rs)(hm:m<=90000)(hn:rs≠[]):aG 10 (ao [10] rs)=rs/\9∉ao [10] rs/\(ao [10] rs).length<=100000:=by
 refine⟨cR 10 rs hn λp hp z=>(h.2 p hp 10 z).2.1 rfl,λz=>?_,?_⟩
 ·rcases pp z with y |⟨r,hr,y⟩
  ·exact 0#A (2#R y) ∅
  ·exact(h.2 r hr 9 y).2.2 rfl
 ·have:=uF rs;have:=h.1;omega
theorem uG:∀{Ds:List Addr} {us:List Value},Vals (Ds.map V.ref) us->us=Ds.map 6#D
 | [],_, .nil=>rfl
 |T::Ts,_, .cons r t=>by
  cases r;rw[uG t];rfl
inductive rIsXs (K:Frag)(xs:0#t)(H:Hp)(Q:VK):Prop
 |mk (e C p:Addr)(Ds:List Addr)(b:Bool)(_:xs=[.ref e, .ref p])(_:H e=some (excO e (.ref C)))(_:ExcK K C)(_:H p=some (.tup (Ds.map V.ref)))(_:kitAny K (.ref C) (Ds.map Value.ref)=some b)(_:Q (.bl b) H)
def uH {X:Cx}:ck X 5#e (rIsXs X.K):=by
 show 6;obtain⟨e,C,p,Ds,b,rfl,he,k,hp,hk,q⟩:=h;obtain⟨u,v,rfl,rx,rv⟩:=r.two;cases rv;cases (show u=6#D e from rx);obtain⟨hz,a2,rt,o,h1,h2,n,h3⟩:=(show ObjOk X.prog X.w H s.heap p (.tup (Ds.map V.ref)) from I.hok p _ hp);obtain⟨oc,od,a1,osl⟩:=o;cases h2;have h3:a1 = .seq a2.toArray n:=h3;subst h3;rw[uG rt] at h1;exact wpAny_with_toks (n:=1) I.tk (PySem.W.kia_tup (jB k) I.kIn (oz I.hok he) h1 hk 2#B λtk htk=>⟨.bl b,H,I.tok _ htk,rfl,q⟩)
def mD {X:Cx}{e:Addr}:ck (XM X e).nox 5#e (rIsX X.K):=vn (X:=(XM X e).nox)
def uI {X:Cx}{e:Addr}:ck (XM X e).nox 5#e (rIsXs X.K):=uH (X:=(XM X e).nox)
structure TxX (K:Frag)(mg:Str->0#B)(BX ME BN BT BW OP:Addr):Prop extends TxR K mg BX where
 z16:mg "ValueError"=none
 q16:mg "MarkError"=some 11#ME
 q12:mg "BadName"=some 11#BN
 u17:mg "BadTree"=some 11#BT
 g17:mg "BadWidth"=some 11#BW
 z17:mg "OutOfPlace"=some 11#OP
 q39:exmOne K 11#BX 11#ME=5#J
 q17:ExcK K BX
 u40:0#N 11#BX (.type "ValueError")=5#J
 g40:0#N 11#BX 11#BN=2#p
 z40:0#N 11#BX 11#BT=2#p
 q40:0#N 11#BX 11#BW=2#p
 u41:0#N 11#BX 11#OP=2#p
def hdep (bs:List (Bl 4)):(0#fE (bs.map (dB 4))).depth<=64:=l17 (bo (n:=28) λd hd=>by obtain⟨x,_,rfl⟩:=4#i hd;exact uE 4 _) ∅
section
variable {c:Cb}{BX ME BN BT BW OP dc:Addr}
abbrev zJ:Stmt:=top 116
inductive spRefd (K:Frag) (vs:0#t) (H:Hp) (Q:VK) (u3:XK):Prop
 |mk:∀v,(vs=[v])->Odd K H v->(∀H',Same H H'->Q (.bl true) H')->spRefd K vs H Q u3
def zK {k:Nat}{β:Type}{R:Hp->Addr->β->Prop}{rdg:0#m->β×Nat}(F:2#k "_law_refused" "_law_refused" zJ f fd)(T:TxX K mg BX ME BN BT BW OP)(DL:0#cF k "read" 1#K (spReadT K BX dc R rdg)):0#b (k+1) f fd ["_law_thing"] (spRefd K):=by
 have sc:1#b ["_law_thing","error","_law_other"] ["_law_thing"] 55#zJ:=mkS;show 0;obtain⟨v,rfl,hv,q⟩:=h;refine az (xbc (xtry (i:=1) rfl rfl rfl sc.nd rfl rfl T.q16
  (yn (vm (vk DL hr.mono rfl 10#(2#U))))
  (λ_=>(xbc 49#(xcB uI T.u11 rfl (xac (2#E) 10#(xtup (xac (xgC T.q12) (xac (xgC T.u17) (xac (xgC T.g17) 19#(xgC T.z17)))))))
  13#(jA (xcB mD T.u11 rfl (xac (2#E) 19#(xgC T.g14))) (jA (xcB mD T.u11 rfl (xac (2#E) 19#(xty (T:="ValueError") T.z16 rfl))) (xone (xnot (5#M))))))))
  13#xbl) ?_
 ac_nf
 try dsimp only[Ends.to_nx,Ends.to_rt,tSeq,tTry]
 refine⟨_,rfl, .no v rfl hv λH1 s1=>⟨BX,rfl,T.q39,λe he=>?_⟩⟩;have s2:=s1.trans (ad he (excO e 11#BX));have e2:upd H1 e (excO e 11#BX) e=some (excO e 11#BX):=ac;generalize upd H1 e (excO e (.ref BX))=H2 at s2 e2 ⊢;have hk:kitAny K 11#BX ([BN,BT,BW,OP].map 6#D)=some false:=by
  show kitAny K 11#BX [.ref BN, .ref BT, .ref BW, .ref OP]=2#p;unfold kitAny;rw[T.g40];unfold kitAny;rw[T.z40];unfold kitAny;rw[T.q40];unfold kitAny;rw[T.u41];rfl
 refine⟨_,rfl,bg4,λp hp=>⟨e,BX,p,[BN,BT,BW,OP],false,rfl,7#f e2,T.q17,ac,hk,?_⟩⟩;have s3:=s2.trans (ad hp 0#cn);have e3:=ad hp 0#cn _ _ e2;generalize upd H2 p (.tup [V.ref BN, .ref BT, .ref BW, .ref OP])=H3 at s3 e3 ⊢
 symm
 refine⟨_,rfl,e,BX,_,true,rfl,e3,T.q17, .inl ⟨BX,rfl,fw _ _⟩,?_⟩;refine⟨_,rfl,iteT ⟨_,rfl,e,BX,_,true,rfl,e3,T.q17, .inr 127#T.u40,⟨_,rfl,iteT ?_⟩⟩⟩;exact⟨_,rfl,_,rfl,q H3 s3⟩
abbrev pR:Stmt:=top 117
inductive spLRead (vs:0#t) (H:Hp) (Q:VK) (u3:XK):Prop
 |mk:∀(l:List Nat) (v:V),(vs=[vS l,v])->9∉l->l.length<=100000->SmR (aG 10 l)->Dn H v (.list ((bls4 (aG 10 l)).map (dB 4)))->(∀H',Same H H'->Q (.bl true) H')->spLRead vs H Q u3
def wB {k:Nat}(hk:6<=k)(F:2#k "_law_read" "_law_read" pR f fd)(T:TxL mg)(DL:0#cF k "read" 1#K (spReadT K BX dc 156#4 (rd 4)))(hDoc:4#A k dc "told" 1#D (spDocTold dc 156#4 (dB 4) (OkB 4))):0#b (k+1) f fd 0#cN spLRead:=by
 have sc:1#b ["_law_text","_law_due","_law_found"] 0#cN 55#pR:=mkS;refine F.oks sc λ{a6 A _ s _ _}H Q hr h=>?_;obtain⟨l,v,rfl,h9,hl,a2,dv,q⟩:=h;have hu:(A.deeper (0#bL "_law_read" 55#pR s.heap.objs.size f a6)).units+64 < cLine:=by
  have:=hr.un;omega
 refine az (xbc 49#(xmV0 (k:=k) (xcR DL hr.mono 10#(2#U)) hr.mono)
  (xbc (xif (xor (fW (bL (xcB gD T.u11 rfl (xac (5#M) 10#(xty (T:="list") T.g10 rfl))))) (xor1 169#((oW hu),(2#E)))).xt 13#xbl xb0)
  (xbc (bI (xmA (5#M) 10#xstr))
  13#xbl))) ?_
 ac_nf;have hok:∀b∈bls4 (aG 10 l),OkB 4 b:=λb hb=>by
  obtain⟨x,hx,rfl⟩:=4#i hb;exact iM (ok:=OkB 4) (λrs h=>zm 4 rs h) _ _ _ a2 x hx
 have w6:(bls4 (aG 10 l)).length<=90000:=by
  unfold bls4;rw[l4];exact l17 (gI _ _ _) a2.len
 refine⟨_,rfl, .mk l rfl h9 hl a2 λdd H1 s1 a3=>?_⟩;obtain⟨dx,lb,a1,a5⟩:=a3;refine⟨dd,dc,dx,_,_,_,rfl,0#gz a1,rfl,hDoc,dd,bls4 (aG 10 l),rfl,⟨dx,lb,0#gz a1,a5.same (dJ 4) 4#X⟩,w6,hok,λv8 H2 s2 d2=>?_⟩
 symm
 have d8:=d2.same 4#X;cases d2 with
 | @lst a xs _ ea r hz=>
 have ea:=fI ea;refine br (t_or false false (iT true (BY 0#u d8 163#fw)) λ_ H3 s3 R kk=>⟨_,rfl,_,rfl,_,(d8.same s3).den,(dv.same ((2#c).trans s3)).den,hdep _,_,rfl,kk _ 18#_⟩) λH3 s3=>?_;have a4:=s1.trans (0#Y);refine⟨_,rfl, .inl 33#(8#g ea.2),a,_,_,rfl,rfl,8#g ea.2,by have:=r.len;rw[l4] at this;rw[this,0#Z];omega,q _ (aj (s1.free ea.1) a4)⟩
end
end K13
namespace Lw
open PySem L2 Lm
theorem xB:∀rs:List 16#Nat,(litR rs).2=1#r->(litR (rs++[[]])).2=1#r->∃ls f,rs=ls++[f]/\0#bF/\(litR rs).1=ls
 | [],_,h=>by
  have:(litR [[]]).2=1:=by decide
  have h:(litR [[]]).2=0:=h;omega
 |r::rs,h1,h2=>by
  by_cases c:bT (aL r)=bV
  ·have e:litR 5#h=([],1):=by unfold litR;rw[1#d c]
   rw[e,l5] at h1;have h1:1=1#r+1:=h1;have:rs=[]:=l60 nofun;subst this;exact⟨[],r,rfl,1#F,by rw[e]⟩
  ·have e:∀xs,litR (r::xs)=(r::(litR xs).1,(litR xs).2+1):=λxs=>by rw[litR,0#z c]
   rw[e,l5] at h1;rw[l28,e,l5] at h2;obtain⟨ls,f,h3,h4,h5⟩:=xB rs (Nat.succ.inj h1) (Nat.succ.inj h2);refine⟨r::ls,f,by rw[h3];rfl,λl hl=>?_,by rw[e,h5]⟩;rcases 1#y hl with z |z
   ·rw[z];exact c
   ·exact h4 l z
def BOk.lit_cut {n:Nat}{own:0#m}{b:Bl (n+1)}(h:BOk n .lit own b):∃e ls f,own=e::ls++[f]/\aL e = .fence/\rd (n+1) (e::ls)=(b,1+5#H):=by
 obtain⟨r,rs',e,hf⟩:=h.fst;have hf:aL r = .fence:=hf;have hr:∀X,rd (n+1) (r::X)=((.lit (litR X).1:BkF (Bl n)),1+(litR X).2):=λX=>by
  show 53;have:7#F (r::X) = .fence:=by show srtQ true r=_;rw[aW,hf]
  rw[this];rfl
 have h1:=h.run [] trivial;have h2:=h.run [[]] trivial;rw[e,l12,hr,l5] at h1;rw[e,l28,hr,l5] at h2;obtain⟨ls,f,h3,h4,h5⟩:=xB rs' (by have:=2#u Prod.snd h1;simp only[] at this;omega) (by have:=2#u Prod.snd h2;simp only[] at this;omega);refine⟨r,ls,f,by rw[e,h3];rfl,hf,?_⟩;have hb:(.lit (litR rs').1:BkF (Bl n))=b:=2#u Prod.fst h1;rw[hr,uc h4,<- hb,h5];rfl
def WOk.lit {n:Nat}{R ls:0#m}{e:0#a}{L:List 4#Z}{k:0#eT}{b:Bl (n+1)}(h:WOk n R L k)(hs:∀s,gu .lit s->nY k s)(he:aL e = .fence)(hr:rd (n+1) (e::ls)=(b,1+5#H)):(blks (n+1) (R++e::ls)).map (·.1)=L.map (·.1)++[b]:=by
 have:=h.run (e::ls) (by show nY k (0#bR e);rw[aW,he];exact hs _ rfl);rw[show blks (n+1) (R++e::ls)=bl n 0 (R++e::ls) from rfl,this,l14];congr 1;unfold Lw.bl;rw[l5,kF (mB (kd := .lit) he),hr];rw[show (e::ls).drop (1+5#H)=[] from l73 3#S,nV];rfl
end Lw
namespace K13
open PySem L2 Lm Lw
inductive Lt3 (m:Nat) (G:Hp) (t:Addr):Prop
 |mk:∀(T R Sp:Addr) (R0 tr:List (List Nat)) (L:List (Bl 4×Nat×Nat)) (k:Option Knd),G t=some (.tup [.ref T, .ref R, .ref Sp])->G R=some (.lst ((R0++tr).map vS))->Dn G (.ref T) (.list (L.map λx=>dB 4 x.1))->Dn G (.ref Sp) (.list (L.map λx=>dSp x.2))->Lst3 3 R0 L k->(∀r∈tr,r=[] ∨ r=[32,32])->RwS m (R0++tr)->L.length<=6->Lt3 m G t
def Lt3.same {m:Nat}{G G':Hp}{t:Addr}(s:Same G G')(h:Lt3 m G t):Lt3 m G' t:=let ⟨T,R,Sp,R0,tr,L,k,h1,h2,h3,h4,h5,h6,h7,h8⟩:=h;⟨T,R,Sp,R0,tr,L,k,8#L h1,8#L h2,h3.same s,h4.same s,h5,h6,h7,h8⟩
inductive Lr (m:Nat) (G:Hp) (t:Addr) (rs:0#m):Prop
 |mk:∀(T R:Addr) (Sp:V),G t=some (.tup [.ref T, .ref R,Sp])->G R=some (.lst (rs.map vS))->Dn G (.ref T) (.list ((bls4 rs).map (dB 4)))->RwS m rs->Lr m G t rs
def Lr.same {m:Nat}{G G':Hp}{t:Addr}{rs:0#m}(s:Same G G')(h:Lr m G t rs):Lr m G' t rs:=let ⟨T,R,Sp,h1,h2,h3,h4⟩:=h;⟨T,R,Sp,8#L h1,8#L h2,h3.same s,h4⟩
def pS {R0 tr:0#m}{L:List (Bl 4×Nat×Nat)}{k:0#eT}(h:Lst3 3 R0 L k)(ht:∀r∈tr,r=[] ∨ r=[32,32]):blks 4 (R0++tr)=L:=by
 cases tr with
 |nil=>rw[l12];exact h.wok.all
 |cons a b=>exact(kL h.wok 0#h ht).all
def Lt3.lr {m:Nat}{G:Hp}{t:Addr}(h:Lt3 m G t):∃rs,Lr m G t rs:=by
 obtain⟨T,R,Sp,R0,tr,L,k,h1,h2,h3,h4,h5,h6,h7,h8⟩:=h;refine⟨R0++tr,T,R, .ref Sp,h1,h2,?_,h7⟩;unfold bls4;rw[pS h5 h6,l20];exact h3
def out (H:Hp)(X:Addr):Hp:=λb=>if b=X then none else H b
def pT {H H':Hp}{X:Addr}(s:∀b o,b≠X->H b=1#T->H' b=1#T):Same (out H X) H':=λb o e=>by
 unfold out at e;by_cases c:b=X
 ·rw[1#d c] at e;cases e
 ·rw[0#z c] at e;exact s b o c e
def js {H:Hp}{X b:Addr}(h:b≠X):out H X b=H b:=0#z h
def pU {G H:Hp}{X:Addr}(s:Same G H)(h:G X=none):Same G (out H X):=λb o e=>by
 rw[js (nq h e)];exact s _ _ e
def RwS.take {m:Nat}{a b:0#m}(h:RwS m (a++b)):RwS m a:=⟨l17 (by rw[l14,l45];exact Nat.le_add_right _ _) h.1,λr hr=>h.2 r (l44 _ hr)⟩
def xC {G:Hp}{a:Addr}{ds:2#w}(h:Dn G 11#a 139#ds):∃xs,G a=9#l/\DnAll G xs ds:=by
 cases h with
 |lst e r hz=>exact⟨_,e,r⟩
def pV {G:Hp}{xs:0#t}{ds:2#w}{d:PyData}(h:DnAll G xs (ds++[d])):∃v,atI xs (-1)=some v/\Dn G v d:=by
 have hl:=h.len;rw[l6] at hl;have hl:0#E=ds.length+1:=hl;obtain⟨v,h1,h2⟩:=h.get (i:=ds.length) (d:=d) (by rw[2#l (7#j),l53];rfl);refine⟨v,?_,h2⟩;unfold atI ixN;rw[0#z nofun,1#d nofun];show xs[(0#E + -1:Int).toNat]? = _;rw[show (0#E + -1:Int).toNat=ds.length by omega];exact h1
def zL {G:Hp}{v:V}{x:Nat×Nat}(h:Dn G v (dSp x)):∃a,v = .ref a/\G a=some (.tup [.int x.1, .int x.2]):=by
 unfold dSp at h;cases h with
 |tup e r=>
  cases r with
  |cons a r=>
   cases r with
   |cons b r=>cases r;cases a;cases b;exact 127#e
def wC {G:Hp}{v:V}(h:Dn G v (.tuple 0#cP)):∃a,v = .ref a/\G a=some (.tup 0#cP):=by
 cases h with
 |tup e r=>
  cases r with
  |cons a r=>
   cases r with
   |cons b r=>
    cases r with
    |cons d r=>cases r;cases a;cases b;cases d;exact 127#e
def uJ {G:Hp}{a:Addr}{rs:0#m}(e:G a=some 14#(rs.map vS))(h:SmR rs):Dn G 11#a 139#(rs.map λr => .str (S r)):=
 .lst e (qD λr hr=>⟨h.asc r hr,l17 (h.row hr) ∅⟩) (by rw[l4];exact l17 h.len ∅)
section
variable {c:Cb}{BX ME BN BT BW OP dc:Addr}
abbrev gv:Stmt:=top 118
abbrev Ca:List Str:=["_law_script","_law_some","_law_k","_law_number","_law_texts","_law_handed","_law_turn","_law_found","_law_odd"]
inductive spLaw13 (K:Frag)(vs:0#t)(H:Hp)(Q:VK)(u3:XK):Prop
 |mk (a:Addr)(ns:List Int)(_:vs=[.ref a])(_:SqL K H a (ns.map V.int))(_:∀H',Same H H'->Q (.bl true) H')
def wD {k m nb kb:Nat}(hk:6<=k)(hkb:kb<=k)(hmm:3020+6 * (nb+2)+m<=90000)(F:2#k "law" "law" gv f fd)(T:TxL mg)(DC:0#c 1 "_law_cell_at" p35 (spCellAt K))(Dc:0#c 1 "_law_mixed" p17 spMixW)(Yp:0#c k "_law_blocks" p38 (spLBlks 0 m nb))(Yq:0#c k "_law_read" 0#cN spLRead)(Yr:0#c k "_law_refused" ["_law_thing"] (spRefd K))
  (DM:0#c k "blocks_of" p31 (spBlks 156#4 (rd 4) 0))(hM:5#b k "told" 156#4 (OkB 4) (tellsB (dB 4))):0#b (k+1) f fd ["_law_script"] (spLaw13 K):=by
 have sc:1#b Ca ["_law_script"] 55#gv:=mkS;refine F.oks sc λ{t2 A _ s _ _}H Q hr h=>?_;obtain⟨a,ns,rfl,hq,q⟩:=h;have hu:(A.deeper (0#bL "law" 55#gv s.heap.objs.size f t2)).units+64 < cLine:=by
  have:=hr.un;omega
 refine az (xbc 20#1
  (xbc (0#cd rfl 0#cA 27#2
  (xbc 39#(xcd Dc hr (xac (xcd DC hr 17#(xac (xop bJ xint (5#M)) xa0)) 10#(xop aM 0#ap xint)))
  103#(bI (xmA (2#E) 10#(xcd Yp hr (xac (6#k) (xac 48#(xop aS 0#ap xint) 19#xint)))))))
  (xbc (xif (xand 40#(xop aM (xcd DC hr 17#(xac xint xa0)) xint) (xand (aB (oI hu) 12#(4#t (2#E) xint 0#n) 130#xa0 (ak _)) (gU (aB aY 12#(4#t 47#(4#t (2#E) xint 0#n) (5#c) 0#n) xstr (ak _))))).xt 103#(xasg (xtup (xac 12#(xix aH (2#E) xint 0#n) (xac (xsl dm 12#(xix aH (2#E) xint 0#n) xo0 93#(xop cP 12#(xix aH 47#(xix aH (2#E) xint 0#n) (5#c) 0#n) xint)) 10#(xsl dm 47#(xix aH (2#E) xint 0#n) xo0 93#(5#c))))) (vd (2#E) xint gC)) xb0)
  (xbc (ve (i:=4) (own:=["_law_one"]) sc.nd
  (xil (2#E))
  22#(show (["_law_one"]:0#O).Nodup by decide) 1#k (λ_ _ _ _=>(xmC 2#P slot_str_join type_str_join vo xstr 10#(xix fX (2#U) xint 0#n))))
  (xbc (0#cd rfl (xit (ic (xlsc rW (xlsc rW (xlsc rW xls0))))) 27#2
  103#(xif (fW (bL (xcd Yq hr (xac (xix aH (xv 4) (5#M) 0#n) 10#(xifE (aB (oI hu) 47#(xix aH (2#E) (5#M) 0#n) 130#xa0 (ak _)) 47#(xix aH (2#E) (5#M) 0#n) 130#xa0))))) 13#xbl xb0))
  (xbc (xst (i:=5) sc.nd (xcTy aP T.g10 rfl 10#(xix ay 164#(2#E) xint 0#n)))
  (xbc (0#cd rfl 0#cA 27#6
  (xbc (xst (i:=7) sc.nd (xcd DM hr (xac (xv 5) 10#xint)))
  (xbc (xif (xor (aB (oW hu) (xlc0 (own:=0#fK)
  (xil (xv 7))
  22#(show (0#fK:0#O).Nodup by decide) 1#k (λ_ _ _ _=>(xtup (xac 0#dl 10#(xix fX (2#U) xint 0#n))))) 12#(4#t (2#E) xint 0#n) (ak _)) (xor1 (aB (oW hu) (xv 5) 12#(4#t (2#E) xint 0#n) (ak _)))).xt 13#xbl xb0)
  (xbc (xif (aB (oW hu) (xlc0 (own:=0#fK)
  (xil (xv 7))
  22#(show (0#fK:0#O).Nodup by decide) 1#k 95#(xix fX (2#U) xint 0#n)) 12#(4#t (2#E) xint 0#n) (ak _)) 13#xbl xb0)
  103#(bI (xmA (xv 7) 10#xnon))))))
  (xbc (xst (i:=8) sc.nd (4#t 130#(xac xnon (xac xint (xac xbl (xac (xlst 10#xstr) (xac (ic 91#xls0) (xac AK (xac xbl 10#(2#Z 164#(xv 4) xstr)))))))) 48#(xop aS (xcd DC hr 17#(xac xint xa0)) xint) 0#n))
  13#(xcd Yr hr 19#(xv 8)))))))))) ?_
 show 13;rw[BH];refine 3#k
 symm
 show 12;show 9;refine bS (λσ H'=>Ex5 λ(x2 x3:Option V) (t0 t1:Addr) (G:Hp)=>Al7 (σ=3#w) (0#T) (H' X=some (.lst [.ref t0, .ref t1])) (G X=none) 137#G (Lt3 90000 G t0) (Lt3 90000 G t1)) 3#H ?_
 ·refine 0#el;refine cO (n:=2) (λk σ H'=>Ex4 λ(x2 x3:Option V) (ts:List Addr) (G:Hp)=>Al7 (σ=3#w) (0#T) 77#ts.map (2#g=k) (G X=none) 137#G (∀t∈ts,Lt3 90000 G t)) ⟨none,none,[],λ_=>none,rfl,s1,e1,rfl,rfl,(λ_ _ z=>0#k),λ_ z=>0#k⟩ ?_ ?_
  ·rintro j σ H2 hj ⟨x2,x3,ts,G,rfl,s2,a5,d2,d0,sG,a6⟩;ac_rfl
   symm
   ac_nf;rw[show (0:Int)+(j:Int)=(j:Int) by omega];refine⟨_,rfl,_,rfl,_,_,rfl,rfl, .inl 0#q,a,ns,2 * j,?_,s2.seq hq,λi1=>⟨_,rfl,_,rfl,_,_,rfl,rfl, .inl 0#q,_,_,rfl,rfl,a,ns,2 * j+1,?_,s2.seq hq,λi2=>⟨_,_,rfl,rfl,show (0:Int) < 1000 by omega,i1,i2 % 1000,rfl,by omega,by omega,λnn q7=>?_⟩⟩⟩
   ·rw[show ((2 * j:Nat):Int)=2 * (j:Int) by omega];rfl
   ·show 123
   symm
   refine⟨_,rfl, .inl 33#a5,_,rfl,_,rfl,_,rfl,_,_,rfl,rfl, .inl 0#q,_,_,rfl,rfl,a,ns,2 * j+1,?_,s2.seq hq,λi3=>⟨_,_,rfl,rfl,0#q,_,_,rfl,rfl,show (0:Int) < 7 by omega,nn,(i3 / 1000 % 7).toNat,?_,q7,by omega,λt T0 R Sp R0 tr L kk H3 s3 hR et eR dT dS d4 f2 k7 hne j4 hrl=>?_⟩⟩
   ·show 123
   ·rw[Int.toNat_of_nonneg nofun];rfl
   have a4:=8#g a5;have r1:t≠X:=zT et a4 λz=>0#k;have u1:R≠X:=(nq a5 hR);have sd:Same (dif H2 H3) (out H3 X):=λb o e=>by
    obtain⟨e1,e2⟩:=fI e;rw[js (nq a5 e1)];exact e2
   have hq7:(i3 / 1000 % 7).toNat * (nb+2)<=6 * (nb+2):=l86 _ nofun;refine⟨X,_,_,rfl,rfl,a4,by rw[l4,hs];omega,?_⟩;refine⟨_,_,ts++[t],out H3 X,rfl,aj hX (0#Y),by rw[ac,l14];rfl,by rw[l6,d2];rfl,1#d rfl,pT λb o hb e=>(ai hb).trans e,λt' p7=>?_⟩;rcases 2#n p7 with z |z
   ·exact(a6 t' z).same (pU (sG.trans s3) d0)
   ·rw[2#R z];exact⟨T0,R,Sp,R0,tr,L,kk,(js r1).trans et,(js u1).trans eR,dT.same sd,dS.same sd,d4,f2,j4.le nofun,k7⟩
  ·rintro σ H2 ⟨x2,x3,ts,G,rfl,s2,a5,d2,d0,sG,a6⟩;ac_rfl
   match ts,d2,a5,a6 with
   | [t0,t1],_,a5,a6=>exact hN _ _ ⟨x2,x3,t0,t1,G,rfl,s2,a5,d0,sG,a6 t0 l7,a6 t1 38#l7⟩
 rintro σ H2 ⟨x2,x3,t0,t1,G,rfl,s2,a5,d0,sG,j2,k4⟩;ac_rfl;refine bS (λσ H'=>Ex3 λ(c0:Addr) (a9:List (List Nat)) (G':Hp)=>Al7 (σ=3#w) (0#T) (H' X=some (.lst [.ref c0, .ref t1])) (G' X=none) 137#G' (Lr 90000 G' c0 a9) (Lt3 90000 G' t1)) 3#H ?_
 ·have plain:∀H',Same H2 H'->N 3#w H':=λH' s'=>by
   obtain⟨rs,h⟩:=j2.lr;exact hN _ _ ⟨t0,rs,G,rfl,s2.trans s',s' _ _ a5,d0,sG.trans s',h,k4⟩
  obtain⟨T0,R,Sp,R0,tr,L,kk,et,eR,dT,dS,d4,f2,j4,k7⟩:=j2;obtain⟨xs,n1,g5⟩:=xC dT;refine⟨_,rfl,a,ns,4,rfl,s2.seq hq,λi4=>⟨_,_,rfl,rfl,show (0:Int) < 3 by omega,rfl,_,rfl,?_⟩⟩;refine ite2 (λc1=>?_) λc1=>iteF (plain _ 18#_);refine⟨_,rfl,X,_,_,_,rfl,rfl,0#w a5,ag (j:=0) rfl,t0,_,_,_,rfl,rfl,2#m (sG _ _ et),ag (j:=0) rfl,bg0,λz0 e6=>⟨T0,z0,xs,rfl,rfl,0#w (ad e6 _ _ _ (sG _ _ n1)),0#w ac,_,rfl,?_⟩⟩;have s3:=ad e6 0#y;generalize upd H2 z0 (.lst [])=H3 at s3 ⊢;have a7:=sG.trans s3;cases d4 with
  |none _ hw=>
   cases xs with
   |cons x y=>have:=g5.len;cases this
   |nil=>exact iteF (plain _ s3)
  |some Rw own L' k' kd b hw hbok hst=>
  rw[l14] at g5 dS;obtain⟨v1,s0,g2⟩:=pV g5;obtain⟨ds,p0⟩:=hbok.wd;have g2:Dn G v1 (dB 4 b):=g2;rw[show dB 4 b = .tuple (.str (kdW kd)::ds) from p0] at g2;obtain⟨av,ys,rfl,t5⟩:=oa g2;have o4:(!xs.isEmpty)=true:=by
   cases xs with
   |nil=>have:=g5.len;rw[l6] at this;cases this
   |cons x y=>rfl
  rw[show (if true=true then !xs.isEmpty else xs.isEmpty)=true from o4];have a4:=8#g a5;refine iteT ⟨_,rfl,X,_,_,_,rfl,rfl,0#w a4,ag (j:=0) rfl,t0,_,_,_,rfl,rfl,2#m (a7 _ _ et),ag (j:=0) rfl,_,rfl,T0,xs,_,_,rfl,rfl,0#w (a7 _ _ n1),s0,av,_,_,_,rfl,rfl,2#m (a7 _ _ t5),ag (j:=0) rfl,rfl,_,rfl,?_⟩;rw[show decide (V.str (kdW kd)=V.str (0#e "literal"))=decide (kd = .lit) from uz kd .lit];refine ite2 (λc2=>?_) λc2=>plain _ s3;have c2:=0#s c2;subst c2;obtain⟨e0,ls,f0,rfl,q0,p6⟩:=hbok.lit_cut;obtain⟨ss,l0,hss⟩:=xC dS;obtain⟨v2,r2,r3⟩:=pV hss;obtain⟨a2,rfl,q4⟩:=zL r3;refine⟨_,rfl,X,_,_,_,rfl,rfl,0#w a4,ag (j:=0) rfl,t0,_,_,_,rfl,rfl,2#m (a7 _ _ et),ag (j:=0) rfl,_,rfl,X,_,_,_,rfl,rfl,0#w a4,ag (j:=0) rfl,t0,_,_,_,rfl,rfl,2#m (a7 _ _ et),ag (j:=1) rfl,_,rfl,X,_,_,_,rfl,rfl,0#w a4,ag (j:=0) rfl,t0,_,_,_,rfl,rfl,2#m (a7 _ _ et),ag (j:=2) rfl,_,rfl,Sp,ss,_,_,rfl,rfl,0#w (a7 _ _ l0),r2,a2,_,_,_,rfl,rfl,2#m (a7 _ _ q4),ag (j:=1) rfl,_,_,rfl,rfl,_,rfl,R,_,rfl,0#w (a7 _ _ eR),λp1 n3=>?_⟩;have g6:cutV ((Rw++(e0::ls++[f0])++tr).map vS) none 23#(((b,Rw.length,Rw.length+(e0::ls++[f0]).length).2.2:Nat) - 1:Int)=(Rw++e0::ls).map vS:=by
   show cutV _ none 23#(((Rw.length+(e0::ls++[f0]).length:Nat):Int) - 1)=_;rw[show (((Rw.length+(e0::ls++[f0]).length:Nat):Int) - 1)=(((Rw++e0::ls).length:Nat):Int) by rw[l6,l6];show ((Rw.length+((e0::ls).length+1):Nat):Int) - 1=_;omega,kq,<- List.map_take];rw[show Rw++(e0::ls++[f0])++tr=(Rw++e0::ls)++([f0]++tr) by simp,l51]
  rw[g6] at *;have s4:=ad n3 14#((Rw++e0::ls).map vS);have e4:upd H3 p1 14#((Rw++e0::ls).map vS) p1=some 14#((Rw++e0::ls).map vS):=ac;generalize upd H3 p1 (.lst ((Rw++e0::ls).map vS))=H4 at s4 e4 ⊢;have j3:=a7.trans s4;have j8:=4#k a4;refine⟨_,rfl,X,_,_,_,rfl,rfl,0#w j8,ag (j:=0) rfl,t0,_,_,_,rfl,rfl,2#m (j3 _ _ et),ag (j:=2) rfl,_,rfl,_,rfl,Sp,ss,rfl,0#w (j3 _ _ l0),λp2 m7=>⟨bg3,λu hu=>⟨_,rfl,X,_,_,0,rfl,rfl,((ad m7 _).trans 46#hu) _ _ j8,rfl,?_⟩⟩⟩;have s5:=(ad m7 14#(cutV ss none 23#(-1))).trans (ad hu 8#Q);have e5:upd (upd H4 p2 14#(cutV ss none 23#(-1))) u 8#Q u=some 8#Q:=ac;generalize upd (upd H4 p2 (.lst (cutV ss none (some (-1))))) u (.tup [V.ref T0, .ref p1, .ref p2])=H5 at s5 e5 ⊢;have t3:=j3.trans s5;have d3:=4#D j8;have p8:u≠X:=zT e5 d3 λz=>0#k;have p4:p1≠X:=(nq a4 n3);have sO:=pU t3 d0;refine hN _ _ ⟨u,Rw++e0::ls,out H5 X,rfl,aj hX (s2.trans 160#(9#h)),ac,1#d rfl,pT λb o hb e=>(ai hb).trans e,⟨T0,p1, .ref p2,(js p8).trans e5,(js p4).trans (4#D e4),?_,?_⟩,k4.same sO⟩
  ·have:=hw.lit hst q0 p6;unfold bls4;rw[show (blks 4 (Rw++e0::ls)).map (·.1)=L'.map (·.1)++[b] from this,l14,l20];rw[l14] at dT;exact dT.same sO
  ·exact RwS.take (b:=[f0]++tr) (by rw[show (Rw++e0::ls)++([f0]++tr)=Rw++(e0::ls++[f0])++tr by simp];exact j4)
 rintro σ H3 ⟨c0,a9,G',rfl,s3,a4,j0,k5,d6,e7⟩;ac_rfl;clear j2 k4 sG d0 a5 s2 hX s1 e1;have d6:=d6.same k5;obtain⟨T1,R1,Sp1,R0,tr,L,kk,j9,g3,f3,l2,d4,f2,a8,k7⟩:=e7.same k5;have m0:=pS d4 f2;clear e7 k5 j0 d4 f2;generalize R0++tr=a3 at g3 a8 m0;subst m0;have f3:Dn H3 11#T1 139#((bls4 a3).map (dB 4)):=by unfold bls4;rw[l20];exact f3
 have k3:Lr 90000 H3 t1 a3:=⟨T1,R1, .ref Sp1,j9,g3,f3,a8⟩;have both:∀(i:Nat) x,[V.ref c0,V.ref t1][i]? = some x->∃ta rs,x = .ref ta/\[ao [10] a9,ao [10] a3][i]? = some (ao [10] rs)/\Lr 90000 H3 ta rs:=λi x h=>by
  match i,h with
  |0,h=>cases h;exact⟨c0,a9,rfl,rfl,d6⟩
  |1,h=>cases h;exact⟨t1,a3,rfl,rfl,k3⟩
 refine⟨_,rfl,X,rfl,85#a4,?_⟩;refine o2 [ao [10] a9,ao [10] a3] 74#a4 rfl (show (2:Nat)<=1000000 by decide) ?_ ?_
 ·intro i x tt hx t9 H4 s4 C N hC;obtain⟨ta,rs,rfl,hg,⟨T0,R,Sp,h1,h2,h3,h4⟩⟩:=both i x hx;rw[t9] at hg;cases hg;refine⟨(1#l).set ∅ _,iteT (B:=N H4) ⟨rfl,_,rfl,ta,_,_,_,rfl,rfl,2#m (4#k h1),ag (j:=1) rfl,S [10],R,rs.map S,rfl,rfl,0#w (by rw[4#k h2,dA]),B9 (h4.sm ∅),?_⟩⟩;rw[cq];exact hC _ 18#_
 intro Tx H4 hTx s4 m8
 symm
 refine bS (λσ H'=>Ex1 λ(x2:Option V)=>Al3 0#af 137#H4 (0 < 1)) 3#H ?_
 ·intro v H5 s5 d5;obtain⟨p,rfl,ep⟩:=wC d5;have ep:=0#gz ep;refine⟨p,rfl,⟨_,2#m ep⟩,?_⟩;refine xN (xs:=0#cP) (λi σ H'=>Ex1 λ(x2:Option V)=>Al3 0#af 137#H5 (0 < 1)) ⟨x2,rfl,Same.refl _,by decide⟩ ?_ ?_ ?_
  ·rintro i σ H6 _ ⟨_,_,s6,_⟩;ac_rfl;exact 2#m (s6 _ _ ep)
  ·rintro i v σ H6 hv ⟨x2,rfl,s6,_⟩;ac_rfl;obtain⟨κ,ta,rs,rfl,n2,q6,p9⟩:∃(κ:Nat) (ta:Addr) (rs:List (List Nat)),v = .int κ/\[V.ref c0,V.ref t1][κ]? = some (.ref ta)/\([ao [10] a9,ao [10] a3].map vS)[κ]? = some (vS (ao [10] rs))/\Lr 90000 H3 ta rs:=by
    match i,hv with
    |0,hv=>cases hv;exact⟨0,c0,a9,rfl,rfl,rfl,d6⟩
    |1,hv=>cases hv;exact⟨1,t1,a3,rfl,rfl,rfl,k3⟩
    |2,hv=>cases hv;exact⟨0,c0,a9,rfl,rfl,rfl,d6⟩
   have k1:=s4.trans (0#fR);obtain⟨T0,R,Sp,h1,h2,h3,h4⟩:=p9.same k1
   symm
   ac_nf;refine s_if false (iT true λRr kc=>?_) 5#O λH7 s7 _=>⟨_,rfl,9#i,by decide⟩;refine⟨_,rfl,_,rfl,Tx,_,_,_,rfl,rfl,0#w ((0#fR) _ _ m8),ag q6,_,rfl,_,rfl,X,_,_,_,rfl,rfl,0#w (k1 _ _ a4),ag n2,ta,_,_,_,rfl,rfl,2#m h1,ag (j:=1) rfl,bg0,λz0 e6=>⟨R,z0,_,rfl,rfl,0#w (ad e6 _ _ _ h2),0#w ac,_,rfl,?_⟩⟩;have m1:=ad e6 0#y;generalize upd H6 z0 (.lst [])=H7 at m1 ⊢;cases rs with
   |nil=>
    refine iteF ⟨bg0,λz1 q9=>⟨[], .ref z1,rfl,2#B,4#r,⟨by decide,λr hr=>by rw[2#R hr];exact λ_ z=>0#k⟩, .lst ac .nil (4#r),λH8 s8=>⟨_,rfl,kc _ ((m1.trans 46#q9).trans s8)⟩⟩⟩
   |cons r rs=>
    refine iteT ⟨_,rfl,_,rfl,X,_,_,_,rfl,rfl,0#w ((k1.trans m1) _ _ a4),ag n2,ta,_,_,_,rfl,rfl,2#m (m1 _ _ h1),ag (j:=0) rfl,?_⟩;obtain⟨g4,h9,u0⟩:=h4.text ∅ 0#h;exact⟨ao [10] 5#h, .ref T0,rfl,h9,u0,by rw[g4];exact h4.sm ∅,by rw[g4];exact h3.same m1,λH8 s8=>⟨_,rfl,kc _ (m1.trans s8)⟩⟩
  ·rintro σ H6 ⟨x2,rfl,s6,_⟩;ac_rfl;exact hN _ _ ⟨x2,rfl,0#fR,by decide⟩
 rintro σ H5 ⟨x2,rfl,s5,_⟩;ac_rfl;have c4:=9#h;have d3:=c4 _ _ a4;have f4:=c4 _ _ j9;have n8:=c4 _ _ g3;have t6:=f3.same c4;have q5:=l2.same c4;have e8:=4#D m8;have m2:=s3.trans c4;have f5:=a8.sm ∅;clear f3 l2 g3 j9 a4 both d6 k3 c4 s5 s4 s3;refine⟨_,rfl,X,_,_,_,rfl,rfl,0#w d3,ag (j:=1) rfl,t1,_,_,_,rfl,rfl,2#m f4,ag (j:=1) rfl,R1,_,rfl, .inl 74#n8,λHd p5=>?_⟩
 symm
 have s6:=ad p5 14#(a3.map vS);have k2:upd H5 Hd 14#(a3.map vS) Hd=some 14#(a3.map vS):=ac;generalize upd H5 Hd (.lst (a3.map vS))=H6 at s6 k2 ⊢;refine bS (λσ H'=>Ex2 λ(x6 x7:Option V)=>Al2 9#Y 137#H6) 3#H ?_
 ·refine 0#el;refine cO (n:=2) (λk σ H'=>Ex2 λ(x6 x7:Option V)=>Al2 9#Y 137#H6) ⟨none,none,rfl,Same.refl _⟩ ?_ ?_
  ·rintro j σ H7 hj ⟨x6,x7,rfl,s7⟩;ac_rfl
   symm
   ac_nf;have r0:=9#i;refine⟨_,rfl,Hd,a3,rfl,0#gp k2,f5,λr ts H8 s8 r8 er a6=>?_⟩
   symm
   have a6:Ls (TrAt 156#4 H8) ts (blks 4 a3):=a6.mono λt x=>Bd (dJ 4) _ _ _ _ 4#X;have d2:=a6.len;have h8:=r0.trans s8;refine br (t_or false false (λRr kc=>?_) λ_ H9 s9 Rr kc=>?_) λH9 s9=>?_
   ·refine⟨_,rfl,r,rfl,85#er,?_⟩;refine dH (λi=>(((blks 4 a3)[i]?).map λx=>dSp x.2).getD .none) 74#er 1#A ?_ ?_
    ·intro i x hx H9 s9 C N' hC;obtain⟨t,b,rfl,g1,_,a1,e1,_⟩:=a6.get hx;have e1:=s9 _ _ e1;refine⟨(1#l).set ∅ _,iteT (B:=N' H9) ⟨_,rfl,t,_,_,_,rfl,rfl,2#m e1,ag (j:=1) rfl,_,rfl,t,_,_,_,rfl,rfl,2#m e1,ag (j:=2) rfl,bg2,λu hu=>hC _ _ 46#hu ?_⟩⟩;rw[g1];exact .tup (by rw[aD hu];exact ac) (.cons 21#_ 34#21#_)
    ·intro D H9 hD s9 dD;rw[l4,d2,bG] at dD;have c5:=h8.trans s9;refine⟨_,rfl,X,_,_,_,rfl,rfl,0#w (c5 _ _ d3),ag (j:=1) rfl,t1,_,_,_,rfl,rfl,2#m (c5 _ _ f4),ag (j:=2) rfl,_,(dD.same 4#X).den,(q5.same c5).den,l17 (bo (n:=1) λd hd=>by obtain⟨x,_,rfl⟩:=4#i hd;exact cE (n:=0) λd hd=>by simp at hd;rcases hd with z |z <;> rw[z] <;> exact l9 _) ∅,_,rfl,kc _ s9⟩
   ·have c5:=h8.trans s9;refine⟨_,rfl,_,rfl,X,_,_,_,rfl,rfl,0#w (c5 _ _ d3),ag (j:=1) rfl,t1,_,_,_,rfl,rfl,2#m (c5 _ _ f4),ag (j:=1) rfl,_,(uJ ((0#gG) _ _ k2) f5).den,(uJ (c5 _ _ n8) f5).den,l17 (bo (n:=0) λd hd=>by obtain⟨x,_,rfl⟩:=4#i hd;rw[cF];exact l9 _) ∅,_,rfl,kc _ 18#_⟩
   refine br (λRr kc=>?_) λH10 c3=>?_
   ·refine⟨_,rfl,r,rfl,85#(s9 _ _ er),?_⟩;refine dH (λi=>(((bls4 a3)[i]?).map (dB 4)).getD .none) 74#(s9 _ _ er) 1#A ?_ ?_
    ·intro i x hx H10 c3 C N' hC;obtain⟨t,b,rfl,g1,_,a1,e1,r7⟩:=a6.get hx;have d7:=s9.trans c3;have r4:OkB 4 b.1:=iM (ok:=OkB 4) (λrs h=>zm 4 rs h) _ _ _ f5 b 125#g1;obtain⟨Cc,dx,fs,sp,q1,q2,V,g4⟩:=hM b.1 r4 H10 a1 (dJ 4 _ _ _ _ d7 r7);refine⟨(1#l).set ∅ _,iteT (B:=N' H10) ⟨_,rfl,t,_,_,_,rfl,rfl,2#m (d7 _ _ e1),ag (j:=0) rfl,a1,Cc,dx,fs,_,sp,rfl,q1,q2,V,g4 _ _ λv H11 ⟨j1,q3⟩=>hC v H11 j1 ?_⟩⟩;rw[show (bls4 a3)[i]? = some b.1 by unfold bls4;rw[0#x,g1];rfl];exact q3
    ·intro D H10 hD c3 dD;rw[l4,d2,show (blks 4 a3).length=(bls4 a3).length by unfold bls4;rw[l4],bG] at dD;have k0:=h8.trans (s9.trans c3);exact⟨_,rfl,X,_,_,_,rfl,rfl,0#w (k0 _ _ d3),ag (j:=1) rfl,t1,_,_,_,rfl,rfl,2#m (k0 _ _ f4),ag (j:=0) rfl,_,(dD.same 4#X).den,(t6.same k0).den,hdep _,_,rfl,kc _ c3⟩
   have e9:=(s9.trans c3) _ _ er;exact⟨_,rfl, .inl 33#e9,r,_,_,rfl,rfl,e9,by rw[l4,hs];omega,_,_,rfl,aj (s7.free r8) (s7.trans 161#(s9.trans c3))⟩
  ·rintro σ H7 ⟨x6,x7,rfl,s7⟩;ac_rfl;exact hN _ _ ⟨x6,x7,rfl,s7⟩
 rintro σ H7 ⟨x6,x7,rfl,s7⟩;ac_rfl;have r5:=m2.trans (9#i);have j5:=(9#i) _ _ e8;clear e8 m2 s6 s7;refine⟨bg1,λl1 n7=>λv2 H8 s8 d8=>λp3 l3=>⟨_,rfl,Tx,_,_,_,rfl,rfl,0#w ((((ad n7 _).trans s8).trans 46#l3) _ _ j5),ag (j:=1) rfl,_,_,rfl,rfl,?_,?_⟩⟩
 ·have:=uF a3;have:=a8.1;rw[aw,hs];show _+1<=_;omega
 rw[show 0#e "\t"=S [9] from rfl,aJ];have m1:=ad n7 124#(0#e "a");have m3:=ad l3 (.dK []);have e1:=161#m3 _ _ (ac (H:=H7) (a:=l1) (o := .lst [V.str (0#e "a")]));have d8:=(d8.same 4#X).same m3;have e3:upd H8 p3 (.dK []) p3=some (.dK []):=ac;have n4:=r5.trans (m1.trans 161#m3);generalize upd H8 p3 (.dK [])=H9 at e1 d8 e3 n4 ⊢;refine⟨bg8,λL hL=>?_⟩;have m4:=ad hL 1#J;have eL:upd H9 L 1#J L=some 1#J:=ac;show tOp.K0 _ _ _ _ _ (upd H9 L 1#J);generalize upd H9 L (.lst [V.non, .int 5, .bl true, .ref l1,v2, .ref p3, .bl false,vS (ao [10] a3++[9])])=H10 at m4 eL ⊢;have f1:=n4.trans m4;have j7:∀j:Nat,j < 8->∃v,[V.non, .int 5, .bl true, .ref l1,v2, .ref p3, .bl false,vS (ao [10] a3++[9])][j]? = some v/\Odd K H10 v:=λj hj=>by
  match j,hj with
  |0,_=>exact 117#⟨_, .non,(qw K .none).1⟩
  |1,_=>exact 117#⟨_, .int _,(qw K 21#0).1⟩
  |2,_=>exact 117#⟨_, .bl _,(qw K (.bool true)).1⟩
  |3,_=>exact 117#⟨_, .lst (m4 _ _ e1),(qw K (.list [])).1⟩
  |4,_=>exact 117#⟨_,(d8.same m4).ty,(qw K _).1⟩
  |5,_=>exact 117#⟨_, .dK (m4 _ _ e3),by with_unfolding_all rfl⟩
  |6,_=>exact 117#⟨_, .bl _,(qw K (.bool true)).1⟩
  |7,_=>exact⟨_,rfl, .inr ⟨_,rfl,by simp⟩⟩
  |j+8,h=>omega
 refine⟨_,rfl,a,ns,4,rfl,f1.seq hq,λi4=>?_⟩;obtain⟨j,hj,o1⟩:∃j:Nat,i4 / 3 % 8=(j:Int)/\j < 8:=⟨(i4 / 3 % 8).toNat,by omega,by omega⟩;obtain⟨v,hv,k9⟩:=j7 j o1;refine⟨_,_,rfl,rfl,0#q,_,_,rfl,rfl,show (0:Int) < 8 by omega,L,_,_,v,rfl,rfl,0#w eL,?_,?_⟩
 ·rw[hj];exact ag hv
 exact⟨_,rfl,v,rfl,k9,λH11 j1=>q _ (f1.trans j1)⟩
end
def b1 {α:Type}{p:List α->Prop}(h:∀a,p [a])(us:List α)(hl:5#n=1):p us:=match us,hl with | [a],_=>h a
def b2 {α:Type}{p:List α->Prop}(h:∀a b,p [a,b])(us:List α)(hl:5#n=2):p us:=match us,hl with | [a,b],_=>h a b
def b3 {α:Type}{p:List α->Prop}(h:∀a b c,p [a,b,c])(us:List α)(hl:5#n=3):p us:=match us,hl with | [a,b,c],_=>h a b c
def b4 {α:Type}{p:List α->Prop}(h:∀a b c d,p [a,b,c,d])(us:List α)(hl:5#n=4):p us:=match us,hl with | [a,b,c,d],_=>h a b c d
def eI {P:1#E}{w:World}{K:Frag}{mg:Str->0#B}{base:Heap}{j k:Nat}{x:Str}{ps:0#O}{sp:Sp}(D:0#c j x ps sp)(h:j<=k:=by omega):Def P w K mg base k x ps sp:=let ⟨f,fd,a,r⟩:=D.ex;⟨f,fd,a.mono h,r⟩
def zM {P:1#E}{w:World}{K:Frag}{mg:Str->0#B}{base:Heap}{j k:Nat}{β:Type}{m:Str}{R:Hp->Addr->β->Prop}{ok:β->Prop}{post:β->Hp->V->Hp->Prop}(M:5#b j m R ok post)(h:j<=k):MV P w K mg base k m R ok post:=λb hb H a x=>let ⟨C,dx,fs,sp,e1,e2,V,g⟩:=M b hb H a x;⟨C,dx,fs,sp,e1,e2,V.mono h,g⟩
def RE:Hp->Addr->Empty->Prop:=λ_ _ z=>0#k
def oh:MoR RE:=λ_ _ _ z=>0#k
structure FnIn (K:Frag)(x:Str)(st:Stmt):Prop where
 ex:∃(f:Addr) (oc:Value) (od:Option Addr) (kV dc pm:Value) (an:Option Addr) (cd ct:Value) (sl:Array (Option Value)),0#o x=some 23#11#f ∧
  K.lookup f=some 170#(79#x,sl)/\codeIn K cd x=true/\keepIn K 11#f=true
def fnIn_mk {K:Frag}{x:Str}{st:Stmt}{f:Addr}{oc:Value}{od:0#cK}{kV dc pm:Value}{an:0#cK}{cd ct:Value}{sl:Array (0#B)}(a:0#o x=some 23#11#f)
  (l:K.lookup f=some 170#(79#x,sl))(c:codeIn K cd x=true)(k:0#fh=true):FnIn K x st:=
 ⟨f,oc,od,kV,dc,pm,an,cd,ct,sl,a,l,c,k⟩
section
variable {P:1#E}{w:World}{K:Frag}{h:Heap}{mg:Str->0#B}{base:Heap}{x:Str}{st:Stmt}{ps:0#O}{k:Nat}{sp:Sp}
def Bu (X:K.In h)(G:h.Ns 8#e mg)(F:2#r x st)
  (hb:∀(kV doc pm:Value)(an:Option Addr)(cdv ct:Value)(us:List Value),5#n=2#x->0#dM=pure 6#N)
  (ok:∀f fd,0#gy->0#bg):Def P w K mg base k x ps sp:=by
 show 55
def zN (X:K.In h)(G:h.Ns 8#e mg)(F:2#r x st)
  (hb:∀(kV doc pm:Value)(an:Option Addr)(cdv ct:Value)(us:List Value),5#n=2#x->0#dM=pure 6#N)
  (ok:∀f fd,0#gy->4#U 9#r k f fd ps sp):DefR P w K mg base k x ps sp:=by
 show 55
structure Gd (P:1#E)(w:World)(K:Frag)(h:Heap)(mg:Str->0#B)(base:Heap):Prop where
 x:K.In h
 g:h.Ns 8#e mg
def dOf (g:Gd P w K h mg base)(F:2#r x st)(ok:∀f fd,0#gy->0#bg)(hb:∀(kV doc pm:Value)(an:Option Addr)(cdv ct:Value)(us:List Value),5#n=2#x->0#dM=pure 6#N:=by first |exact λ_ _ _ _ _ _=>b1 λ_=>rfl |exact λ_ _ _ _ _ _=>b2 λ_ _=>rfl |exact λ_ _ _ _ _ _=>b3 λ_ _ _=>rfl |exact λ_ _ _ _ _ _=>b4 λ_ _ _ _=>rfl):Def P w K mg base k x ps sp:=Bu g.x g.g F hb ok
def dOR (g:Gd P w K h mg base)(F:2#r x st)(ok:∀f fd,0#gy->4#U 9#r k f fd ps sp)(hb:∀(kV doc pm:Value)(an:Option Addr)(cdv ct:Value)(us:List Value),5#n=2#x->0#dM=pure 6#N:=by first |exact λ_ _ _ _ _ _=>b1 λ_=>rfl |exact λ_ _ _ _ _ _=>b2 λ_ _=>rfl |exact λ_ _ _ _ _ _=>b3 λ_ _ _=>rfl |exact λ_ _ _ _ _ _=>b4 λ_ _ _ _=>rfl):DefR P w K mg base k x ps sp:=zN g.x g.g F hb ok
def spNo:Sp:=λ_ _ _ _=>False
def wE {CX:CXT}{f:Addr}{fd:9#I}:FnOk P w K mg base CX k f fd ps spNo:=⟨λ_ _ _ _ z=>z.elim,λ_ _ _ _ _ _ _ _ _ _ _ _ _ z=>z.elim⟩
end
def cst_mk {K:Frag}{x:Str}{p:Value->Prop}{v:Value}(e:0#o x=0#bQ)(f:p v):∃v,0#o x=0#bQ/\p v:=⟨v,e,f⟩
def ownx_VE {K:Frag}{C:Addr}(q:excIn K C [.type "ValueError", .type "Exception", .type "BaseException", .type "object"] "ValueError.__new__"=true):OwnX K C:=⟨_,_,_,_,q,PySem.F.excBase_ValueError⟩
structure MIn (K:Frag)(C:Addr)(x qual:Str)(st:Stmt):Prop where
 ex:∃(f:Addr) (oc:Value) (od:Option Addr) (kV dc pm:Value) (an:Option Addr) (cd ct:Value) (sl:Array (Option Value)),9#E x=some 23#11#f/\isFn K 11#f=true ∧
  K.lookup f=some 170#(79#qual,sl)/\codeIn K cd qual=true/\keepIn K 11#f=true
def mIn_mk {K:Frag}{C:Addr}{x qual:Str}{st:Stmt}{f:Addr}{oc:Value}{od:0#cK}{kV dc pm:Value}{an:0#cK}{cd ct:Value}{sl:Array (0#B)}(a:9#E x=some 23#11#f)(i:isFn K 11#f=true)
  (l:K.lookup f=some 170#(79#qual,sl))(c:codeIn K cd qual=true)(k:0#fh=true):MIn K C x qual st:=
 ⟨f,oc,od,kV,dc,pm,an,cd,ct,sl,a,i,l,c,k⟩
def cH {P:1#E}{w:World}{K:Frag}{mg:Str->0#B}{base:Heap}{x qual:Str}{C:Addr}{st:Stmt}{ps:0#O}{k:Nat}{sp:Sp}(hm:mg x=0#fS)(mk:makesIn K C=true)(kc:keepIn K 11#C=true)(M:9#y C "__init__" qual st)
  (hb:∀(kV doc pm:Value)(an:Option Addr)(cdv ct:Value)(us:List Value),5#n=2#x->bindArgs (fnOf "__init__" qual (bM st) (bD st) 55#st .none kV doc pm an cdv ct) 6#P=pure 6#N)
  (ok:∀f fd,2#k "__init__" qual st f fd->0#bg):New P w K mg base k x C ps sp:=by
 show 66;exact⟨f,_,⟨mk,a,i,kc⟩,ok f _ F1,hm,F1.binds hb⟩
def bR {P:1#E}{w:World}{K:Frag}{mg:Str->0#B}{base:Heap}{x qual:Str}{C:Addr}{st:Stmt}{ps:0#O}{k:Nat}{sp:Sp}(hc:Cls K C)(M:9#y C x qual st)
  (hb:∀(kV doc pm:Value)(an:Option Addr)(cdv ct:Value)(us:List Value),5#n=2#x->bindArgs 32#qual 6#P=pure 6#N)
  (ok:∀f fd,9#H->0#bg):MethV P w K mg base k C x ps sp:=by
 show 66;exact⟨f,_,hc,⟨a,i,kp⟩,ok f _ F1,F1.binds hb⟩
structure PIn (K:Frag)(C:Addr):Prop where
 mkc:makesIn K C=true
 kc:keepIn K 11#C=true
 pg:plainGet K C Str.empty=true
 hd:hasDictIn K C=true
 po:plainOver K C=true
 sa:9#E "__setattr__"=some 23#(.builtin "object.__setattr__")
 ha:9#E "__class__"=some 23#(.builtin "object.__class__")
 hn:0#eh "__get__"=some 23#(.builtin "getset_descriptor.__get__")
 ht:0#gm=5#J
 hm:0#eV=5#J
def PIn.cls {K:Frag}{C:Addr}(p:PIn K C):Cls K C:=⟨p.pg,p.hd,p.po,p.sa⟩
def PIn.inst {K:Frag}{C:Addr}(p:PIn K C):Inst K C:=⟨p.cls,p.ha,p.hn,p.ht,p.hm⟩
structure Addrs where
 BadName:Addr
 BadText:Addr
 MarkError:Addr
 BadTree:Addr
 BadWidth:Addr
 OutOfPlace:Addr
 Plain:Addr
 Code:Addr
 Strong:Addr
 Link:Addr
 Mark:Addr
 Heading:Addr
 Para:Addr
 Literal:Addr
 Quote:Addr
 Naming:Addr
 Noting:Addr
 Entry:Addr
 Listing:Addr
 Table:Addr
 Document:Addr
structure ClsT (K:Frag)(c:Addrs):Prop where
 q12:0#o "BadName"=some (some 11#c.BadName)
 g14:0#o "BadText"=some (some 11#c.BadText)
 q16:0#o "MarkError"=some (some 11#c.MarkError)
 u17:0#o "BadTree"=some (some 11#c.BadTree)
 g17:0#o "BadWidth"=some (some 11#c.BadWidth)
 z17:0#o "OutOfPlace"=some (some 11#c.OutOfPlace)
 q14:0#o "Plain"=some (some 11#c.Plain)
 g27:0#o "Code"=some (some 11#c.Code)
 z27:0#o "Strong"=some (some 11#c.Strong)
 q27:0#o "Link"=some (some 11#c.Link)
 u28:0#o "Mark"=some (some 11#c.Mark)
 g28:0#o "Heading"=some (some 11#c.Heading)
 z28:0#o "Para"=some (some 11#c.Para)
 q28:0#o "Literal"=some (some 11#c.Literal)
 u29:0#o "Quote"=some (some 11#c.Quote)
 g29:0#o "Naming"=some (some 11#c.Naming)
 z29:0#o "Noting"=some (some 11#c.Noting)
 q29:0#o "Entry"=some (some 11#c.Entry)
 u30:0#o "Listing"=some (some 11#c.Listing)
 g30:0#o "Table"=some (some 11#c.Table)
 z30:0#o "Document"=some (some 11#c.Document)
 u26:OwnX K c.BadName
 q21:OwnX K c.BadText
 g41:exmOne K 11#c.BadText 11#c.MarkError=5#J
 q17:ExcK K c.BadText
 z41:0#N 11#c.BadText (.type "ValueError")=5#J
 q41:0#N 11#c.BadText 11#c.BadName=2#p
 u42:0#N 11#c.BadText 11#c.BadTree=2#p
 g42:0#N 11#c.BadText 11#c.BadWidth=2#p
 z42:0#N 11#c.BadText 11#c.OutOfPlace=2#p
 u22:PIn K c.Plain
 q42:0#K 11#c.Plain "signs"=1#L
 g22:PIn K c.Code
 u43:0#K 11#c.Code "signs"=1#L
 z22:PIn K c.Strong
 g43:0#K 11#c.Strong "parts"=1#L
 q22:PIn K c.Link
 z43:0#K 11#c.Link "words"=1#L
 q43:0#K 11#c.Link "name"=1#L
 u23:PIn K c.Mark
 u44:0#K 11#c.Mark "name"=1#L
 g23:PIn K c.Heading
 g44:0#K 11#c.Heading "level"=1#L
 z44:0#K 11#c.Heading "parts"=1#L
 z23:PIn K c.Para
 q44:0#K 11#c.Para "parts"=1#L
 q23:PIn K c.Literal
 u45:0#K 11#c.Literal "lines"=1#L
 u24:PIn K c.Quote
 g45:0#K 11#c.Quote "blocks"=1#L
 z24:PIn K c.Naming
 z45:0#K 11#c.Naming "name"=1#L
 q45:0#K 11#c.Naming "target"=1#L
 q24:PIn K c.Noting
 u46:0#K 11#c.Noting "name"=1#L
 g46:0#K 11#c.Noting "parts"=1#L
 u25:PIn K c.Entry
 z46:0#K 11#c.Entry "sign"=1#L
 q46:0#K 11#c.Entry "parts"=1#L
 u47:0#K 11#c.Entry "entries"=1#L
 g25:PIn K c.Listing
 g47:0#K 11#c.Listing "entries"=1#L
 z25:PIn K c.Table
 z47:0#K 11#c.Table "head"=1#L
 q47:0#K 11#c.Table "sides"=1#L
 u48:0#K 11#c.Table "lines"=1#L
 q25:PIn K c.Document
 g48:0#K 11#c.Document "blocks"=1#L
 z48:0#N 11#c.Plain 11#c.Plain=5#J
 q48:0#N 11#c.Plain 3#N=2#p
 u49:0#N 11#c.Code 11#c.Plain=2#p
 g49:0#N 11#c.Code 3#N=2#p
 z49:0#N 11#c.Strong 11#c.Plain=2#p
 q49:0#N 11#c.Strong 3#N=2#p
 u50:0#N 11#c.Link 11#c.Plain=2#p
 g50:0#N 11#c.Link 3#N=2#p
 z50:0#N 11#c.Mark 11#c.Plain=2#p
 q50:0#N 11#c.Mark 3#N=2#p
 u51:9#y c.Document "__init__" "Document.__init__" kD
 g51:9#y c.Document "told" "Document.told" kE
 z51:9#y c.Plain "__init__" "Plain.__init__" f9
 q51:9#y c.Plain "told" "Plain.told" gb
 u52:9#y c.Code "__init__" "Code.__init__" ie
 g52:9#y c.Code "told" "Code.told" ij
 z52:9#y c.Strong "__init__" "Strong.__init__" eT
 q52:9#y c.Strong "told" "Strong.told" eU
 u53:9#y c.Link "__init__" "Link.__init__" ig
 g53:9#y c.Link "told" "Link.told" ik
 z53:9#y c.Mark "__init__" "Mark.__init__" ii
 q53:9#y c.Mark "told" "Mark.told" il
 u54:9#y c.Heading "__init__" "Heading.__init__" dL
 g54:9#y c.Heading "told" "Heading.told" dO
 z54:9#y c.Para "__init__" "Para.__init__" iC
 q54:9#y c.Para "told" "Para.told" iD
 u55:9#y c.Literal "__init__" "Literal.__init__" dM
 g55:9#y c.Literal "told" "Literal.told" dQ
 z55:9#y c.Quote "__init__" "Quote.__init__" gf
 q55:9#y c.Quote "told" "Quote.told" gi
 u56:9#y c.Naming "__init__" "Naming.__init__" fg
 g56:9#y c.Naming "told" "Naming.told" fj
 z56:9#y c.Noting "__init__" "Noting.__init__" fh
 q56:9#y c.Noting "told" "Noting.told" fk
 u57:9#y c.Entry "__init__" "Entry.__init__" gg
 g57:9#y c.Entry "told" "Entry.told" gj
 z57:9#y c.Listing "__init__" "Listing.__init__" dN
 q57:9#y c.Listing "told" "Listing.told" dR
 u58:9#y c.Table "__init__" "Table.__init__" gh
 g58:9#y c.Table "told" "Table.told" gk
structure Top (K:Frag):Prop where
 u38:2#r "told_parts" rY
 z58:2#r "is_parting_bar" sBar
 q58:2#r "words_of" rZ
 u59:2#r "tidy" yF
 g59:2#r "split_cells" r6
 z59:2#r "is_name" yH
 q59:2#r "name_of" nh
 u60:2#r "rest_of_quote" yJ
 g60:2#r "heading_level" yL
 z60:2#r "is_cells" sIsC
 q60:2#r "definition_of" sDef
 u61:2#r "item_or_plain" yN
 g61:2#r "sort_of" yP
 z61:2#r "is_rule" yS
 q61:2#r "takes_next" sx
 u62:2#r "freed" sD
 g62:2#r "closings_of" ix
 z62:2#r "code_at" nv
 q62:2#r "mark_at" nw
 u63:2#r "link_at" ny
 g63:2#r "piece_at" ke
 z63:2#r "pieces_of" nA
 q63:2#r "merged" kf
 u64:2#r "with_strong" gH
 g64:2#r "parts_of" kg
 z64:2#r "own_cells" sOwn
 g38:2#r "told_entries" nG
 q64:2#r "told_cells" sX
 u65:2#r "is_empty" tq
 g65:2#r "sort_at" nK
 z65:2#r "further_words" ku
 z18:2#r "para_at" zg
 q18:2#r "note_at" zh
 u19:2#r "literal_at" zi
 g19:2#r "quote_at" nO
 z19:2#r "blocks_of" zj
 q13:2#r "entries_from" sEnt
 q65:2#r "leveled" sLvl
 q19:2#r "list_at" tK
 u66:2#r "cells_of" kC
 u20:2#r "table_of" tL
 g20:2#r "table_at" nQ
 z20:2#r "block_at" zk
 g66:2#r "need_text" tM
 z66:2#r "rows_of" nR
 q66:2#r "read" tP
 f__law_cell_at:2#r "_law_cell_at" nW
 f__law_mixed:2#r "_law_mixed" mx
 f__law_word:2#r "_law_word" zx
 f__law_name:2#r "_law_name" uf
 f__law_parts:2#r "_law_parts" n0
 f__law_broken:2#r "_law_broken" n5
 f__law_entries:2#r "_law_entries" um
 f__law_list:2#r "_law_list" ur
 f__law_table:2#r "_law_table" zD
 f__law_literal:2#r "_law_literal" zG
 f__law_quote:2#r "_law_quote" og
 f__law_block:2#r "_law_block" n9
 f__law_needs_gap:2#r "_law_needs_gap" sGap
 f__law_blocks:2#r "_law_blocks" uA
 f__law_refused:2#r "_law_refused" zJ
 f__law_read:2#r "_law_read" pR
 u67:2#r "law" gv
 g10:0#o "list"=1#L
 u10:0#o "len"=1#L
 u11:0#o "isinstance"=1#L
 g12:0#o "all"=1#L
 g11:0#o "str"=1#L
 u14:0#o "tuple"=1#L
 q10:0#o "range"=1#L
 u13:0#o "int"=1#L
 z12:0#o "enumerate"=1#L
 q20:0#o "bool"=1#L
 q11:0#o "min"=1#L
 u12:0#o "max"=1#L
 g16:0#o "sum"=1#L
 z16:0#o "ValueError"=1#L
 g13:∃v,0#o "NAME_SIGNS"=0#bQ/\∃t,v = .str (0#fF) t
 z11:∃v,0#o "LONGEST_NAME"=0#bQ/\∃t,v = .int 12 t
 z13:∃v,0#o "FENCE"=0#bQ/\∃t,v = .str (S 3#m) t
 u18:∃v,0#o "DEEPEST_HEADING"=0#bQ/\∃t,v = .int 3 t
 z14:∃v,0#o "NAME_END"=0#bQ/\∃t,v = .str (S 7#p) t
 u15:∃v,0#o "TAKEN"=0#bQ/\∃t,v = .str (S takenC) t
 q15:∃v,0#o "MOST_QUOTES"=0#bQ/\∃t,v = .int 4 t
 u16:∃v,0#o "MOST_ENTRIES"=0#bQ/\∃t,v = .int 6 t
 cl:∃c:Addrs,ClsT K c
def all_law {P:1#E}{w:World}{K:Frag}{h:Heap}{mg:Str->0#B}{fa:Addr}(X:K.In h)(G:h.Ns 8#e mg)(hfa:mg "law"=some 11#fa)(t:Top K):
  ∃fd:9#I,(∀(s:Shared) (v:Value),BindsTo s fd ⟨[v],[]⟩ [("_law_script",v)])/\∀base:Heap,K.In base->base.Ns 8#e mg->0#b 51 fa fd ["_law_script"] (spLaw13 K):=by
 obtain⟨z,L⟩:=t.cl
 let cp:Cp:=⟨0,z.Plain,z.Code,z.Strong,z.Link,z.Mark⟩
 let c:Cb:=⟨cp,z.Heading,z.Para,z.Literal,z.Quote,z.Naming,z.Noting,z.Entry,z.Listing,z.Table⟩
 have g10:=3#A t.g10;have u10:=3#A t.u10;have u11:=3#A t.u11;have g12:=3#A t.g12;have g11:=3#A t.g11;have u14:=3#A t.u14;have q10:=3#A t.q10;have u13:=3#A t.u13;have z12:=3#A t.z12;have q20:=3#A t.q20;have q11:=3#A t.q11;have u12:=3#A t.u12;have g16:=3#A t.g16;have z16:=3#A t.z16;have g13:∃t,mg "NAME_SIGNS"=some 134#(0#fF):=by obtain⟨v,e,k,rfl⟩:=t.g13;exact 8#k
 have z11:∃t,mg "LONGEST_NAME"=some 123#12:=by obtain⟨v,e,k,rfl⟩:=t.z11;exact 8#k
 have z13:∃t,mg "FENCE"=some 134#(S 3#m):=by obtain⟨v,e,k,rfl⟩:=t.z13;exact 8#k
 have u18:∃t,mg "DEEPEST_HEADING"=some 123#3:=by obtain⟨v,e,k,rfl⟩:=t.u18;exact 8#k
 have z14:∃t,mg "NAME_END"=some 134#(S 7#p):=by obtain⟨v,e,k,rfl⟩:=t.z14;exact 8#k
 have u15:∃t,mg "TAKEN"=some 134#(S takenC):=by obtain⟨v,e,k,rfl⟩:=t.u15;exact 8#k
 have q15:∃t,mg "MOST_QUOTES"=some 123#4:=by obtain⟨v,e,k,rfl⟩:=t.q15;exact 8#k
 have u16:∃t,mg "MOST_ENTRIES"=some 123#6:=by obtain⟨v,e,k,rfl⟩:=t.u16;exact 8#k
 have q12:=2#G L.q12;have g14:=2#G L.g14;have q16:=2#G L.q16;have u17:=2#G L.u17;have g17:=2#G L.g17;have z17:=2#G L.z17;have q14:=2#G L.q14;have g27:=2#G L.g27;have z27:=2#G L.z27;have q27:=2#G L.q27;have u28:=2#G L.u28;have g28:=2#G L.g28;have z28:=2#G L.z28;have q28:=2#G L.q28;have u29:=2#G L.u29;have g29:=2#G L.g29;have z29:=2#G L.z29;have q29:=2#G L.q29;have u30:=2#G L.u30;have g30:=2#G L.g30;have z30:=2#G L.z30;have T : TxP K mg cp z.BadName := {
  g10:=g10
  u10:=u10
  u11:=u11
  g12:=g12
  g11:=g11
  u14:=u14
  g13:=g13
  z11:=z11
  q12:=q12
  u26:=L.u26
  q14:=q14
  g26:=L.u22.inst
  z26:=L.g22.inst
  q26:=L.z22.inst
  g18:=L.q22.inst
  u27:=L.u23.inst
  q30:=L.q42
  u31:=L.u43
  g31:=L.g43
  z31:=L.z43
  q31:=L.q43
  u32:=L.u44
  g67:=L.z48
  z67:=L.u49
  q67:=L.z49
  u68:=L.u50
  g68:=L.z50
 }
 have TI:TxI K mg cp z.BadName:={ T with u15:=u15,z38:=L.q48,q38:=L.g49,u39:=L.q49,g39:=L.g50,z39:=L.q50 };have TB:TxB K mg c z.BadName:={ TI with z13:=z13,z12:=z12,u21:=L.g23.inst,g32:=L.z23.inst,z32:=L.q23.inst,q32:=L.u24.inst,g21:=L.z24.inst,z21:=L.q24.inst,g15:=L.u25.inst,u33:=L.g25.inst,z15:=L.z25.inst,g33:=L.g44,z33:=L.z44,q33:=L.q44,u34:=L.u45,g34:=L.g45,z34:=L.z45,q34:=L.q45,u35:=L.u46,g35:=L.g46,z35:=L.z46,q35:=L.q46,u36:=L.u47,z36:=L.g47,q36:=L.z47,u37:=L.q47,g37:=L.u48 };have TD:TxD K mg c z.BadName:={ TB with q15:=q15,u16:=u16,q11:=q11,u12:=u12 };have TF:TxF K mg c z.Document z.BadName:={ TD with z37:=L.q25.inst,q37:=L.g48 };have TR:TxR K mg z.BadText:=⟨u11,g11,g14,L.q21⟩;have TXX:TxX K mg z.BadText z.MarkError z.BadName z.BadTree z.BadWidth z.OutOfPlace:={ TR with z16:=z16,q16:=q16,q12:=q12,u17:=u17,g17:=g17,z17:=z17,q39:=L.g41,q17:=L.q17,u40:=L.z41,g40:=L.q41,z40:=L.u42,q40:=L.g42,u41:=L.z42 };have TX:Tx mg:=⟨u10,q10,u11,g12,g11,q20,u14,z12,u13,g10,g13,z11,z13,u18,z14⟩;obtain⟨f,oc,od,kV,dc,pm,an,cd,ct,sl,a,l,cc,kp⟩:=t.u67.ex;have e:=hfa.symm.trans (2#G a);cases e;refine⟨fnOf "law" "law" (bM gv) (bD gv) 55#gv .none kV dc pm an cd ct,λs v => .of_eq rfl,λbase _ _=>?_⟩;have g:Gd P w K h mg base:=⟨X,G⟩;have DO:=1#O t.z64 λf fd F=>Ba F TB;have DN:0#Q "Plain" cp.Plain p18 141#cp.Plain:=cH q14 L.u22.mkc L.u22.kc L.z51 2#d λf fd F=>lM F T;have DX:0#Q "Code" cp.Code p18 141#cp.Code:=cH g27 L.g22.mkc L.g22.kc L.u52 2#d λf fd F=>mZ F T;have Yg:0#Q "Strong" cp.Strong p19 (spInitS cp.Strong):=cH z27 L.z22.mkc L.z22.kc L.z52 2#d λf fd F=>jR F T;have DZ:0#Q "Link" cp.Link p24 (spInit2 cp.Link "words" "name"):=cH q27 L.q22.mkc L.q22.kc L.u53 6#j λf fd F=>m6 F T;have DY:0#Q "Mark" cp.Mark p23 (spInit1 cp.Mark "name"):=cH u28 L.u23.mkc L.u23.kc L.z53 2#d λf fd F=>m5 F T;have DA:0#Q "Heading" c.Heading p26 8#H:=cH g28 L.g23.mkc L.g23.kc L.u54 6#j λf fd F=>iW F TB;have Dt:0#Q "Para" c.Para p19 0#cy:=cH z28 L.z23.mkc L.z23.kc L.z54 2#d λf fd F=>nC F TB;have Dv:0#Q "Literal" c.Literal p22 0#be:=cH q28 L.q23.mkc L.q23.kc L.u55 2#d λf fd F=>iU F TB;have DG:0#Q "Quote" c.Quote p20 129#c.Quote:=cH u29 L.u24.mkc L.u24.kc L.z55 2#d λf fd F=>ma F TB;have DB:0#Q "Naming" c.Naming p28 9#e:=cH g29 L.z24.mkc L.z24.kc L.u56 6#j λf fd F=>ki F TB;have Du:0#Q "Noting" c.Noting p27 9#f:=cH z29 L.q24.mkc L.q24.kc L.z56 6#j λf fd F=>kh F TB;have Do:0#Q "Entry" c.Entry p29 (spInitE c.Entry):=cH q29 L.u25.mkc L.u25.kc L.u57 (λ_ _ _ _ _ _=>b4 λ_ _ _ _=>rfl) λf fd F=>md F TB;have Dy:0#Q "Listing" c.Listing p25 0#aB:=cH u30 L.g25.mkc L.g25.kc L.z57 2#d λf fd F=>iV F TB;have Dr:New P w K mg base 2 "Table" c.Table p30 (spInitT c.Table):=cH g30 L.z25.mkc L.z25.kc L.u58 (λ_ _ _ _ _ _=>b4 λ_ _ _ _=>rfl) λf fd F=>me F TB DO;have V_Plain:4#A 1 cp.Plain "told" 1#D (spTold cp λp=>∃s,p = .one (.plain s)):=bR L.u22.cls L.q51 1#h λf fd F=>lN F T;have V_Code:4#A 1 cp.Code "told" 1#D (spTold cp λp=>∃s,p = .one (.code s)):=bR L.g22.cls L.g52 1#h λf fd F=>m9 F T;have V_Mark:4#A 1 cp.Mark "told" 1#D (spTold cp λp=>∃s,p = .one (.note s)):=bR L.u23.cls L.q53 1#h λf fd F=>nc F T;have V_Link:4#A 1 cp.Link "told" 1#D (spTold cp λp=>∃s n,p = .one (.link s n)):=bR L.q22.cls L.g53 1#h λf fd F=>ng F T;have W1:∀{k:Nat},1<=k->∀(p:P1) H a,PCAt cp H a (.one p)->∃C dx fs sp,H a=0#fl/\fs.lookup ("told":Str)=none/\MethV P w K mg base k C "told" 1#D sp/\∀Q E,(∀v H',0#T->Dn 86#H' v (dP (.one p))->Q v H')->sp 9#A H Q E:=λ{k} hk p H a h=>by
  cases p with
  |plain s=>
   obtain⟨_,dx,e⟩:=id h;exact⟨_,dx,_,_,e,rfl,V_Plain.mono hk,λQ E g=>⟨a,_,rfl,h,24#s,g⟩⟩
  |code s=>
   obtain⟨_,dx,e⟩:=id h;exact⟨_,dx,_,_,e,rfl,V_Code.mono hk,λQ E g=>⟨a,_,rfl,h,24#s,g⟩⟩
  |link s n=>
   obtain⟨_,_,dx,e⟩:=id h;exact⟨_,dx,_,_,e,rfl,V_Link.mono hk,λQ E g=>⟨a,_,rfl,h,⟨s,n,rfl⟩,g⟩⟩
  |note s=>
   obtain⟨_,dx,e⟩:=id h;exact⟨_,dx,_,_,e,rfl,V_Mark.mono hk,λQ E g=>⟨a,_,rfl,h,24#s,g⟩⟩
 have M1:yC P w K mg base 1 cp R1:=λp hp H a h=>by
  cases p with
  |one p=>exact W1 (l9 1) p H a h
  |strong ps=>exact 0#A hp (by unfold R1;simp[one?])
 have YC:=1#O t.u38 λf fd F=>oM F M1;have V_Strong:4#A 3 cp.Strong "told" 1#D (spTold cp λp=>∃ps,p = .strong ps/\2#x<=100000):=bR L.z22.cls L.q52 1#h λf fd F=>jS F T YC;have M2:yC P w K mg base 3 cp R2:=λp hp H a h=>by
  cases p with
  |one p=>exact W1 ∅ p H a h
  |strong ps=>
   obtain⟨dx,l,as,e,_⟩:=id h;exact⟨_,dx,_,_,e,rfl,V_Strong,λQ E g=>⟨a,_,rfl,h,⟨ps,rfl,hp⟩,g⟩⟩
 have Dd:=1#O t.u38 λf fd F=>oM F M2;have DE:=1#O t.z58 λf fd F=>AV F;have DD:=1#O t.q58 λf fd F=>vD F;have Df:=1#O t.u59 λf fd F=>yG F DD;have DU:=1#O t.g59 λf fd F=>vE F TX DE Df;have Dg:=1#O t.z59 λf fd F=>yI F TX;have Dk:=1#O t.q59 λf fd F=>r9 F TX Dg;have DR:=1#O t.u60 λf fd F=>yK F;have DS:=1#O t.g60 λf fd F=>yM F TX;have DT:=1#O t.z60 λf fd F=>AW F TX DE;have DV:=1#O t.q60 λf fd F=>AX F TX DD Dg Dk;have DW:=1#O t.u61 λf fd F=>yO F TX Df;have Dh:=1#O t.g61 λf fd F=>yQ F TX Df DR DS DT DU DV DW;have Dz:=1#O t.z61 λf fd F=>yT F;have DP:=1#O t.q64 λf fd F=>vO (c:=c) F Dd;have I_te:∀n:Nat,0#c (2+6 * n) "told_entries" 0#eD (spTEs c n):=λn=>by
  induction n with
  |zero=>exact dOf g t.g38 λf fd F=>mf F (k:=1) 2#B
  |succ n ih=>
   have V:=bR (P:=P) (w:=w) (mg:=mg) (base:=base) L.u25.cls L.g57 1#h λf fd F=>mh F TB Dd ih;have M:5#b (2+6 * n+5) "told" (EAt c (n+1)) (OkE (n+1)) (tellsB (dE (n+1))):=λb hb H a h=>by
    obtain⟨dx,l,m,e,_⟩:=id h;exact⟨_,dx,_,_,e,rfl,V,λQ E g=>⟨a,b,rfl,h,hb,λv H' s d=>g v H' ⟨s,d⟩⟩⟩
   exact dOf g t.g38 λf fd F=>mf F M
 have TS:∀{β:Type} (R:Hp->Addr->β->Prop) (fB:β->PyData) (ok:β->Prop) (k:Nat),MoR R->39<=k->5#b k "told" R ok (tellsB fB)->5#b (k+1) "told" (BAtF c R) (OkBF ok) (tellsB (dBF fB)):=λ{β} R fB ok k mR hk hM b hb H a h=>by
  cases b with
  |heading n ps=>
   show 45;exact⟨_,dx,_,_,e,rfl,(bR (P:=P) (w:=w) (mg:=mg) (base:=base) L.g23.cls L.g54 1#h λf fd F=>iX (R:=R) (fB:=fB) (ok:=ok) F TB Dd).mono nofun,λQ E g=>⟨a,_,rfl,h,⟨n,ps,rfl⟩,hb,λv H' s d=>g v H' ⟨s,d⟩⟩⟩
  |para ps=>
   show 45;exact⟨_,dx,_,_,e,rfl,(bR (P:=P) (w:=w) (mg:=mg) (base:=base) L.z23.cls L.q54 1#h λf fd F=>nF (R:=R) (fB:=fB) (ok:=ok) F TB Dd).mono nofun,λQ E g=>⟨a,_,rfl,h,24#ps,hb,λv H' s d=>g v H' ⟨s,d⟩⟩⟩
  |lst es=>
   show 45;exact⟨_,dx,_,_,e,rfl,(bR (P:=P) (w:=w) (mg:=mg) (base:=base) L.g25.cls L.q57 1#h λf fd F=>iZ (R:=R) (fB:=fB) (ok:=ok) F TB (I_te 6)).mono nofun,λQ E g=>⟨a,_,rfl,h,24#es,hb,λv H' s d=>g v H' ⟨s,d⟩⟩⟩
  |table hd sd ls=>
   obtain⟨dx,l1,l2,l3,e,_⟩:=id h;exact⟨_,dx,_,_,e,rfl,(bR (P:=P) (w:=w) (mg:=mg) (base:=base) L.z25.cls L.g58 1#h λf fd F=>ml (R:=R) (fB:=fB) (ok:=ok) F TB DP).mono nofun,λQ E g=>⟨a,_,rfl,h,⟨hd,sd,ls,rfl⟩,hb,λv H' s d=>g v H' ⟨s,d⟩⟩⟩
  |lit ls=>
   show 45;exact⟨_,dx,_,_,e,rfl,(bR (P:=P) (w:=w) (mg:=mg) (base:=base) L.q23.cls L.g55 1#h λf fd F=>iY (R:=R) (fB:=fB) (ok:=ok) F TB).mono nofun,λQ E g=>⟨a,_,rfl,h,24#ls,hb,λv H' s d=>g v H' ⟨s,d⟩⟩⟩
  |quote bs=>
   show 45;exact⟨_,dx,_,_,e,rfl,(bR (P:=P) (w:=w) (mg:=mg) (base:=base) L.u24.cls L.q55 1#h λf fd F=>mj F TB hM mR).mono nofun,λQ E g=>⟨a,_,rfl,h,24#bs,hb,λv H' s d=>g v H' ⟨s,d⟩⟩⟩
  |name n t=>
   obtain⟨dx,e⟩:=id h;exact⟨_,dx,_,_,e,rfl,(bR (P:=P) (w:=w) (mg:=mg) (base:=base) L.z24.cls L.g56 1#h λf fd F=>kl (R:=R) (fB:=fB) (ok:=ok) F TB).mono nofun,λQ E g=>⟨a,_,rfl,h,⟨n,t,rfl⟩,hb,λv H' s d=>g v H' ⟨s,d⟩⟩⟩
  |note n ps=>
   show 45;exact⟨_,dx,_,_,e,rfl,(bR (P:=P) (w:=w) (mg:=mg) (base:=base) L.q24.cls L.q56 1#h λf fd F=>kj (R:=R) (fB:=fB) (ok:=ok) F TB Dd).mono nofun,λQ E g=>⟨a,_,rfl,h,⟨n,ps,rfl⟩,hb,λv H' s d=>g v H' ⟨s,d⟩⟩⟩
 have MT:∀n:Nat,5#b (40+n) "told" 156#n (OkB n) (tellsB (dB n)):=λn=>by
  induction n with
  |zero=>exact TS (λ_ _ (z:Empty)=>0#k) 2#B 2#B 39 (λ_ _ _ z=>0#k) ∅ 2#B
  |succ n ih=>exact TS 156#n (dB n) (OkB n) (40+n) (dJ n) nofun ih
 have Dm:=1#O t.q61 λf fd F=>vI F TI;have Ya:=1#O t.u62 λf fd F=>vL F TI Dm;have Ye:=1#O t.g62 λf fd F=>nr F TI Dm;have Yb:=1#O t.z62 λf fd F=>sM F TI DX;have Yc:=1#O t.q62 λf fd F=>sN F TI DY Dg Dk;have Yd:=1#O t.u63 λf fd F=>sP F TI DZ Ya Dg Dk;have Yf:=1#O t.g63 λf fd F=>qz F TI Dm Yb Yc Yd;have Yh:=1#O t.z63 λf fd F=>sQ F TI Ye Yf;have DF:=1#O t.q63 λf fd F=>sR F TI DN;have Yi:=1#O t.u64 λf fd F=>qA F TI Yg DF;have Db:=1#O t.g64 λf fd F=>qB F TI Yh Yi DF;have Dw:=1#O t.u65 λf fd F=>vP F Dh;have Da:=1#O t.g65 λf fd F=>tz F TD Dh Df;have De:=1#O t.z65 λf fd F=>qH F TD Da;have Dp:=1#O t.u66 λf fd F=>qI F TD Db;have YD:0#c 6 "entries_from" p32 spNo:=0#fD λf fd F=>wE;have E0:=0#fD λf fd F=>iJ (k:=6) (n:=0) ∅ ∅ (λj e=>7#t) F TD YD Db Do;have E1:=0#fD λf fd F=>iJ (k:=7) (n:=1) ∅ ∅ (λj e _ _ _ _ h=>by cases e;exact h) F TD E0 Db Do;have E2:=0#fD λf fd F=>iJ (k:=8) (n:=2) ∅ ∅ (λj e _ _ _ _ h=>by cases e;exact h) F TD E1 Db Do;have E3:=0#fD λf fd F=>iJ (k:=9) (n:=3) ∅ ∅ (λj e _ _ _ _ h=>by cases e;exact h) F TD E2 Db Do;have E4:=0#fD λf fd F=>iJ (k:=10) (n:=4) ∅ ∅ (λj e _ _ _ _ h=>by cases e;exact h) F TD E3 Db Do;have E5:=0#fD λf fd F=>iJ (k:=11) (n:=5) ∅ ∅ (λj e _ _ _ _ h=>by cases e;exact h) F TD E4 Db Do;have E6:=0#fD λf fd F=>iJ (k:=12) (n:=6) ∅ ∅ (λj e _ _ _ _ h=>by cases e;exact h) F TD E5 Db Do;have Dx:=1#O t.q65 λf fd F=>Be F TD;have N0:=1#O t.q18 λf fd F=>iG oh F TD Da De Db Du;have Li0:=1#O t.u19 λf fd F=>iH oh F TD Dh Dv;have To0:=1#O t.u20 λf fd F=>fR (R:=RE) F TD Dz Dp Dr;have Ta0:=1#O t.g20 λf fd F=>dU oh F TD Da To0;have Ls0:=1#O t.q19 λf fd F=>fQ (k:=13) ∅ oh F TD Da De Dx E6 Dy;have Pa0:=1#O t.z18 λf fd F=>iF oh F TD Da Db Dt;have Q0:0#c 20 "quote_at" p15 spNo:=1#O t.g19 λf fd F=>wE;have Bk0:=1#O t.z20 λf fd F=>iL (k:=20) (d:=4) (inn:=λ_=>([]:List Empty)) ∅ oh F TD Da Db DA DB N0 Li0 Q0 (λh=>0#A h ∅) Ta0 (eI Ls0) Pa0;have Bs0:=1#O t.z19 λf fd F=>iI (k:=21) (d:=4) (rdb:=rd 0) ∅ oh 145#0 F TD Dw Bk0;have a2:=dJ (c:=c) 0;have N1:=1#O t.q18 λf fd F=>iG a2 F TD Da De Db Du;have Li1:=1#O t.u19 λf fd F=>iH a2 F TD Dh Dv;have To1:=1#O t.u20 λf fd F=>fR (R:=156#0) F TD Dz Dp Dr;have Ta1:=1#O t.g20 λf fd F=>dU a2 F TD Da To1;have Ls1:=1#O t.q19 λf fd F=>fQ (k:=13) ∅ a2 F TD Da De Dx E6 Dy;have Pa1:=1#O t.z18 λf fd F=>iF a2 F TD Da Db Dt;have Q1:=1#O t.g19 λf fd F=>fP (k:=22) (d:=3) ∅ a2 F TD Da Bs0 DG;have Bk1:=1#O t.z20 λf fd F=>iL (k:=23) (d:=3) (inn:=λxs=>(blkR (rd 0) xs.length 0 xs).map λx:Bl 0×Nat×Nat=>x.1) ∅ a2 F TD Da Db DA DB N1 Li1 Q1 3#I Ta1 (eI Ls1) Pa1;have Bs1:=1#O t.z19 λf fd F=>iI (k:=24) (d:=3) (rdb:=rd 1) ∅ a2 145#1 F TD Dw Bk1;have a4:=dJ (c:=c) 1;have N2:=1#O t.q18 λf fd F=>iG a4 F TD Da De Db Du;have Li2:=1#O t.u19 λf fd F=>iH a4 F TD Dh Dv;have To2:=1#O t.u20 λf fd F=>fR (R:=156#1) F TD Dz Dp Dr;have Ta2:=1#O t.g20 λf fd F=>dU a4 F TD Da To2;have Ls2:=1#O t.q19 λf fd F=>fQ (k:=13) ∅ a4 F TD Da De Dx E6 Dy;have Pa2:=1#O t.z18 λf fd F=>iF a4 F TD Da Db Dt;have Q2:=1#O t.g19 λf fd F=>fP (k:=25) (d:=2) ∅ a4 F TD Da Bs1 DG;have Bk2:=1#O t.z20 λf fd F=>iL (k:=26) (d:=2) (inn:=λxs=>(blkR (rd 1) xs.length 0 xs).map λx:Bl 1×Nat×Nat=>x.1) ∅ a4 F TD Da Db DA DB N2 Li2 Q2 3#I Ta2 (eI Ls2) Pa2;have Bs2:=1#O t.z19 λf fd F=>iI (k:=27) (d:=2) (rdb:=rd 2) ∅ a4 145#2 F TD Dw Bk2;have a1:=dJ (c:=c) 2;have N3:=1#O t.q18 λf fd F=>iG a1 F TD Da De Db Du;have Li3:=1#O t.u19 λf fd F=>iH a1 F TD Dh Dv;have To3:=1#O t.u20 λf fd F=>fR (R:=156#2) F TD Dz Dp Dr;have Ta3:=1#O t.g20 λf fd F=>dU a1 F TD Da To3;have Ls3:=1#O t.q19 λf fd F=>fQ (k:=13) ∅ a1 F TD Da De Dx E6 Dy;have Pa3:=1#O t.z18 λf fd F=>iF a1 F TD Da Db Dt;have Q3:=1#O t.g19 λf fd F=>fP (k:=28) (d:=1) ∅ a1 F TD Da Bs2 DG;have Bk3:=1#O t.z20 λf fd F=>iL (k:=29) (d:=1) (inn:=λxs=>(blkR (rd 2) xs.length 0 xs).map λx:Bl 2×Nat×Nat=>x.1) ∅ a1 F TD Da Db DA DB N3 Li3 Q3 3#I Ta3 (eI Ls3) Pa3;have Bs3:=1#O t.z19 λf fd F=>iI (k:=30) (d:=1) (rdb:=rd 3) ∅ a1 145#3 F TD Dw Bk3;have a3:=dJ (c:=c) 3;have N4:=1#O t.q18 λf fd F=>iG a3 F TD Da De Db Du;have Li4:=1#O t.u19 λf fd F=>iH a3 F TD Dh Dv;have To4:=1#O t.u20 λf fd F=>fR (R:=156#3) F TD Dz Dp Dr;have Ta4:=1#O t.g20 λf fd F=>dU a3 F TD Da To4;have Ls4:=1#O t.q19 λf fd F=>fQ (k:=13) ∅ a3 F TD Da De Dx E6 Dy;have Pa4:=1#O t.z18 λf fd F=>iF a3 F TD Da Db Dt;have Q4:=1#O t.g19 λf fd F=>fP (k:=31) (d:=0) ∅ a3 F TD Da Bs3 DG;have Bk4:=1#O t.z20 λf fd F=>iL (k:=32) (d:=0) (inn:=λxs=>(blkR (rd 3) xs.length 0 xs).map λx:Bl 3×Nat×Nat=>x.1) ∅ a3 F TD Da Db DA DB N4 Li4 Q4 3#I Ta4 (eI Ls4) Pa4;have Bs4:=1#O t.z19 λf fd F=>iI (k:=33) (d:=0) (rdb:=rd 4) ∅ a3 145#4 F TD Dw Bk4;have Yl:=dOR g t.g66 λf fd F=>vW F TR;have Ym:=1#O t.z66 λf fd F=>tO F;have Yn:0#Q "Document" z.Document p20 129#z.Document:=cH z30 L.q25.mkc L.q25.kc L.u51 2#d λf fd F=>qJ F TF;have V_Doc:4#A 45 z.Document "told" 1#D (spDocTold z.Document 156#4 (dB 4) (OkB 4)):=bR L.q25.cls L.g51 1#h λf fd F=>qK F TF (MT 4) (dJ 4);have DL:=dOR g t.q66 λf fd F=>vX (k:=44) ∅ (dJ 4) F TF Yl Ym (eI Bs4) Yn;have DC:=1#O t.f__law_cell_at λf fd F=>tW F TX;have Dc:=1#O t.f__law_mixed λf fd F=>wb F;have YE:=1#O t.f__law_mixed λf fd F=>zw F;have DQ:=1#O t.f__law_mixed λf fd F=>zI F;have TL:TxL mg:={ TX with q11:=q11,u12:=u12,g16:=g16 };have Di:=1#O t.f__law_word λf fd F=>zy F TL YE;have Dq:=1#O t.f__law_name λf fd F=>wq F TL Di;have Dj:=1#O t.f__law_parts λf fd F=>uh F TL Dc Di Dq;have Dl:=1#O t.f__law_broken λf fd F=>uk F TL Dc;have YF:0#c 2 "_law_entries" p33 spNo:=4#n λf fd F=>wE;have LE0:=4#n λf fd F=>df (k:=2) (n:=0) ∅ ∅ (λj e=>7#t) F TL YF;have LE1:=4#n λf fd F=>df (k:=3) (n:=1) ∅ ∅ (λj e _ _ _ _ h=>by cases e;exact h) F TL LE0;have LE2:=4#n λf fd F=>df (k:=4) (n:=2) ∅ ∅ (λj e _ _ _ _ h=>by cases e;exact h) F TL LE1;have LE3:=4#n λf fd F=>df (k:=5) (n:=3) ∅ ∅ (λj e _ _ _ _ h=>by cases e;exact h) F TL LE2;have LE4:=4#n λf fd F=>df (k:=6) (n:=4) ∅ ∅ (λj e _ _ _ _ h=>by cases e;exact h) F TL LE3;have LE5:=4#n λf fd F=>df (k:=7) (n:=5) ∅ ∅ (λj e _ _ _ _ h=>by cases e;exact h) F TL LE4;have LE6:=4#n λf fd F=>df (k:=8) (n:=6) ∅ ∅ (λj e _ _ _ _ h=>by cases e;exact h) F TL LE5;have DH:=1#O t.f__law_list λf fd F=>wt F TL Dc Dj Dl LE6;have DI:=1#O t.f__law_table λf fd F=>zE F TL Dc Dj;have DJ:=1#O t.f__law_literal λf fd F=>zH F TL Dc;have DK:=1#O t.f__law_needs_gap λf fd F=>Bt F;have LQ3:0#c 10 "_law_quote" p21 spNo:=0#cD λf fd F=>wE;have LB3:=0#cC λf fd F=>kK (k:=10) (d:=3) (m:=1400) (nb:=60) ∅ ∅ ∅ (λh=>0#A h ∅) F TL Dj Dq Di Dl DH DI DJ LQ3;have LS3:=0#bJ λf fd F=>gJ (k9:=11) ∅ ∅ ∅ ∅ F TL Dc LB3 DK;have LQ2:=0#cD λf fd F=>iP (k9:=12) (d:=2) (m:=1400) (nb:=60) (mq:=4986) (nbq:=190) ∅ ∅ ∅ ∅ ∅ ∅ F TL DQ LS3;have LB2:=0#cC λf fd F=>kK (k:=13) (d:=2) (m:=4986) (nb:=190) ∅ ∅ ∅ 3#I F TL Dj Dq Di Dl DH DI DJ LQ2;have LS2:=0#bJ λf fd F=>gJ (k9:=14) ∅ ∅ ∅ ∅ F TL Dc LB2 DK;have LQ1:=0#cD λf fd F=>iP (k9:=15) (d:=1) (m:=4986) (nb:=190) (mq:=9742) (nbq:=580) ∅ ∅ ∅ ∅ ∅ ∅ F TL DQ LS2;have LB1:=0#cC λf fd F=>kK (k:=16) (d:=1) (m:=9742) (nb:=580) ∅ ∅ ∅ 3#I F TL Dj Dq Di Dl DH DI DJ LQ1;have LS1:=0#bJ λf fd F=>gJ (k9:=17) ∅ ∅ ∅ ∅ F TL Dc LB1 DK;have LQ0:=0#cD λf fd F=>iP (k9:=18) (d:=0) (m:=9742) (nb:=580) (mq:=18008) (nbq:=1750) ∅ ∅ ∅ ∅ ∅ ∅ F TL DQ LS1;have LB0:=0#cC λf fd F=>kK (k:=19) (d:=0) (m:=18008) (nb:=1750) ∅ ∅ ∅ 3#I F TL Dj Dq Di Dl DH DI DJ LQ0;have LS0:=0#bJ λf fd F=>gJ (k9:=20) ∅ ∅ ∅ ∅ F TL Dc LB0 DK;have Yq:=1#O t.f__law_read λf fd F=>wB (k:=45) ∅ F TL DL V_Doc;have Yr:=1#O t.f__law_refused λf fd F=>zK F TXX DL;exact wD (k:=50) (kb:=50) (m:=18008) (nb:=1750) ∅ ∅ ∅ (lf (st:=gv) l cc kp) TL DC DQ (eI LS0) (eI Yq) (eI Yr) (eI Bs4) (zM (MT 4) ∅)
end K13
open PySem PySem.W PySem.W.X PySem.W.ZRun PyProof.Rows
theorem L2.true_law {c:PySem.W.ClaimW}{cl:PySem.Str->Option PySem.Addr}{mean:PySem.ExcName->Option PySem.Value}{args:List PySem.W.WData}{s₁ s':PySem.Shared}(hr:∀cls:PySem.ExcName,c.raises args cls=false)(hp:c.post args (.bool true) args=true)
  (h:OldK s₁.heap s'.heap/\s'.os=s₁.os/\PyProof.Rows.AllBare s'.gens):PySem.W.GoodWG c cl mean args s₁ (Except.ok (PySem.Flow.ret (.bool true))) s':=
 ⟨.inl ⟨_, .bool true,[],rfl,hr, .bool _,hp,λ_=>⟨.nil,λ_ z=>nomatch z⟩⟩,h⟩
set_option maxRecDepth 100000 in
set_option maxHeartbeats 0 in
theorem PySem.Challenge.cw_lightmark_k13_built_texts_holds : PySem.Challenge.rw_lightmark_k13_built_texts.Holds := by
 refine hd13.2 ⟨?_⟩
 conv=>whnf
 k_fill
 intro w s₀ s₁ mg mb G y fa o pm cd doc dV kV ho hd hcd hD hmg hg args vals as L hpre hlay hrd hwl hlo;have y:=Wy (Nat.le_of_ble_eq_true rfl) (Nat.le_of_ble_eq_true rfl) y
 z_open y L KX ZH ZN ZT
 refine Ground.open G ?_;intro T B D TE TW
 wrow_args hpre hlay hrd hwl hlo
 rename_i ns _ _ _ _ _ _ _ a vs _ hL _ _ _ hI _ w6 _;have htk:=script_toks L ZT;have hobj:=script_obj L hL;have t:K13.Top (L2.KOf KX):=by
  dsimp only[L2.KOf];constructor
  case u38|z58|q58|u59|g59|z59|q59|u60|g60|z60|q60|u61|g61|z61|q61|u62|g62|z62|q62|u63|g63|z63|q63|u64|g64|z64|g38|q64|u65|g65|z65|z18|q18|u19|g19|z19|q13|q65|q19|u66|u20|g20|z20|g66|z66|q66|f__law_cell_at|f__law_mixed|f__law_word|f__law_name|f__law_parts|f__law_broken|f__law_entries|f__law_list|f__law_table|f__law_literal|f__law_quote|f__law_block|f__law_needs_gap|f__law_blocks|f__law_refused|f__law_read|u67=>(refine' K13.fnIn_mk ?xa ?xl ?xc ?xk;(case xa|xl|xc|xk=>k_is))
  case g10|u10|u11|g12|g11|u14|q10|u13|z12|q20|q11|u12|g16|z16=>k_is
  case g13|z11|z13|u18|z14|u15|q15|u16=>(refine' K13.cst_mk ?xe ?xf;(case xe=>k_is);(case xf=>exact⟨_,rfl⟩))
  case cl=>
   apply Exists.intro;apply K13.ClsT.mk (c := .mk _ _ _ _ _ _ _ _ _ _ _ _ _ _ _ _ _ _ _ _ _)
   case q12|g14|q16|u17|g17|z17|q14|g27|z27|q27|u28|g28|z28|q28|u29|g29|z29|q29|u30|g30|z30=>k_is
   case u26|q21=>(refine' K13.ownx_VE ?yq;(case yq=>k_exc))
   case g41=>kts_exm
   case q17=>(refine' ⟨?y1,?y2,?y3,?y4,?y5,?y6,?y7⟩;(case y1|y2|y3|y4|y5|y6|y7=>k_is))
   case u22|g22|z22|q22|u23|g23|z23|q23|u24|z24|q24|u25|g25|z25|q25=>(refine' ⟨?z1,?z2,?z3,?z4,?z5,?z6,?z7,?z8,?z9,?z10⟩;(case z1|z2|z3|z4|z5|z6|z7|z8|z9|z10=>k_is))
   case q42|u43|g43|z43|q43|u44|g44|z44|q44|u45|g45|z45|q45|u46|g46|z46|q46|u47|g47|z47|q47|u48|g48=>k_is
   case z41|q41|u42|g42|z42|z48|q48|u49|g49|z49|q49|u50|g50|z50|q50=>kit_is
   case u51|g51|z51|q51|u52|g52|z52|q52|u53|g53|z53|q53|u54|g54|z54|q54|u55|g55|z55|q55|u56|g56|z56|q56|u57|g57|z57|q57|u58|g58=>(refine' K13.mIn_mk ?xa ?xi ?xl ?xc ?xk;(case xa|xi|xl|xc|xk=>k_is))
 obtain⟨fd,hb,hF⟩:=K13.all_law (P:=PySem.Challenge.rw_lightmark_k13_built_texts.row.prog) (w:=w) KX T.g hmg t;have hbits:∀n∈ns,intBits n<=1048576:=λn hn=>PySem.intBits_le_of_item hn (by assumption);refine wpAny_call (codeAny_mono (L2.law_call KX T.g T.b T.builtins T.nolimit hg (l32 ∅ htk) hobj hI (Lw.big nofun) ⟨rfl,by decide,by decide⟩ hF hb (λH hO hS=>⟨a,ns,rfl,hS,λ_ _=>rfl⟩) λH e s' z=>z) λr s' q=>?_);obtain⟨rfl,q⟩:=q;exact L2.true_law (λ_=>rfl) (by with_unfolding_all rfl) q
