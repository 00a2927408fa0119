import PyProof.Rows.All
import KE.KItem
import KE.KTryMore
import KE.RegKIsAll
import KE.KNest
import KE.KFromBytes
import OpenK.ZGo
import KE.IntBitsLaws
import Wide.FinOn
import PySem.Challenge.RW_lightmark_k12_blocks_walked
set_option Elab.async false
set_option linter.all false
noncomputable section
namespace PySem.W.Fast
def tw5699749661251427665:=0
def tw12831851940072417670:=0
def tw4658801594886820954:=0
def tw2905052795225148562:=0
def tw10519412778392449835:=0
def tw10103702388131351633:=0
def tw2703733198273432083:=0
def tw16928007449451385560:=0
def tw3294591350485121931:=0
def tw12395258227249534707:=0
def tw3311179210505979434:=0
def tw14027595399349388029:=0
def tw9716367254989209768:=0
def tw567312146501459859:=0
def tw4286328784615440477:=0
def tw11541421153457934445:=0
def tw3575785800404470814:=0
def tw11343777799096312392:=0
def tw362379589479691722:=0
def tw18037040531320213069:=0
def tw17881107952534270936:=0
def tw17768024382972058614:=0
def tw193870888133077273:=0
def tw9430703521435059295:=0
def tw10848987413159458285:=0
def tw957526533106737895:=0
def tw7440679620452214393:=0
def tw18043402452452843682:=0
def tw10248062139099288451:=0
def tw817837124043646053:=0
def tw16849301771880029353:=0
def tw6298515507981014729:=0
def tw13905469314889563365:=0
def tw5902789701828974248:=0
def tw2164299310699756310:=0
def tw4748377025529705959:=0
def tw5950285564837504949:=0
def tw7295011471069888543:=0
def tw7751445167581073426:=0
def tw5466100158021339119:=0
def tw6924964887846451635:=0
def tw13399607682664745436:=0
def tw13620112622539008055:=0
def tw7566207660661031600:=0
def tw9281437534631905851:=0
def tw17426133376670851150:=0
def tw8448565666813218423:=0
def tw14801107544311852751:=0
def tw1734557643916122073:=0
def tw8017795219854118459:=0
def tw15991312270436925332:=0
def tw17223371493431054113:=0
def tw12326447676050044505:=0
def tw16210306809212460145:=0
def tw14038684182476459133:=0
def tw2334494399619971224:=0
def tw10359686469965699033:=0
def tw8339658424867273782:=0
def tw6810690737803257574:=0
def tw1555756745297102644:=0
def tw16434148295926450800:=0
def tw10694030908006611643:=0
def tw2255052881281434890:=0
def tw6164493213374972156:=0
def tw17517168049497558551:=0
def tw11946933381825743345:=0
def tw5039260546833032509:=0
def tw7341083204163840195:=0
def tw7147142113568557056:=0
def tw4610990329754022832:=0
def tw12374552809162694049:=0
def tw14316471135974369794:=0
def tw17965678492115798139:=0
def tw12731342645499427860:=0
def tw9091159972670011611:=0
def tw12471035279769281400:=0
def tw1945147595893983230:=0
def tw4124572294800960587:=0
def tw15196004885175560775:=0
def tw14317218861730421033:=0
def tw18049750278607657173:=0
def tw4023922247643858458:=0
def tw3155315530772175675:=0
def tw11029352332171703670:=0
def tw2692908856818573174:=0
def tw692070709662191025:=0
def tw6906394330257817957:=0
def tw12385138467259734686:=0
def tw6457091546768642323:=0
def tw11002449562147715087:=0
def tw9784975733616700763:=0
def tw15064838188027770991:=0
def tw8220172325787479576:=0
def tw12818927014244306441:=0
def tw10575546609961293275:=0
def tw18174773240644939106:=0
def tw7555179986689203262:=0
def tw15987685824288707547:=0
def tw8437151960546624813:=0
def tw6038943211206409938:=0
end PySem.W.Fast
structure Wr (p : Prop) : Prop where h : p
section
open PySem PySem.W PySem.W.X PySem.W.ZRun PyProof.Rows
local macro_rules
  | `(tactic| refine $f:ident $a*) => do
    if f.getId.eraseMacroScopes != `PySem.W.holds_openX then Lean.Macro.throwUnsupported
    let t := Lean.mkIdent `hc
    `(tactic| (refine ($f $a*); case $t:ident => exact Wr.h (by assumption)))
set_option maxRecDepth 100000 in
set_option maxHeartbeats 0 in
def hd12 : (R : Prop) ×' (Wr R → PySem.Challenge.rw_lightmark_k12_blocks_walked.Holds) := by
 apply PSigma.mk
 intro r
 w_on; o_law; z_head; (case hw => w_witness2)
end
local macro_rules
 | `(tactic| omega) => `(tactic| first
  | exact Nat.le_refl _
  | exact Nat.le_add_right _ _
  | exact Nat.le_of_ble_eq_true rfl
  | (refine Nat.le_trans (by assumption) ?_; exact Nat.le_of_ble_eq_true rfl)
  | exact Nat.le_succ_of_le (by assumption)
  | (refine Int.le_trans (by assumption) ?_; exact of_decide_eq_true rfl)
  | lia
  | omega +splitNatSub)
local macro_rules
 | `(tactic| decide) => `(tactic| decide +kernel)
local macro_rules
 |`(∅)=>`(by decide)
local macro_rules
 |`(nofun)=>`(by omega)
open PySem.W (Frag kitOne nsIn findIn mg_of fnOf fnMade keepIn kia_one codeIn mg_none_of emptyDict instObj CodeHd tabObj envX isFn kia_tup plainGet specialIn lookIn hasDictIn makesIn callWith_K fnX methodObj plainGet_of plainOver takerIn takesIn mroIn kitx_list cellsFrom_some kitAny TabsAt methodCall_KW hideAll of_hideAll handedIn kitx_none kitx_bool kitx_int kitx_str kitx_tuple kitx_dict codeRec_of excIn)
open PySem.F (plainAttrs_str plainAttrs_list slot_str_startswith type_str_startswith slot_list_extend type_list_extend slot_str_join type_str_join slot_str_lstrip type_str_lstrip)
open PyProof.Rows (callWith_type1 lo1)
set_option maxRecDepth 100000
def l5:=@List.length_map
def l6:=@List.length_append
def l7:=@Nat.le_refl
def l8:=@List.mem_cons
def l9:=@List.length_cons
def l10:=@List.mem_cons_self
def l13:=@Nat.le_trans
def l14:=@List.mem_singleton
def l15:=@List.mem_cons_of_mem
def l16:=@Nat.zero_le
def l17:=@List.map_append
def l18:=@List.mem_of_getElem?
def l19:=@Nat.lt_of_lt_of_le
def l20:=@List.map_cons
def l23:=@List.mem_map
def l24:=@List.mem_append
def l25:=@List.append_nil
def l26:=@Nat.ne_of_lt
def l27:=@List.size_toArray
def l28:=@List.append_assoc
def l29:=@List.length_drop
def l30:=@List.map_map
def l31:=@List.mem_append_right
def l32:=@List.length_nil
def l33:=@List.getD_eq_getElem?_getD
def l34:=@List.length_take
def l35:=@List.sum_cons
def l36:=@Nat.succ_pos
def l37:=@Int.toNat_natCast
def l38:=@List.take_length
def l39:=@List.mem_nil_iff
def l40:=@Int.toNat_of_nonneg
def l41:=@List.take_add_one
def l42:=@Nat.ne_of_gt
def l43:=@List.mem_map_of_mem
def l44:=@List.flatMap_append
def l45:=@List.nodup_cons
def l46:=@Nat.lt_irrefl
def l47:=@List.take_append_drop
def l48:=@List.lookup_cons
def l49:=@List.all_eq_true
def l50:=@List.length_range
def l51:=@List.mem_flatMap
def l52:=@Option.map_eq_some_iff
def l53:=@Nat.mul_le_mul_right
def l54:=@List.mem_append_left
def l55:=@List.take_of_length_le
def l56:=@List.flatMap_cons
def l57:=@List.mem_range
def l58:=@Nat.succ_mul
def l59:=@List.getElem_mem
def l60:=@List.map_congr_left
def l61:=@List.takeWhile_append_dropWhile
def l62:=@List.take_zero
def l63:=@List.flatten_append
def l64:=@List.filterMap_cons
def l65:=@List.of_mem_zip
def l66:=@Nat.le_add_right
def l67:=@Int.le_trans
def l68:=@Int.mul_nonneg
def l69:=@List.mem_filter
def l70:=@Nat.le_of_lt
def l71:=@Nat.lt_succ_self
def l72:=@List.length_replicate
def l73:=@List.map_nil
def l74:=@List.cons_append
def l75:=@List.nil_append
def l76:=@List.isPrefixOf_iff_prefix
def l77:=@List.nodup_nil
def l78:=@List.length_set
def l79:=@List.contains_iff_mem
def l80:=@List.length_reverse
def l81:=@List.isEmpty_iff
def l82:=@List.range_succ
def l83:=@List.eq_nil_or_concat
def l84:=@Nat.add_sub_cancel
def l85:=@List.eq_nil_of_length_eq_zero
def l86:=@List.flatten_cons
def l87:=@List.map_flatMap
def l88:=@Option.isSome_iff_exists
def l89:=@List.singleton_append
def l90:=@List.concat_eq_append
def l91:=@List.drop_eq_nil_of_le
def l92:=@List.mem_iff_getElem?
def l93:=@Int.mul_le_mul_of_nonneg_right
def sA {α:Type}{a b:α}{l:List α}{n:Nat}:(a::l).set (n+1) b=a::l.set n b:=rfl
def sB {α:Type}{a b:α}{l:List α}:(a::l).set 0 b=b::l:=rfl
namespace L2
open PySem PySem.Spec PyProof.Rows
abbrev Key:=Sum Int Str
def wL:Key->Value->Bool
 | .inl k,v=>Value.isInt k v
 | .inr x,v=>Value.isStrOf x v
def keyH (w:World):Key->Int
 | .inl k=>hashInt k
 | .inr x=>hashStr w x
theorem bb:∀{k:Key} {v:Value},wL k v=true->(∃i t,k=Sum.inl i/\v=Value.int i t) ∨ (∃x t,k=Sum.inr x/\v=Value.str x t)
 | .inl i,v,h=>by
  obtain⟨t,e⟩:=Value.isInt_shape (k:=i) (v:=v) h;exact .inl ⟨i,t,rfl,e⟩
 | .inr x,v,h=>by
  obtain⟨t,e⟩:=Value.isStrOf_shape (x:=x) (v:=v) h;exact .inr ⟨x,t,rfl,e⟩
def wM (a b:Int):decide ((Sum.inl a:Key)=Sum.inl b)=(a==b):=by
 by_cases e:a=b
 ·subst e;simp
 ·have h:¬ (Sum.inl a:Key)=Sum.inl b:=λq=>e (Sum.inl.inj q);rw[decide_eq_false h];exact(beq_eq_false_iff_ne.mpr e).symm
def wN (a b:Str):decide ((Sum.inr a:Key)=Sum.inr b)=decide (a=b):=by
 by_cases e:a=b
 ·subst e;simp
 ·have h:¬ (Sum.inr a:Key)=Sum.inr b:=λq=>e (Sum.inr.inj q);rw[decide_eq_false h,decide_eq_false e]
def wO (a:Int)(b:Str):decide ((Sum.inl a:Key)=Sum.inr b)=false:=decide_eq_false (λq=>nomatch q)
def wP (a:Str)(b:Int):decide ((Sum.inr a:Key)=Sum.inl b)=false:=decide_eq_false (λq=>nomatch q)
def lq (prog:Program)(w:World):PySem.KeyKind prog w Key where
 is:=wL
 hash:=keyH w
 inj:=λv a b ha hb=>by
  rcases bb ha with ⟨i,t,rfl,rfl⟩ |⟨x,t,rfl,rfl⟩
  ·rcases bb hb with ⟨j,u,rfl,e⟩ |⟨y,u,rfl,e⟩
   ·injection e with e1 _;rw[e1]
   ·exact nomatch e
  ·rcases bb hb with ⟨j,u,rfl,e⟩ |⟨y,u,rfl,e⟩
   ·exact nomatch e
   ·injection e with e1 _;rw[e1]
 byValue:=λk v h=>by
  rcases bb h with ⟨i,t,rfl,rfl⟩ |⟨x,t,rfl,rfl⟩ <;> rfl
 pyHash:=λhv h=>by
  rcases bb hv with ⟨i,t,rfl,rfl⟩ |⟨x,t,rfl,rfl⟩
  ·exact wpAny_pyHash_int h
  ·exact wpAny_pyHash_str h
 eqBool:=λhu hv h=>by
  rcases bb hu with ⟨i,t,rfl,rfl⟩ |⟨x,t,rfl,rfl⟩
  ·rcases bb hv with ⟨j,u,rfl,rfl⟩ |⟨y,u,rfl,rfl⟩
   ·rw[wM] at h;exact wpAny_eqBool_int h
   ·rw[wO] at h;exact SeqAt.EqAt.int_str i t y u _ _ _ _ h
  ·rcases bb hv with ⟨j,u,rfl,rfl⟩ |⟨y,u,rfl,rfl⟩
   ·rw[wP] at h;exact SeqAt.EqAt.str_int x t j u _ _ _ _ h
   ·rw[wN] at h;exact wpAny_eqBool_str h
 «strs» := λk x t v h=>by
  rcases bb h with ⟨i,u,rfl,e⟩ |⟨y,u,rfl,e⟩
  ·exact nomatch e
  ·injection e with e1 _
   subst e1;cases v <;> rfl
inductive V where
 |non |bl (b:Bool) |int (i:Int) |str (x:Str) |byt (b:Array UInt8) |flt (b:UInt64) |ref (a:Addr) |ty (n:String)
 deriving DecidableEq
def RelV:V->Value->Prop
 | .non,u=>u=Value.none
 | .bl b,u=>u=Value.bool b
 | .int i,u=>∃t,u=Value.int i t
 | .str x,u=>∃t,u=Value.str x t
 | .byt b,u=>∃t,u=Value.bytes b t
 | .flt b,u=>∃t,u=Value.float b t
 | .ref a,u=>u=Value.ref a
 | .ty n,u=>u=Value.type n
abbrev Vals:List V->List Value->Prop:=Paired RelV
def Vals.length {xs:List V}{us:List Value}(r:Vals xs us):xs.length=us.length:=Paired.length r
def Vals.get:∀{xs:List V} {us:List Value} {i:Nat} {x:V},Vals xs us->xs[i]? = some x->∃u,us[i]? = some u/\RelV x u
 |_,_,_,_, .nil,e=>by simp at e
 |_,_,0,_, .cons r _,e=>by simp at e;subst e;exact⟨_,rfl,r⟩
 |_,_,i+1,x, .cons _ t,e=>by
  obtain⟨u,h1,h2⟩:=Vals.get (i:=i) (x:=x) t (by simpa using e);exact⟨u,by simpa using h1,h2⟩
theorem Vals.set {x:V}{u:Value}(r:RelV x u):∀{xs:List V} {us:List Value} (i:Nat),Vals xs us->Vals (xs.set i x) (us.set i u)
 |_,_,_, .nil => .nil
 |_,_,0, .cons _ t => .cons r t
 |_,_,i+1, .cons q t => .cons q (Vals.set r i t)
theorem Vals.append:∀{xs ys:List V} {us ws:List Value},Vals xs us->Vals ys ws->Vals (xs++ys) (us++ws)
 |_,_,_,_, .nil,s=>s
 |_,_,_,_, .cons r t,s => .cons r (Vals.append t s)
def RelO:Option V->Option Value->Prop
 |some v,some u=>RelV v u
 |none,none=>True
 |_,_=>False
def KV {κ:Type}:List (κ×V)->List (κ×Value)->Prop:=Paired λ(p:κ×V) (q:κ×Value)=>p.1=q.1/\RelV p.2 q.2
def kV:Key->V
 | .inl i => .int i
 | .inr x => .str x
inductive HO where
  |lst (xs:List V)
  |tup (xs:List V)
  |dK (kvs:List (Key×V)) |dT (kvs:List (List Key×V))
  |set (S:Int->Bool) (n:Nat)
  |ins (C dx:Addr) (fs:List (Str×V))
  |own (x:Addr)
  |xd (fs:List (Str×V))
  |met (f x:Addr)
  |rng (lo hi:Int)
  |frz (o:Obj) (u:HO)
  |tbl (ps:Array Value)
  |ext (φ:Heap->Prop)
abbrev Hp:=Addr->Option HO
def nq {α β:Type}{F:α->β}{a b:α}{u v:β}(e:F b=u)(x:F a=v)(h:u≠v:=by intro y;cases y):a≠b:=λz=>h (by rw[<- e,<- x,z])
def nz {α β:Type}{F:α->Option β}{a:α}{o:β}(e:F a=some o):F a≠none:=by rw[e];exact λz=>nomatch z
def upd (H:Hp)(a:Addr)(o:HO):Hp:=λb=>if b=a then some o else H b
def aa {H:Hp}{a:Addr}{o:HO}:upd H a o a=some o:=by unfold upd;rw[if_pos rfl]
def ad {H:Hp}{a b:Addr}{o:HO}(h:b≠a):upd H a o b=H b:=by unfold upd;rw[if_neg h]
def aB {H:Hp}{a b:Addr}{o:HO}(h:H a=some o)(h':H b=none):a≠b:=by
 intro e;subst e;rw[h] at h';cases h'
section
variable (P:Program)(w:World)
def ObjOk (H:Hp)(h:Heap)(a:Addr):HO->Prop
 | .lst xs=>xs.length<=sizeLine/\∃(its:List Value) (n:Nat),Vals xs its/\h.get? a=some { cls := .type "list",data := .seq its.toArray n }
 | .tup xs=>xs.length<=sizeLine/\∃its:List Value,Vals xs its/\IsTup h a its.toArray
 | .dK kvs=>kvs.length<=sizeLine/\(a==sysModules)=false/\∃vs,KV kvs vs/\h.DictOf (lq P w) a vs
 | .dT kvs=>kvs.length<=sizeLine/\(a==sysModules)=false/\∃xs:List (List Key×Addr×Value),
   Paired (λ(p:List Key×V) (q:List Key×Addr×Value)=>p.1=q.1/\H q.2.1=some (.tup (p.1.map kV))/\RelV p.2 q.2.2) kvs xs ∧
   ∃o es ep,h.get? a=some o/\o.ExactDict/\o.data = .dict es ep/\es.toList=xs.map (entryOfKey (tupleKind (lq P w)))/\(xs.map (·.1)).Nodup
 | .set S n=>h.SetOf (intKind P w) a S n
 | .ins C dx fs=>H dx=some (.own a)/\fs.length<=1000/\dx≠a/\h.get? a=some (instObj C dx) ∧
   ∃mA,h.Ns1 dx mA/\(∀f,RelO (fs.lookup f) (mA f))/\PySem.Within mA (fs.map (·.1))
 | .own _=>∃o,h.get? a=some o
 | .xd fs=>∃mA,h.Ns1 a mA/\∀f,RelO (fs.lookup f) (mA f)
 | .rng lo hi=>∃t u v,h.get? a=some { cls := .type "range",data := .fields #[.int lo t, .int hi u, .int 1 v] }
 | .frz o u=>h.get? a=some o/\ObjOk H h a u
 | .tbl ps=>h.get? a=some { cls := .none,data := .fields ps }
 | .met f x=>h.get? a=some (methodObj (.ref f) (.ref x))
 | .ext φ=>φ h/\(∃o,h.get? a=some o)/\∀h1 h2:Heap,φ h1->(∀o,h1.get? a=some o->h2.get? a=some o)->φ h2
def HOk (H:Hp)(h:Heap):Prop:=∀a o,H a=some o->ObjOk P w H h a o
end
section
variable {P:Program}{w:World}{H H':Hp}{h h':Heap}{a:Addr}{o:HO}
def ObjOk.lt (x:ObjOk P w H h a o):a < h.objs.size:=by
 cases o with
 |lst xs=>obtain⟨_,_,_,_,e⟩:=x;exact Heap.lt_size e
 |tup xs=>obtain⟨_,_,_,p⟩:=x;exact p.lt
 |dK kvs=>obtain⟨_,_,_,_,o,_,_,e,_⟩:=x;exact Heap.lt_size e
 |dT kvs=>obtain⟨_,_,_,_,o,_,_,e,_⟩:=x;exact Heap.lt_size e
 |set S n=>obtain⟨o,_,_,_,e,_⟩:=x;exact Heap.lt_size e
 |ins C dx fs=>obtain⟨_,_,_,e,_⟩:=x;exact Heap.lt_size e
 |own y=>obtain⟨_,e⟩:=x;exact Heap.lt_size e
 |xd fs=>obtain⟨_,⟨_,_,_,e,_⟩,_⟩:=x;exact Heap.lt_size e
 |rng lo hi=>obtain⟨_,_,_,e⟩:=x;exact Heap.lt_size e
 |frz ob u=>obtain⟨e,_⟩:=x;exact Heap.lt_size e
 |tbl ps=>exact Heap.lt_size (show h.get? a=some _ from x)
 |met f y=>exact Heap.lt_size (show h.get? a=some _ from x)
 |ext φ=>obtain⟨_,⟨_,e⟩,_⟩:=x;exact Heap.lt_size e
theorem Paired.mapP {α β:Type}{F G:α->β->Prop}:∀{l₁:List α} {l₂:List β},Paired F l₁ l₂->(∀a b,F a b->G a b)->Paired G l₁ l₂
 |_,_, .nil,_ => .nil
 |_,_, .cons r t,f => .cons (f _ _ r) (Paired.mapP t f)
def ObjOk.stay (x:ObjOk P w H h a o)(k:∀b u,(b=a ∨ H b=some (.own a))->h.get? b=some u->h'.get? b=some u)
  (ho:∀b,H b=some (.own a)->H' b=some (.own a))(ht:∀b xs,H b=some (.tup xs)->H' b=some (.tup xs)):ObjOk P w H' h' a o:=by
 induction o with
 |lst xs=>obtain⟨z,its,n,r,e⟩:=x;exact⟨z,its,n,r,k _ _ (.inl rfl) e⟩
 |tup xs=>obtain⟨z,its,r,ob,e,c⟩:=x;exact⟨z,its,r,ob,k _ _ (.inl rfl) e,c⟩
 |dK kvs=>obtain⟨z,y,vs,r,ob,es,ep,e,c⟩:=x;exact⟨z,y,vs,r,ob,es,ep,k _ _ (.inl rfl) e,c⟩
 |dT kvs=>
  obtain⟨z,y,xs,r,ob,es,ep,e,c⟩:=x;exact⟨z,y,xs,Paired.mapP r λp q z=>⟨z.1,ht _ _ z.2.1,z.2.2⟩,ob,es,ep,k _ _ (.inl rfl) e,c⟩
 |set S n=>obtain⟨ob,es,ep,t,e,c⟩:=x;exact⟨ob,es,ep,t,k _ _ (.inl rfl) e,c⟩
 |ins C dx fs=>
  obtain⟨d,z,ne,e,mA,⟨od,es,ep,e2,c⟩,r⟩:=x;exact⟨ho _ d,z,ne,k _ _ (.inl rfl) e,mA,⟨od,es,ep,k _ _ (.inr d) e2,c⟩,r⟩
 |own y=>obtain⟨ob,e⟩:=x;exact⟨ob,k _ _ (.inl rfl) e⟩
 |xd fs=>obtain⟨mA,⟨od,es,ep,e,c⟩,r⟩:=x;exact⟨mA,⟨od,es,ep,k _ _ (.inl rfl) e,c⟩,r⟩
 |rng lo hi=>obtain⟨t,u,v,e⟩:=x;exact⟨t,u,v,k _ _ (.inl rfl) e⟩
 |frz ob u ih=>obtain⟨e,q⟩:=x;exact⟨k _ _ (.inl rfl) e,ih q⟩
 |tbl ps=>
  have e:h.get? a=some { cls := .none,data := .fields ps }:=x;show h'.get? a=some { cls := .none,data := .fields ps };exact k a _ (.inl rfl) e
 |met f y=>
  have e:h.get? a=some (methodObj (.ref f) (.ref y)):=x;show h'.get? a=some (methodObj (.ref f) (.ref y));exact k a _ (.inl rfl) e
 |ext φ=>obtain⟨p,⟨o,e⟩,st⟩:=x;exact⟨st _ _ p λo q=>k _ _ (.inl rfl) q,⟨o,k _ _ (.inl rfl) e⟩,st⟩
def HOk.lt (x:HOk P w H h)(e:H a=some o):a < h.objs.size:=(x a o e).lt
def HOk.fresh (x:HOk P w H h)(e:h.objs.size<=a):H a=none:=by
 cases q:H a with
 |none=>rfl
 |some u=>exact absurd (l19 (x.lt q) e) (l46 _)
def HOk.kept (x:HOk P w H h)(k:∀b u,h.get? b=some u->h'.get? b=some u):HOk P w H h':=λa o e=>
 (x a o e).stay (λb u _ q=>k b u q) (λ_ q=>q) λ_ _ q=>q
def HOk.laid (x:HOk P w H h)(k:∀b u,h.get? b=some u->h'.get? b=some u)(hp:h.objs.size<=a)(new:ObjOk P w (upd H a o) h' a o):HOk P w (upd H a o) h':=λb u e=>by
 have hn:=x.fresh hp;by_cases hb:b=a
 ·subst hb;rw[aa] at e;cases e;exact new
 ·rw[ad hb] at e;exact(x b u e).stay (λc v _ q=>k c v q) (λc q=>by rw[ad (aB q hn)];exact q) λc xs q=>by rw[ad (aB q hn)];exact q
end
def Rd (H:Hp)(a:Addr)(u:HO):Prop:=H a=some u ∨ ∃o,H a=some (.frz o u)
def Rd.ok {P:Program}{w:World}{H:Hp}{h:Heap}{a:Addr}{u:HO}(r:Rd H a u)(x:HOk P w H h):ObjOk P w H h a u:=by
 rcases r with r |⟨o,r⟩
 ·exact x a u r
 ·obtain⟨_,q⟩:=x a _ r;exact q
def Mut:Option HO->Prop
 |some (.lst _)=>True
 |some (.dK _)=>True
 |some (.dT _)=>True
 |some (.set _ _)=>True
 |some (.ins _ _ _)=>True
 |some (.ext _)=>True
 |_=>False
section
variable {P:Program}{w:World}{H:Hp}{h h':Heap}{x e:Addr}{o':HO}
def HOk.write (ok:HOk P w H h)(mu:Mut (H x))(he:e=x ∨ H e=some (.own x))(k:∀b u,b≠e->h.get? b=some u->h'.get? b=some u)(heo:∃u,h'.get? e=some u)
  (new:ObjOk P w (upd H x o') h' x o'):HOk P w (upd H x o') h':=λb u q=>by
 have nown:∀c y,H c=some (.own y)->c≠x:=λc y r z=>by subst z;rw[r] at mu;exact mu
 have ntup:∀c xs,H c=some (.tup xs)->c≠x:=λc xs r z=>by subst z;rw[r] at mu;exact mu
 by_cases hb:b=x
 ·subst hb;rw[aa] at q;cases q;exact new
 ·rw[ad hb] at q;by_cases hbe:b=e
  ·have q':H b=some (.own x):=by
    rcases he with z |z
    ·exact absurd (hbe.trans z) hb
    ·rw[hbe];exact z
   rw[q] at q';cases q';obtain⟨v,hv⟩:=heo;exact⟨v,by rw[hbe];exact hv⟩
  ·refine(ok b u q).stay (λc v hc r=>k c v ?_ r) (λc r=>by rw[ad (nown c b r)];exact r) λc xs r=>by rw[ad (ntup c xs r)];exact r
   rcases hc with rfl |hc
   ·exact hbe
   ·rintro rfl;rcases he with z |z
    ·exact nown c b hc z
    ·rw[hc] at z;cases z;exact hb rfl
end
structure Un (fs ex:List Addr)(H H':Hp)(h h':Heap):Prop where
 keep:∀b o,h.get? b=some o->H b=none->b∉fs->b∉ex->h'.get? b=some o
 slot:∀b o,h.get? b=some o->H b=none->b∈fs->b∉ex->∃sl,h'.get? b=some { o with slots:=sl }
 free:∀b o,h.get? b=some o->H b=none->b∉ex->H' b=none
 there:∀b o,h.get? b=some o->b∉ex->∃o',h'.get? b=some o'
 tups:∀b xs,H b=some (.tup xs)->H' b=some (.tup xs)
 frzs:∀b o u,H b=some (.frz o u)->H' b=some (.frz o u)
 tbls:∀b ps,H b=some (.tbl ps)->∃more,H' b=some (.tbl (ps++more))
section
variable {fs fs' ex ex':List Addr}{H H1 H2:Hp}{h h1 h2 h':Heap}{a x e:Addr}{o:HO}
def Un.any (u:Un fs ex H H1 h h1){b:Addr}{ob:Obj}(q:h.get? b=some ob)(n:H b=none)(hx:b∉ex):∃sl,h1.get? b=some { ob with slots:=sl }:=by
 by_cases hb:b∈fs
 ·exact u.slot b ob q n hb hx
 ·exact⟨ob.slots,u.keep b ob q n hb hx⟩
def Un.kept (k:∀b u,h.get? b=some u->h'.get? b=some u):Un fs ex H H h h':=
 ⟨λb ob q _ _ _=>k b ob q,λb ob q _ _ _=>⟨ob.slots,k b ob q⟩,λ_ _ _ n _=>n,λb ob q _=>⟨ob,k b ob q⟩,λ_ _ q=>q,λ_ _ _ q=>q,λ_ ps q=>⟨#[],by rw[q];simp⟩⟩
def Un.refl:Un fs ex H H h h:=Un.kept λ_ _ q=>q
def Un.laid (k:∀b u,h.get? b=some u->h'.get? b=some u)(hp:h.objs.size<=a)(hn:H a=none):Un fs ex H (upd H a o) h h' where
 keep:=λb u q _ _ _=>k b u q
 slot:=λb u q _ _ _=>⟨u.slots,k b u q⟩
 free:=λb u q n _=>by rw[ad (l26 (l19 (Heap.lt_size q) hp))];exact n
 there:=λb u q _=>⟨u,k b u q⟩
 tups:=λb xs q=>by rw[ad (aB q hn)];exact q
 frzs:=λb u xs q=>by rw[ad (aB q hn)];exact q
 tbls:=λb ps q=>⟨#[],by rw[ad (aB q hn),q];simp⟩
def Un.write (mu:Mut (H x))(he:e=x ∨ H e=some (.own x))(k:∀b u,b≠e->h.get? b=some u->h'.get? b=some u)(heo:∃u,h'.get? e=some u):Un fs ex H (upd H x o) h h':=by
 have hx:∀b,H b=none->b≠x:=λb n z=>by subst z;rw[n] at mu;exact mu
 have hb:∀b,H b=none->b≠e:=λb n z=>by
  subst z;rcases he with r |r
  ·exact hx b n r
  ·rw[n] at r;cases r
 have hm:∀b u,H b=some u->¬ Mut (some u)->b≠x:=λb u q nm z=>by subst z;rw[q] at mu;exact nm mu
 refine ⟨λb u q n _ _=>k b u (hb b n) q,λb u q n _ _=>⟨u.slots,k b u (hb b n) q⟩,λb u q n _=>by rw[ad (hx b n)];exact n,λb u q _=>?_,
  λb xs q=>by rw[ad (hm b _ q λz=>z)];exact q,λb u xs q=>by rw[ad (hm b _ q λz=>z)];exact q,λb ps q=>⟨#[],by rw[ad (hm b _ q λz=>z),q];simp⟩⟩
 by_cases hbe:b=e
 ·subst hbe;exact heo
 ·exact⟨u,k b u hbe q⟩
end
def trk (h:Heap)(H:Hp):List Addr:=(List.range h.objs.size).filter λa=>(H a).isSome
def hidT (h:Heap)(H:Hp):Heap:=hideAll h (trk h H)
def oF (h:Heap)(H:Hp):(hidT h H).objs.size=h.objs.size:=PySem.W.hideAll_size _ _
def rl {h:Heap}{H:Hp}{b:Addr}{o:Obj}(e:h.get? b=some o)(n:H b=none):(hidT h H).get? b=some o:=
 PySem.W.hideAll_get _ e λhm=>by
  have q:(H b).isSome=true:=(l69.mp hm).2;rw[n] at q;simp at q
def uK {h:Heap}{H:Hp}{b:Addr}{o:Obj}(e:(hidT h H).get? b=some o):h.get? b=some o/\H b=none:=by
 have e':h.get? b=some o:=of_hideAll (trk h H) e;refine⟨e',?_⟩;cases q:H b with
 |none=>rfl
 |some x=>
  have hm:b∈trk h H:=l69.mpr ⟨l57.mpr (Heap.lt_size e'),by simp[q]⟩;have z:(hidT h H).get? b=none:=PySem.W.hideAll_none (trk h H) hm;rw[z] at e;cases e
structure Mod (K:Frag)(mg:Str->Option Value)(base:Heap):Prop where
 kin:K.In base
 glob:base.Ns mainGlobals mg
 blt:∃mb,base.Ns builtinsNs mb/\∀x:Str,x≠"__name__"->mb x=bootBuiltins x
 nolimit:base.NoLimit
structure Cx where
 prog:Program
 w:World
 K:Frag
 mg:Str->Option Value
 base:Heap
 A:Around
 N:List Str
 s₀:Shared
 H₀:Hp
 env:Env
 outer:List Env
 stack:List Env
 ex:List Addr
 fn:Str->Bool
 calm:Bool
 pn:List (Addr×Obj)
 xe:Value->Shared->Prop
def frs (l:List Env):List Addr:=l.filterMap (·.frame)
abbrev Cx.fs (X:Cx):List Addr:=frs X.outer
def Vis (sc:Scope)(x:Str):Prop:=sc.names.lookup x=some .local ∨ sc.names.lookup x=some .cell ∨ sc.names.lookup x=some .free
def Loc (sc:Scope)(x:Str):Prop:=sc.names.lookup x=some .local ∨ sc.names.lookup x=some .cell
def Look (env:Env)(h:Heap)(m:Str->Option Value)(x:Str)(u:Value):Prop:=
 (env.kindOf x=some .local/\m x=some u) ∨ ((env.kindOf x=some .cell ∨ env.kindOf x=some .free)/\∃c,env.cells.lookup x=some c/\h.IsCell c (some u))
structure Cx.Ok (X:Cx):Prop where
 mod:Mod X.K X.mg X.base
 kind:X.env.scope.kind = .function
 glob:X.env.globals=mainGlobals
 blt:X.env.builtins=builtinsNs
 above:X.s₀.heap.objs.size<=X.env.locals
 inj:∀x y c,X.env.cells.lookup x=some c->X.env.cells.lookup y=some c->x=y
 has:∀x,(X.env.kindOf x=some .cell ∨ X.env.kindOf x=some .free)->∃c,X.env.cells.lookup x=some c
 cab:∀x c,X.fn x=true->X.env.cells.lookup x=some c->X.s₀.heap.objs.size<=c
 hd:X.calm=true->X.A.handled=none
 frames:X.A.frames=some X.stack
 stk:X.stack=X.outer ∨ (X.stack=X.env::X.outer/\X.env.frame=some X.env.locals)
 exf:∀b∈X.ex,b≠X.env.locals/\∀x c,X.env.cells.lookup x=some c->c≠b
 bs:∀b o,X.base.get? b=some o->X.s₀.heap.get? b=some o/\X.H₀ b=none
 bsz:X.base.objs.size<=X.s₀.heap.objs.size
 noex:∀b o,X.base.get? b=some o->b∉X.ex
 exfs:∀b∈X.ex,b∉X.fs
 funs:X.s₀.heap.FunFrames X.base X.outer
 frf:∀b∈X.fs,X.H₀ b=none
structure Inv (X:Cx)(w9:List (Addr×Obj))(σ:List (Option V))(H:Hp)(s:Shared):Prop where
 ok:X.Ok
 os:s.os=X.s₀.os
 bare:AllBare s.gens
 base:Un X.fs X.ex X.H₀ H X.s₀.heap s.heap
 loc:∃m,s.heap.Ns X.env.locals m/\∀(i:Nat) (x:Str) (v:V),X.N[i]? = some x->σ[i]? = some (some v)->Vis X.env.scope x->∃u,RelV v u/\Look X.env s.heap m x u
 cell:∀x c,X.env.cells.lookup x=some c->∃v,s.heap.IsCell c v
 free:H X.env.locals=none
 freeC:∀x c,X.env.cells.lookup x=some c->H c=none
 pin:∀p∈X.pn++w9,s.heap.get? p.1=some p.2/\H p.1=none/\p.1≠X.env.locals/\p.1∉X.fs/\∀v,p.2.data ≠ .cell v
 hok:HOk X.prog X.w H s.heap
 len:σ.length=X.N.length
 tk:0 < s.toks
section
variable {X:Cx}{w9:List (Addr×Obj)}{σ:List (Option V)}{H H':Hp}{s:Shared}{h':Heap}
def Cx.Ok.nofr (ok:X.Ok){b:Addr}{o:Obj}(e:X.base.get? b=some o):b∉X.fs:=λhb=>by
 have:=(ok.funs.mem hb).1;rw[e] at this;cases this
def Inv.bs (I:Inv X w9 σ H s):∀b o,X.base.get? b=some o->s.heap.get? b=some o/\H b=none:=λb o e=>
 ⟨I.base.keep b o (I.ok.bs b o e).1 (I.ok.bs b o e).2 (I.ok.nofr e) (I.ok.noex b o e),I.base.free b o (I.ok.bs b o e).1 (I.ok.bs b o e).2 (I.ok.noex b o e)⟩
def Inv.bk (I:Inv X w9 σ H s):∀b o,X.base.get? b=some o->s.heap.get? b=some o:=λb o e=>(I.bs b o e).1
def Inv.mod (I:Inv X w9 σ H s):Mod X.K X.mg X.base:=I.ok.mod
def Inv.kIn (I:Inv X w9 σ H s):X.K.In s.heap:=I.ok.mod.kin.keeps I.bk
def Inv.lt (I:Inv X w9 σ H s):X.env.locals < s.heap.objs.size:=let ⟨_,hn,_⟩:=I.loc;hn.lt
def Inv.sz (I:Inv X w9 σ H s):X.s₀.heap.objs.size<=s.heap.objs.size:=l13 I.ok.above (l70 I.lt)
def Inv.nofs (I:Inv X w9 σ H s){a:Addr}(h:s.heap.objs.size<=a):a∉X.fs:=λhb=>by
 obtain⟨_,o,ho,_⟩:=I.ok.funs.mem hb;exact absurd (l19 (Heap.lt_size ho) (l13 I.sz h)) (l46 _)
def Inv.cne (I:Inv X w9 σ H s):∀x c,X.env.cells.lookup x=some c->c≠X.env.locals:=λx c e z=>by
 obtain⟨v,o,ho,hd⟩:=I.cell x c e;obtain⟨m,⟨o',es,ep,ho',hd',_⟩,_⟩:=I.loc;rw[z,ho'] at ho;cases ho;rw[hd'] at hd;cases hd
def Inv.funs (I:Inv X w9 σ H s):s.heap.FunFrames X.base X.outer:=by
 have all:∀(l:List Env),(∀b∈frs l,b∈X.fs)->X.s₀.heap.FunFrames X.base l->s.heap.FunFrames X.base l:=by
  intro l
  induction l with
  |nil=>intro _ _;trivial
  |cons env r ih=>
   intro hs hl;obtain⟨hk,⟨L,o,hf,hn,ho,hd⟩,hr⟩:=hl;have hL:L∈X.fs:=hs L (by unfold frs;rw[l64,hf];exact l10);obtain⟨sl,e⟩:=I.base.slot L o ho (I.ok.frf L hL) hL λz=>I.ok.exfs L z hL;exact⟨hk,⟨L,_,hf,hn,e,hd⟩,ih (λb hb=>hs b (by unfold frs;rw[l64,hf];exact l15 _ hb)) hr⟩
 exact all X.outer (λ_ hb=>hb) I.ok.funs
def Inv.stack (I:Inv X w9 σ H s):s.heap.FunFrames X.base X.stack:=by
 rcases I.ok.stk with e |⟨e,hf⟩
 ·rw[e];exact I.funs
 ·rw[e];obtain⟨m,hn,_⟩:=I.loc;refine .cons (by rw[I.ok.kind];decide) hf hn ?_ I.funs;exact Heap.get?_none_of_le (l13 I.ok.bsz I.ok.above)
def Inv.stkSub (I:Inv X w9 σ H s):∀b∈frs X.stack,b∈X.env.locals::X.fs:=λb hb=>by
 rcases I.ok.stk with e |⟨e,hf⟩
 ·rw[e] at hb;exact l15 _ hb
 ·rw[e] at hb;unfold frs at hb;rw[l64,hf] at hb;exact hb
def Inv.stkFree (I:Inv X w9 σ H s):∀b∈frs X.stack,H b=none:=λb hb=>by
 rcases l8.mp (I.stkSub b hb) with e |hb
 ·rw[e];exact I.free
 ·obtain⟨_,o,ho,_⟩:=I.ok.funs.mem hb;exact I.base.free b o ho (I.ok.frf b hb) λz=>I.ok.exfs b z hb
def Inv.step {g':Array GenState}{t':Nat}{d':Drawn}{ch:List Addr}(I:Inv X w9 σ H s)
  (hch:∀b∈ch,(b∈X.ex ∨ X.s₀.heap.objs.size<=b)/\b≠X.env.locals/\(∀x c,X.env.cells.lookup x=some c->c≠b)/\∀p∈X.pn++w9,p.1≠b)
  (keep:∀b o,b≠X.env.locals->b∉X.fs->b∉ch->s.heap.get? b=some o->H b=none->h'.get? b=some o)
  (slot:∀b o,b≠X.env.locals->b∈X.fs->b∉ch->s.heap.get? b=some o->H b=none->∃sl,h'.get? b=some { o with slots:=sl }) (free:∀b o,b∉ch->s.heap.get? b=some o->H b=none->H' b=none)
  (there:∀b o,b∉ch->s.heap.get? b=some o->∃o',h'.get? b=some o')
  (tups:∀b xs,H b=some (.tup xs)->H' b=some (.tup xs)) (frzs:∀b o u,H b=some (.frz o u)->H' b=some (.frz o u)) (tbls:∀b ps,H b=some (.tbl ps)->∃more,H' b=some (.tbl (ps++more)))
  (ns:∀m,s.heap.Ns X.env.locals m->h'.Ns X.env.locals m) (hok:HOk X.prog X.w H' h') (hg:AllBare g') (ht:0 < t':=by first |assumption |exact l36 _ |(apply Inv.tk;assumption)):
  Inv X w9 σ H' { s with heap:=h',gens:=g',drawn:=d',toks:=t' }:=by
 have neL:∀b o,X.s₀.heap.get? b=some o->b≠X.env.locals:=λb o e=>l26 (l19 (Heap.lt_size e) I.ok.above);have neC:∀b o,X.s₀.heap.get? b=some o->b∉X.ex->b∉ch:=λb o e hx hb=>by
  rcases (hch b hb).1 with z |z
  ·exact hx z
  ·exact absurd (l19 (Heap.lt_size e) z) (l46 _)
 have cellK:∀x c,X.env.cells.lookup x=some c->∀v,s.heap.IsCell c v->h'.IsCell c v:=λx c e v ⟨o,ho,hd⟩=>by
  have nch:c∉ch:=λz=>(hch c z).2.2.1 x c e rfl;by_cases hc:c∈X.fs
  ·obtain⟨sl,q⟩:=slot c o (I.cne x c e) hc nch ho (I.freeC x c e);exact⟨_,q,hd⟩
  ·exact⟨o,keep c o (I.cne x c e) hc nch ho (I.freeC x c e),hd⟩
 refine⟨I.ok,I.os,hg,⟨λb o e n hb hx=>?_,λb o e n hb hx=>?_,λb o e n hx=>?_,λb o e hx=>?_,λb xs e=>tups b xs (I.base.tups b xs e),λb o xs e=>frzs b o xs (I.base.frzs b o xs e),λb ps e=>?_⟩,?_,λx c e=>?_,?_,λx c e=>?_,λp hp=>?_,hok,I.len,ht⟩
 ·exact keep b o (neL b o e) hb (neC b o e hx) (I.base.keep b o e n hb hx) (I.base.free b o e n hx)
 ·obtain⟨sl,e1⟩:=I.base.slot b o e n hb hx;obtain⟨sl',e2⟩:=slot b _ (neL b o e) hb (neC b o e hx) e1 (I.base.free b o e n hx);exact⟨sl',e2⟩
 ·obtain⟨o',e1⟩:=I.base.there b o e hx;exact free b o' (neC b o e hx) e1 (I.base.free b o e n hx)
 ·obtain⟨o',e1⟩:=I.base.there b o e hx;exact there b o' (neC b o e hx) e1
 ·obtain⟨m1,e1⟩:=I.base.tbls b ps e;obtain⟨m2,e2⟩:=tbls b _ e1;exact⟨m1++m2,by rw[e2,Array.append_assoc]⟩
 ·obtain⟨m,hn,hl⟩:=I.loc;refine⟨m,ns m hn,λi x v e1 e2 e3=>?_⟩;obtain⟨u,r,l⟩:=hl i x v e1 e2 e3;refine⟨u,r,?_⟩;rcases l with l |⟨k,c,e,z⟩
  ·exact .inl l
  ·exact .inr ⟨k,c,e,cellK x c e _ z⟩
 ·obtain⟨v,z⟩:=I.cell x c e;exact⟨v,cellK x c e v z⟩
 ·obtain⟨m,⟨o,_,_,ho,_⟩,_⟩:=I.loc;exact free _ o (λz=>(hch _ z).2.1 rfl) ho I.free
 ·obtain⟨v,o,ho,hd⟩:=I.cell x c e;exact free c o (λz=>(hch c z).2.2.1 x c e rfl) ho (I.freeC x c e)
 ·obtain⟨e,n,ne,nf,d⟩:=I.pin p hp;have nch:p.1∉ch:=λz=>(hch p.1 z).2.2.2 p hp rfl;exact⟨keep p.1 p.2 ne nf nch e n,free p.1 p.2 nch e n,ne,nf,d⟩
def Inv.un {t':Nat}(I:Inv X w9 σ H s)(u:Un X.fs [] H H' s.heap h')(hok:HOk X.prog X.w H' h')(ht:0 < t':=by first |assumption |exact l36 _ |(apply Inv.tk;assumption)):Inv X w9 σ H' { s with heap:=h',toks:=t' }:=by
 obtain⟨m,⟨o,es,ep,ho,r⟩,_⟩:=id I.loc;obtain⟨sl,hL⟩:=u.any ho I.free (by simp);exact I.step (g' := s.gens) (d' := s.drawn) (ch := []) (fun _ z => nomatch z) (fun b o _ hb _ e n => u.keep b o e n hb (by simp)) (fun b o _ hb _ e n => u.slot b o e n hb (by simp)) (fun b o _ e n => u.free b o e n (by simp)) (fun b o _ e => u.there b o e (by simp)) u.tups u.frzs u.tbls (λm' hm=>by
  obtain⟨o',es',ep',ho',r'⟩:=hm;rw[ho] at ho';cases ho';exact⟨_,es',ep',hL,r'⟩) hok I.bare
def Inv.call {g':Array GenState}{t':Nat}{d':Drawn}{ch:List Addr}(I:Inv X w9 σ H s)(u:Un (frs X.stack) ch H H' s.heap h')(hok:HOk X.prog X.w H' h')(hg:AllBare g')
  (hch:∀b∈ch,(b∈X.ex ∨ X.s₀.heap.objs.size<=b)/\b≠X.env.locals/\(∀x c,X.env.cells.lookup x=some c->c≠b)/\∀p∈X.pn++w9,p.1≠b)(ht:0 < t':=by first |assumption |exact l36 _ |(apply Inv.tk;assumption)):
  Inv X w9 σ H' { s with heap:=h',gens:=g',drawn:=d',toks:=t' }:=by
 obtain⟨m,⟨o,es,ep,ho,r⟩,_⟩:=id I.loc;obtain⟨sl,hL⟩:=u.any ho I.free λz=>(hch _ z).2.1 rfl;exact I.step (ch := ch) hch (fun b o hL hb hc e n => u.keep b o e n (fun z => (l8.mp (I.stkSub b z)).elim hL hb) hc) (fun b o _ _ hc e n => u.any e n hc) (fun b o hc e n => u.free b o e n hc) (fun b o hc e => u.there b o e hc) u.tups u.frzs u.tbls (λm' hm=>by
  obtain⟨o',es',ep',ho',r'⟩:=hm;rw[ho] at ho';cases ho';exact⟨_,es',ep',hL,r'⟩) hok hg
def Inv.turned {t':Nat}{it:Addr}(I:Inv X w9 σ H s)(k:∀b o,b≠it->s.heap.get? b=some o->h'.get? b=some o)(hn:H it=none)(hL:it≠X.env.locals)
  (h1:it∈X.ex ∨ X.s₀.heap.objs.size<=it)(h2:∀x c,X.env.cells.lookup x=some c->c≠it)(h3:∀p∈X.pn++w9,p.1≠it)(ht:0 < t':=by first |assumption |exact l36 _ |(apply Inv.tk;assumption)):Inv X w9 σ H { s with heap:=h',toks:=t' }:=by
 have nit:∀b u,H b=some u->b≠it:=λb u e z=>by rw[z,hn] at e;cases e
 refine I.step (g':=s.gens) (d':=s.drawn) (ch:=[it]) (λb hb=>?_) (λb o _ _ hc e _=>k b o (λz=>hc (by simp[z])) e) (λb o _ _ hc e _=>⟨o.slots,k b o (λz=>hc (by simp[z])) e⟩) (λ_ _ _ _ n=>n)
  (λb o hc e=>⟨o,k b o (λz=>hc (by simp[z])) e⟩) (λ_ _ e=>e) (λ_ _ _ e=>e) (λb ps e=>⟨#[],by rw[e];simp⟩) (λm hm=>?_) (λb u e=>?_) I.bare
 ·have e:b=it:=by simpa using hb
  subst e;exact⟨h1,hL,h2,h3⟩
 ·obtain⟨o,es,ep,ho,r⟩:=hm;exact⟨o,es,ep,k _ o (Ne.symm hL) ho,r⟩
 ·refine(I.hok b u e).stay (λc v hc q=>k c v ?_ q) (λ_ q=>q) λ_ _ q=>q;rcases hc with z |z
  ·rw[z];exact nit b u e
  ·exact nit c _ z
def Inv.tok (I:Inv X w9 σ H s)(t:Nat)(ht:0 < t:=by first |assumption |exact l36 _ |(apply Inv.tk;assumption)):Inv X w9 σ H { s with toks:=t }:=I.un (h':=s.heap) (t':=t) Un.refl I.hok
def Inv.kept {t':Nat}(I:Inv X w9 σ H s)(k:∀b u,s.heap.get? b=some u->h'.get? b=some u)(ht:0 < t':=by first |assumption |exact l36 _ |(apply Inv.tk;assumption)):Inv X w9 σ H { s with heap:=h',toks:=t' }:=I.un (Un.kept k) (I.hok.kept k)
def Inv.laid {a:Addr}{o:HO}{t':Nat}(I:Inv X w9 σ H s)(k:∀b u,s.heap.get? b=some u->h'.get? b=some u)(hp:s.heap.objs.size<=a)(new:ObjOk X.prog X.w (upd H a o) h' a o)(ht:0 < t':=by first |assumption |exact l36 _ |(apply Inv.tk;assumption)):
  Inv X w9 σ (upd H a o) { s with heap:=h',toks:=t' }:=I.un (Un.laid k hp (I.hok.fresh hp)) (I.hok.laid k hp new)
def Inv.write {x e:Addr}{o:HO}{t':Nat}(I:Inv X w9 σ H s)(mu:Mut (H x))(he:e=x ∨ H e=some (.own x))(k:∀b u,b≠e->s.heap.get? b=some u->h'.get? b=some u)(heo:∃u,h'.get? e=some u)
  (new:ObjOk X.prog X.w (upd H x o) h' x o)(ht:0 < t':=by first |assumption |exact l36 _ |(apply Inv.tk;assumption)):Inv X w9 σ (upd H x o) { s with heap:=h',toks:=t' }:=I.un (Un.write mu he k heo) (I.hok.write mu he k heo new)
def Inv.weak {σ':List (Option V)}(I:Inv X w9 σ H s)(hl:σ'.length=σ.length)(w:∀(i:Nat) v,σ'[i]? = some (some v)->σ[i]? = some (some v)):Inv X w9 σ' H s:=
 ⟨I.ok,I.os,I.bare,I.base,let ⟨m,hn,hl'⟩:=I.loc;⟨m,hn,λi x v e1 e2 e3=>hl' i x v e1 (w i v e2) e3⟩,I.cell,I.free,I.freeC,I.pin,I.hok,hl.trans I.len,I.tk⟩
def Inv.pins_of {pins':List (Addr×Obj)}(I:Inv X w9 σ H s)(h:∀p∈pins',s.heap.get? p.1=some p.2/\H p.1=none/\p.1≠X.env.locals/\p.1∉X.fs/\∀v,p.2.data ≠ .cell v):Inv X pins' σ H s:=
 ⟨I.ok,I.os,I.bare,I.base,I.loc,I.cell,I.free,I.freeC,λp hp=>(l24.mp hp).elim (λz=>I.pin p (l54 _ z)) (h p),I.hok,I.len,I.tk⟩
def dX {N:List Str}(hN:N.Nodup){i j:Nat}{x:Str}(a:N[i]? = some x)(b:N[j]? = some x):i=j:=by
 obtain⟨h1,e1⟩:=List.getElem?_eq_some_iff.mp a;obtain⟨h2,e2⟩:=List.getElem?_eq_some_iff.mp b;exact(List.getElem_inj hN).mp (e1.trans e2.symm)
def jE {M:Model}{A:Around}{E:Value->Shared->Prop}{i:Nat}{x:Str}{v:V}{u:Value}{Q:Unit->Shared->Prop}(I:Inv X w9 σ H s)(hN:X.N.Nodup)(hi:X.N[i]? = some x)(hx:Loc X.env.scope x)(r:RelV v u)
  (h:∀s',Inv X w9 (σ.set i (some v)) H s'->(∃a,Heap.SameBut a s.heap s'.heap/\(a=X.env.locals ∨ X.env.cells.lookup x=some a))->Q () s')(hf:X.fn x=true ∨ X.env.scope.names.lookup x=some .local:=by first |exact .inl rfl |exact .inr rfl |assumption):wpAny M A (storeName X.env x u) Q E s:=by
 obtain⟨m,hn,hl⟩:=id I.loc;have hcls:(X.env.scope.kind == .class||(X.env.scope.kind == .module&&X.env.locals != X.env.globals))=false:=by rw[I.ok.kind];rfl
 have hiσ:i < σ.length:=by rw[I.len];exact(List.getElem?_eq_some_iff.mp hi).1
 have cne:=I.cne;have tracked:∀{a:Addr} {h':Heap},(∃o,s.heap.get? a=some o/\H a=none)->Heap.SameBut a s.heap h'->HOk X.prog X.w H h':=λ{a h'} ha hs b ob e=>by
  obtain⟨_,_,hfree⟩:=ha;refine(I.hok b ob e).stay (λc w' hc q=>(hs.2 c ?_).trans q) (λ_ q=>q) λ_ _ q=>q;rintro rfl;rcases hc with rfl |hc
  ·rw[hfree] at e;cases e
  ·rw[hfree] at hc;cases hc
 rcases hx with hk |hk
 ·refine wpAny_storeName_local hk hn (λh' hn' hs=>?_) hcls;obtain⟨oL,_,_,hoL,_⟩:=id hn;refine h _ ⟨I.ok,I.os,I.bare,⟨λb o e n hb hx=>?_,λb o e n hb hx=>?_,I.base.free,λb o e hx=>?_,I.base.tups,I.base.frzs,I.base.tbls⟩,⟨_,hn',λj y v' e1 e2 e3=>?_⟩,λy c e=>?_,I.free,I.freeC,λp hp=>?_,tracked ⟨oL,hoL,I.free⟩ hs,by simpa using I.len,by first |exact I.tk |exact l36 _⟩ ⟨_,hs, .inl rfl⟩
  ·exact(hs.2 b (l26 (l19 (Heap.lt_size e) I.ok.above))).trans (I.base.keep b o e n hb hx)
  ·obtain⟨sl,e1⟩:=I.base.slot b o e n hb hx;exact⟨sl,(hs.2 b (l26 (l19 (Heap.lt_size e) I.ok.above))).trans e1⟩
  ·obtain⟨o',e1⟩:=I.base.there b o e hx;exact⟨o',(hs.2 b (l26 (l19 (Heap.lt_size e) I.ok.above))).trans e1⟩
  ·by_cases hj:j=i
   ·subst hj;rw[hi] at e1;cases e1;rw[List.getElem?_set_self hiσ] at e2;cases e2;exact⟨u,r, .inl ⟨hk,by simp⟩⟩
   ·rw[List.getElem?_set_ne (Ne.symm hj)] at e2;obtain⟨u',r',q⟩:=hl j y v' e1 e2 e3;refine⟨u',r',?_⟩;rcases q with ⟨k,e⟩ |⟨k,c,e,z⟩
    ·refine .inl ⟨k,?_⟩;have:y≠x:=λe=>hj (dX hN e1 (e▸hi));simp[this,e]
    ·exact .inr ⟨k,c,e,z.sameBut hs (cne y c e)⟩
  ·obtain⟨w',z⟩:=I.cell y c e;exact⟨w',z.sameBut hs (cne y c e)⟩
  ·obtain⟨e,n,ne,nf,d⟩:=I.pin p hp;exact⟨(hs.2 p.1 ne).trans e,n,ne,nf,d⟩
 ·have hfn:X.fn x=true:=by
   rcases hf with z |z
   ·exact z
   ·rw[z] at hk;cases hk
  obtain⟨c,hc⟩:=I.ok.has x (.inl hk);obtain⟨w',z⟩:=I.cell x c hc;refine wpAny_storeName_cell I.ok.kind hk hc z (λh' hc' hs=>?_);obtain⟨oc,hoc,hocd⟩:=id z;refine h { s with heap:=h' } ⟨I.ok,I.os,I.bare,⟨λb o e n hb hx=>?_,λb o e n hb hx=>?_,I.base.free,λb o e hx=>?_,I.base.tups,I.base.frzs,I.base.tbls⟩,⟨m,hn.sameBut hs (Ne.symm (cne x c hc)),λj y v' e1 e2 e3=>?_⟩,λy c' e=>?_,I.free,I.freeC,λp hp=>?_,tracked ⟨oc,hoc,I.freeC x c hc⟩ hs,by simpa using I.len,by first |exact I.tk |exact l36 _⟩ ⟨c,hs, .inr hc⟩
  ·exact(hs.2 b (l26 (l19 (Heap.lt_size e) (I.ok.cab x c hfn hc)))).trans (I.base.keep b o e n hb hx)
  ·obtain⟨sl,e1⟩:=I.base.slot b o e n hb hx;exact⟨sl,(hs.2 b (l26 (l19 (Heap.lt_size e) (I.ok.cab x c hfn hc)))).trans e1⟩
  ·obtain⟨o',e1⟩:=I.base.there b o e hx;exact⟨o',(hs.2 b (l26 (l19 (Heap.lt_size e) (I.ok.cab x c hfn hc)))).trans e1⟩
  ·by_cases hj:j=i
   ·subst hj;rw[hi] at e1;cases e1;rw[List.getElem?_set_self hiσ] at e2;cases e2;exact⟨u,r, .inr ⟨.inl hk,c,hc,hc'⟩⟩
   ·rw[List.getElem?_set_ne (Ne.symm hj)] at e2;obtain⟨u',r',q⟩:=hl j y v' e1 e2 e3;refine⟨u',r',?_⟩;rcases q with q |⟨k,c',e,z'⟩
    ·exact .inl q
    ·refine .inr ⟨k,c',e,z'.sameBut hs ?_⟩;rintro rfl;exact hj (dX hN e1 (I.ok.inj _ _ _ e hc▸hi))
  ·by_cases hcc:c'=c
   ·subst hcc;exact⟨_,hc'⟩
   ·obtain⟨w2,z2⟩:=I.cell y c' e;exact⟨w2,z2.sameBut hs hcc⟩
  ·obtain⟨e,n,ne,nf,d⟩:=I.pin p hp;refine⟨(hs.2 p.1 ?_).trans e,n,ne,nf,d⟩;intro q;rw[q,hoc] at e;have q':oc=p.2:=Option.some.inj e;exact d w' (by rw[<- q'];exact hocd)
def fQ {M:Model}{A:Around}{E:Value->Shared->Prop}{i:Nat}{x:Str}{v:V}{u:Value}{Q:Unit->Shared->Prop}(I:Inv X w9 σ H s)(hN:X.N.Nodup)(hi:X.N[i]? = some x)(hx:Loc X.env.scope x)(r:RelV v u)
  (h:∀s',Inv X w9 (σ.set i (some v)) H s'->Q () s')(hf:X.fn x=true ∨ X.env.scope.names.lookup x=some .local:=by first |exact .inl rfl |exact .inr rfl |assumption):wpAny M A (storeName X.env x u) Q E s:=
 jE I hN hi hx r (λs' I' _=>h s' I') hf
def Inv.call' {s':Shared}{ch:List Addr}(I:Inv X w9 σ H s)(ho:s'.os=s.os)(u:Un (frs X.stack) ch H H' s.heap s'.heap)(hok:HOk X.prog X.w H' s'.heap)(hg:AllBare s'.gens)
  (hch:∀b∈ch,(b∈X.ex ∨ X.s₀.heap.objs.size<=b)/\b≠X.env.locals/\(∀x c,X.env.cells.lookup x=some c->c≠b)/\∀p∈X.pn++w9,p.1≠b)(ht:0 < s'.toks):Inv X w9 σ H' s':=by
 obtain⟨h',g',d',t',o'⟩:=s';have e:o'=s.os:=ho;subst e;exact I.call (g':=g') (t':=t') (d':=d') u hok hg hch ht
end
abbrev XK:=Value->Option Addr->Hp->Prop
abbrev St:=List (Option V)
abbrev VK:=V->Hp->Prop
abbrev TE:=St->Hp->VK->Prop
abbrev TT:=St->Hp->(Bool->Hp->Prop)->Prop
abbrev TA:=St->Hp->(List V->Hp->Prop)->Prop
structure Ends where
 nx:St->Hp->Prop
 rt:VK
 bk:St->Hp->Prop:=λ_ _=>False
 ct:St->Hp->Prop:=λ_ _=>False
abbrev TS:=Ends->St->Hp->Prop
inductive EP (X:Cx)(w9:List (Addr×Obj))(σ:St)(Q:VK)(u:Value)(s':Shared):Prop
 |mk (v H')(_:Inv X w9 σ H' s')(_:RelV v u)(_:Q v H')
inductive TP (X:Cx)(w9:List (Addr×Obj))(σ:St)(Q:Bool->Hp->Prop)(b:Bool)(s':Shared):Prop
 |mk (H')(_:Inv X w9 σ H' s')(_:Q b H')
inductive AP (X:Cx)(w9:List (Addr×Obj))(σ:St)(Q:List V->Hp->Prop)(us:List Value)(s':Shared):Prop
 |mk (vs H')(_:Inv X w9 σ H' s')(_:Vals vs us)(_:Q vs H')
def SP (X:Cx)(w9:List (Addr×Obj))(D:Ends)(f:Flow)(s':Shared):Prop:=
 match f with
 | .next=>∃σ' H',Inv X w9 σ' H' s'/\D.nx σ' H'
 | .brk=>∃σ' H',Inv X w9 σ' H' s'/\D.bk σ' H'
 | .cont=>∃σ' H',Inv X w9 σ' H' s'/\D.ct σ' H'
 | .ret u=>∃v σ' H',Inv X w9 σ' H' s'/\RelV v u/\D.rt v H'
def PE (X:Cx)(e:Expr)(t:TE):Prop:=
 ∀(w9:List (Addr×Obj)) (s:Shared) (σ:St) (H:Hp) (Q:VK),Inv X w9 σ H s->t σ H Q->wpAny (model X.prog X.w) X.A (eval e X.env) (EP X w9 σ Q) X.xe s
def PT (X:Cx)(e:Expr)(t:TT):Prop:=
 ∀(w9:List (Addr×Obj)) (s:Shared) (σ:St) (H:Hp) (Q:Bool->Hp->Prop),Inv X w9 σ H s->t σ H Q->wpAny (model X.prog X.w) X.A (isTrue e X.env (eval e X.env)) (TP X w9 σ Q) X.xe s
def PW (X:Cx)(e:Expr)(t:TT):Prop:=
 ∀(whole:Sem Value) (w9:List (Addr×Obj)) (s:Shared) (σ:St) (H:Hp) (Q:Bool->Hp->Prop),Inv X w9 σ H s->t σ H Q->wpAny (model X.prog X.w) X.A (isTrue e X.env whole) (TP X w9 σ Q) X.xe s
def PW.pt {X:Cx}{e:Expr}{t:TT}(h:PW X e t):PT X e t:=h _
def PA (X:Cx)(es:List Expr)(t:TA):Prop:=
 ∀(pos:Pos) (w9:List (Addr×Obj)) (s:Shared) (σ:St) (H:Hp) (Q:List V->Hp->Prop),Inv X w9 σ H s->t σ H Q->wpAny (model X.prog X.w) X.A (spliced (backTo pos (starEach es X.env))) (AP X w9 σ Q) X.xe s
def PS (X:Cx)(st:Stmt)(t:TS):Prop:=
 ∀(w9:List (Addr×Obj)) (s:Shared) (σ:St) (H:Hp) (D:Ends),Inv X w9 σ H s->t D σ H->wpAny (model X.prog X.w) X.A (exec st X.env) (SP X w9 D) X.xe s
def PSs (X:Cx)(st:List Stmt)(t:TS):Prop:=
 ∀(w9:List (Addr×Obj)) (s:Shared) (σ:St) (H:Hp) (D:Ends),Inv X w9 σ H s->t D σ H->wpAny (model X.prog X.w) X.A (execs st X.env) (SP X w9 D) X.xe s
def thn {α:Type}{t:Sem α}{Q Q':α->Shared->Prop}{M:Model}{A:Around}{E:Value->Shared->Prop}{s:Shared}(h:wpAny M A t Q E s)(hQ:∀a s,Q a s->Q' a s):wpAny M A t Q' E s:=wpAny_mono h hQ λ_ _ x=>x
section
variable {X:Cx}
inductive tVar (i:Nat)(σ:St)(H:Hp)(Q:VK):Prop
 |mk (v)(_:σ[i]? = some (some v))(_:Q v H)
def tC (v:V):TE:=λ_ H Q=>Q v H
def oG {i:Nat}{x:Str}{pos:Pos}(hN:X.N[i]? = some x)(hv:Vis X.env.scope x)(hd:(x==("__debug__":Str))=false:=by decide) (hcd:(x==("__classdict__":Str))=false:=by decide):PE X (.Name x pos) (tVar i):=by
 intro w9 s σ H Q I h;obtain⟨v,e,h⟩:=h;obtain⟨m,hn,hl⟩:=I.loc;obtain⟨u,r,l⟩:=hl i x v hN e hv;have fin:EP X w9 σ Q u s:=⟨v,H,I,r,h⟩;rcases l with ⟨hk,hm⟩ |⟨hk,c,hc,w5⟩
 ·exact wpAny_Name (wpAny_loadName_local I.ok.kind hk hn hm fin) hd
 ·rcases hk with hk |hk
  ·exact wpAny_Name (wpAny_loadName_cell I.ok.kind hk hc w5 fin) hd
  ·exact wpAny_Name (wpAny_loadName_free I.ok.kind hk hc w5 fin hcd) hd
def wQ {i j pos}:PE X (.Constant (.int i) j pos) (tC (.int i)):=λ_ _ _ H _ I h=>wpAny_Constant_int ⟨.int i,H,I.tok _,⟨_,rfl⟩,h⟩
def yR {b j pos}:PE X (.Constant (.bool b) j pos) (tC (.bl b)):=λ_ _ _ H _ I h=>Constant_bool ⟨.bl b,H,I,rfl,h⟩
def wR {j pos}:PE X (.Constant .none j pos) (tC .non):=λ_ _ _ H _ I h=>Constant_none ⟨.non,H,I,rfl,h⟩
def wS {x j pos}:PE X (.Constant (.str x) j pos) (tC (.str x)):=λ_ _ _ H _ I h=>Calls.Constant_str ⟨.str x,H,I.tok _,⟨_,rfl⟩,h⟩
def Gl (X:Cx)(x:Str):Prop:=X.env.kindOf x=some .globalImplicit
def lr {E:Value->Shared->Prop}{w9:List (Addr×Obj)}{s:Shared}{σ:St}{H:Hp}{x:Str}{u:Value}{pos:Pos}{Q:Value->Shared->Prop}(I:Inv X w9 σ H s)(hg:Gl X x)(hm:X.mg x=some u)(h:Q u s)
  (hd:(x==("__debug__":Str))=false:=by decide):wpAny (model X.prog X.w) X.A (eval (.Name x pos) X.env) Q E s:=
 Calls.Name_function_global I.ok.kind hg (Calls.loadGlobal_global (by rw[I.ok.glob];exact I.mod.glob.keeps I.bk) hm h) hd
def fY {E:Value->Shared->Prop}{w9:List (Addr×Obj)}{s:Shared}{σ:St}{H:Hp}{x:Str}{u:Value}{pos:Pos}{Q:Value->Shared->Prop}(I:Inv X w9 σ H s)(hg:Gl X x)(hm:X.mg x=none)(hv:bootBuiltins x=some u)(h:Q u s)
  (hn:x≠"__name__":=by decide) (hd:(x==("__debug__":Str))=false:=by decide):wpAny (model X.prog X.w) X.A (eval (.Name x pos) X.env) Q E s:=by
 obtain⟨mb,h1,h2⟩:=I.mod.blt;exact Calls.Name_function_global I.ok.kind hg (Calls.loadGlobal_builtin (by rw[I.ok.glob];exact I.mod.glob.keeps I.bk) hm (by rw[I.ok.blt];exact h1.keeps I.bk) ((h2 x hn).trans hv) h) hd
def lu {x:Str}{v:V}{u:Value}{pos:Pos}(hg:Gl X x)(hm:X.mg x=some u)(r:RelV v u)(hd:(x==("__debug__":Str))=false:=by decide):PE X (.Name x pos) (tC v):=
 λ_ _ _ H _ I h=>lr I hg hm ⟨v,H,I,r,h⟩ hd
def uL {x:Str}{v:V}{u:Value}{pos:Pos}(hg:Gl X x)(hm:X.mg x=none)(hv:bootBuiltins x=some u)(r:RelV v u)(hn:x≠"__name__":=by decide) (hd:(x==("__debug__":Str))=false:=by decide):PE X (.Name x pos) (tC v):=
 λ_ _ _ H _ I h=>fY I hg hm hv ⟨v,H,I,r,h⟩ hn hd
variable {a b:Expr}{ta tb:TE}{pos:Pos}
inductive tB.I (Q:(Bool->Hp->Prop))(x:V)(H1:Hp):Prop
 |mk (c)(_:x = .bl c)(_:Q c H1)
def tB (t:TE):TT:=λσ H Q=>t σ H (tB.I Q)
def wT {e:Expr}{t:TE}(h:PE X e t)(he:∀whole,isTrue e X.env whole=(do let v ← whole;standAt e.pos;holding [v] (truthy v)):=by intro _;rfl):PT X e (tB t):=by
 intro w9 s σ H Q I hw;refine isTrue_plain (thn (h w9 s σ H _ I hw) λv s1 ⟨x,H1,I1,r1,q1⟩=>?_) (he _);obtain⟨d,rfl,q⟩:=q1;cases r1;exact wpAny_truthy_bool ⟨H1,I1,q⟩
variable {tA tB':TT}{rest:List Expr}
abbrev tAnd.K0 (u:TT)(σ:St)(Q:(Bool->Hp->Prop))(c:Bool)(H1:Hp):Prop:=if c=true then u σ H1 Q else Q false H1
def tAnd (t u:TT):TT:=λσ H Q=>t σ H (tAnd.K0 u σ Q)
abbrev tOr.K0 (u:TT) (σ:St) (Q:(Bool->Hp->Prop)) (c:Bool) (H1:Hp):Prop:=if c=true then Q true H1 else u σ H1 Q
def tOr (t u:TT):TT:=λσ H Q=>t σ H (tOr.K0 u σ Q)
abbrev tNot.K0 (Q:(Bool->Hp->Prop)) (c:Bool) (H1:Hp):Prop:=Q (!c) H1
def tNot (t:TT):TT:=λσ H Q=>t σ H (tNot.K0 Q)
def uM (ha:PT X a tA):PW X (.BoolOp .And [a] pos) tA:=by
 intro wh w9 s σ H Q I h;refine isTrue_and (thn (ha w9 s σ H Q I h) λc s1 e=>?_);cases c with
 |true=>exact isTrue_and_nil e
 |false=>exact e
def wU (ha:PT X a tA):PW X (.BoolOp .Or [a] pos) tA:=by
 intro wh w9 s σ H Q I h;refine isTrue_or (thn (ha w9 s σ H Q I h) λc s1 e=>?_);cases c with
 |false=>exact isTrue_or_nil e
 |true=>exact e
def wV (ha:PT X a tA)(hb:PW X (.BoolOp .And (b::rest) pos) tB'):PW X (.BoolOp .And (a::b::rest) pos) (tAnd tA tB'):=by
 intro wh w9 s σ H Q I h;refine isTrue_and (thn (ha w9 s σ H _ I h) λc s1 ⟨H1,I1,q1⟩=>?_);cases c with
 |true=>exact hb wh w9 s1 σ H1 Q I1 q1
 |false=>exact⟨H1,I1,q1⟩
def yS (ha:PT X a tA)(hb:PW X (.BoolOp .Or (b::rest) pos) tB'):PW X (.BoolOp .Or (a::b::rest) pos) (tOr tA tB'):=by
 intro wh w9 s σ H Q I h;refine isTrue_or (thn (ha w9 s σ H _ I h) λc s1 ⟨H1,I1,q1⟩=>?_);cases c with
 |true=>exact⟨H1,I1,q1⟩
 |false=>exact hb wh w9 s1 σ H1 Q I1 q1
def wW (ha:PT X a tA):PT X (.UnaryOp .Not a pos) (tNot tA):=by
 intro w9 s σ H Q I h;exact isTrue_not (thn (ha w9 s σ H (λc H1=>Q (!c) H1) I h) λc s1 ⟨H1,I1,q1⟩=>⟨H1,I1,q1⟩)
inductive tAndV.I (tb:TE)(σ:St)(Q:VK)(x:V)(H1:Hp):Prop
 |mk (c)(_:x = .bl c)(_:if c=true then tb σ H1 Q else Q (.bl false) H1)
def tAndV (ta tb:TE):TE:=λσ H Q=>ta σ H (tAndV.I tb σ Q)
inductive tOrV.I (tb:TE)(σ:St)(Q:VK)(x:V)(H1:Hp):Prop
 |mk (c)(_:x = .bl c)(_:if c=true then Q (.bl true) H1 else tb σ H1 Q)
def tOrV (ta tb:TE):TE:=λσ H Q=>ta σ H (tOrV.I tb σ Q)
def wX {op}{t:TE}(h:PE X a t):PE X (.BoolOp op [a] pos) t:=λw9 s σ H Q I hw=>BoolOp_one (h w9 s σ H Q I hw)
def wY (ha:PE X a ta)(hb:PE X (.BoolOp .And (b::rest) pos) tb):PE X (.BoolOp .And (a::b::rest) pos) (tAndV ta tb):=by
 intro w9 s σ H Q I h;refine BoolOp_and (thn (ha w9 s σ H _ I h) λv s1 ⟨x,H1,I1,r1,q1⟩=>?_);obtain⟨c,rfl,q1⟩:=q1;cases r1;refine wpAny_truthy_bool ?_;cases c with
 |true=>exact hb w9 s1 σ H1 Q I1 q1
 |false=>exact⟨.bl false,H1,I1,rfl,q1⟩
def yT (ha:PE X a ta)(hb:PE X (.BoolOp .Or (b::rest) pos) tb):PE X (.BoolOp .Or (a::b::rest) pos) (tOrV ta tb):=by
 intro w9 s σ H Q I h;refine BoolOp_or (thn (ha w9 s σ H _ I h) λv s1 ⟨x,H1,I1,r1,q1⟩=>?_);obtain⟨c,rfl,q1⟩:=q1;cases r1;refine wpAny_truthy_bool ?_;cases c with
 |false=>exact hb w9 s1 σ H1 Q I1 q1
 |true=>exact⟨.bl true,H1,I1,rfl,q1⟩
abbrev tIf.K0 (ta:TE) (tb:TE) (σ:St) (Q:VK) (c:Bool) (H1:Hp):Prop:=if c=true then ta σ H1 Q else tb σ H1 Q
def tIf (t:TT)(ta tb:TE):TE:=λσ H Q=>t σ H (tIf.K0 ta tb σ Q)
def rn {c:Expr}(hc:PT X c tA)(ha:PE X a ta)(hb:PE X b tb):PE X (.IfExp c a b pos) (tIf tA ta tb):=by
 intro w9 s σ H Q I h;refine wpAny_IfExp (thn (hc w9 s σ H _ I h) λd s1 ⟨H1,I1,q1⟩=>?_);cases d with
 |true=>exact ha w9 s1 σ H1 Q I1 q1
 |false=>exact hb w9 s1 σ H1 Q I1 q1
end
def SqL (K:Frag)(H:Hp)(a:Addr)(xs:List V):Prop:=
 Rd H a (.lst xs) ∨
  ∃(o:Obj) (its:Array Value) (n:Nat),K.lookup a=some o/\o.cls = .type "list"/\o.dict=none/\o.data = .seq its n/\its.size<=sizeLine/\Vals xs its.toList
def SqT (K:Frag)(H:Hp)(a:Addr)(xs:List V):Prop:=
 Rd H a (.tup xs) ∨
  ∃(o:Obj) (its:Array Value) (n:Nat),K.lookup a=some o/\o.cls = .type "tuple"/\o.data = .seq its n/\its.size<=sizeLine/\Vals xs its.toList
def absV:Value->Option V
 | .none=>some .non
 | .bool b=>some (.bl b)
 | .int i _=>some (.int i)
 | .str x _=>some (.str x)
 | .bytes b _=>some (.byt b)
 | .float b _=>some (.flt b)
 | .ref a=>some (.ref a)
 | .type n=>some (.ty n)
 |_=>none
def RelV.abs {x:V}{u:Value}(r:RelV x u):absV u=some x:=by
 cases x with
 |non=>cases r;rfl
 |bl _=>cases r;rfl
 |int _=>obtain⟨t,rfl⟩:=r;rfl
 |str _=>obtain⟨t,rfl⟩:=r;rfl
 |byt _=>obtain⟨t,rfl⟩:=r;rfl
 |flt _=>obtain⟨t,rfl⟩:=r;rfl
 |ref _=>cases r;rfl
 |ty _=>cases r;rfl
def RelV.inj {x y:V}{u:Value}(r:RelV x u)(q:RelV y u):x=y:=Option.some.inj (r.abs.symm.trans q.abs)
theorem Vals.inj:∀{xs ys:List V} {us:List Value},Vals xs us->Vals ys us->xs=ys
 |_,_,_, .nil, .nil=>rfl
 |_,_,_, .cons r t, .cons r' t'=>by rw[r.inj r',Vals.inj t t']
section
variable {X:Cx}{w9:List (Addr×Obj)}{σ:St}{H:Hp}{s:Shared}{a:Addr}{xs ys:List V}
def SqL.of {K:Frag}(h:H a=some (.lst xs)):SqL K H a xs := .inl (.inl h)
def SqT.of {K:Frag}(h:H a=some (.tup xs)):SqT K H a xs := .inl (.inl h)
def Inv.list (I:Inv X w9 σ H s)(h:SqL X.K H a xs):∃its:List Value,Vals xs its/\PlainL s.heap a its.toArray/\xs.length<=sizeLine:=by
 rcases h with h |⟨o,its,n,hk,hc,hd,hs,hz,r⟩
 ·obtain⟨z,its,n,r,e⟩:=h.ok I.hok;exact⟨its,r,⟨_,n,e,rfl,rfl,rfl⟩,z⟩
 ·refine⟨its.toList,r,⟨o,n,I.kIn a o hk,hc,hd,by simpa using hs⟩,?_⟩;have e:=r.length;simp only[Array.length_toList] at e;omega
def Inv.tuple (I:Inv X w9 σ H s)(h:SqT X.K H a xs):∃its:List Value,Vals xs its/\IsTup s.heap a its.toArray/\xs.length<=sizeLine:=by
 rcases h with h |⟨o,its,n,hk,hc,hs,hz,r⟩
 ·obtain⟨z,its,r,p⟩:=h.ok I.hok;exact⟨its,r,p,z⟩
 ·refine⟨its.toList,r,⟨o,I.kIn a o hk,hc,n,by simpa using hs⟩,?_⟩;have e:=r.length;simp only[Array.length_toList] at e;omega
def Inv.list_inj (I:Inv X w9 σ H s)(h:SqL X.K H a xs)(h':SqL X.K H a ys):xs=ys:=by
 obtain⟨its,r,⟨o,n,e,_,_,d⟩,_⟩:=I.list h;obtain⟨its',r',⟨o',n',e',_,_,d'⟩,_⟩:=I.list h';rw[e] at e';cases e';rw[d] at d';injection d' with d1 _
 have:its=its':=by simpa using congrArg Array.toList d1
 subst this;exact r.inj r'
end
abbrev Cx.wish (X:Cx)(E:Value->Shared->Prop):Cx:={ X with xe:=E }
abbrev Cx.nox (X:Cx):Cx:=X.wish λ_ _=>False
def Cx.Ok.wish {X:Cx}(ok:X.Ok)(E:Value->Shared->Prop):(X.wish E).Ok:=
 ⟨ok.mod,ok.kind,ok.glob,ok.blt,ok.above,ok.inj,ok.has,ok.cab,ok.hd,ok.frames,ok.stk,ok.exf,ok.bs,ok.bsz,ok.noex,ok.exfs,ok.funs,ok.frf⟩
def Cx.Ok.unwish {X:Cx}{E:Value->Shared->Prop}(ok:(X.wish E).Ok):X.Ok:=
 ⟨ok.mod,ok.kind,ok.glob,ok.blt,ok.above,ok.inj,ok.has,ok.cab,ok.hd,ok.frames,ok.stk,ok.exf,ok.bs,ok.bsz,ok.noex,ok.exfs,ok.funs,ok.frf⟩
section
variable {X:Cx}{w9:List (Addr×Obj)}{σ:St}{H:Hp}{s:Shared}{E:Value->Shared->Prop}
def Inv.wish (I:Inv X w9 σ H s)(E:Value->Shared->Prop):Inv (X.wish E) w9 σ H s:=⟨I.ok.wish E,I.os,I.bare,I.base,I.loc,I.cell,I.free,I.freeC,I.pin,I.hok,I.len,I.tk⟩
def Inv.unwish (I:Inv (X.wish E) w9 σ H s):Inv X w9 σ H s:=⟨I.ok.unwish,I.os,I.bare,I.base,I.loc,I.cell,I.free,I.freeC,I.pin,I.hok,I.len,I.tk⟩
def SP.unwish {D:Ends}{f:Flow}{s':Shared}(h:SP (X.wish E) w9 D f s'):SP X w9 D f s':=by
 cases f with
 |next=>obtain⟨σ',H',I,q⟩:=h;exact⟨σ',H',I.unwish,q⟩
 |brk=>obtain⟨σ',H',I,q⟩:=h;exact⟨σ',H',I.unwish,q⟩
 |cont=>obtain⟨σ',H',I,q⟩:=h;exact⟨σ',H',I.unwish,q⟩
 |ret u=>obtain⟨v,σ',H',I,r,q⟩:=h;exact⟨v,σ',H',I.unwish,r,q⟩
def PSs.nox {st:List Stmt}{t:TS}(h:PSs X.nox st t):PSs X st t:=λw9 s σ H D I hw=>
 wpAny_mono (h w9 s σ H D (I.wish _) hw) (λ_ _ q=>q.unwish) λ_ _ z=>False.elim z
end
section
variable {X:Cx}{st:Stmt}{rest:List Stmt}{t u:TS}{e:Expr}{te:TE}{pos:Pos}
def aY:TS:=λD σ H=>D.nx σ H
def Ends.to (D:Ends)(u:TS):Ends:={ D with nx:=u D }
def Ends.to_nx {D:Ends}{u:TS}:(Ends.to D u).nx=u D:=rfl
def Ends.to_rt {D:Ends}{u:TS}:(Ends.to D u).rt=D.rt:=rfl
def tSeq (t u:TS):TS:=λD σ H=>t (Ends.to D u) σ H
def uN:PSs X [] aY:=λ_ _ σ H _ I h=>wpAny_execs_nil ⟨σ,H,I,h⟩
def rp (h1:PS X st t)(h2:PSs X rest u):PSs X (st::rest) (tSeq t u):=by
 intro w9 s σ H D I h;refine wpAny_execs_cons (thn (h1 w9 s σ H { D with nx:=u D } I h) λf s1 q=>?_);cases f with
 |next=>
  obtain⟨σ',H',I',q⟩:=q;exact h2 w9 s1 σ' H' D I' q
 |ret v=>exact q
 |brk=>exact q
 |cont=>exact q
def uO (h1:PS X st t):PSs X [st] t:=by
 intro w9 s σ H D I h;refine wpAny_execs_cons (thn (h1 w9 s σ H D I h) λf s1 q=>?_);cases f with
 |next=>exact wpAny_execs_nil q
 |ret v=>exact q
 |brk=>exact q
 |cont=>exact q
def Inv.quiet {w9:List (Addr×Obj)}{σ:St}{H:Hp}{s:Shared}(I:Inv X w9 σ H s):interactive X.env=false:=by simp[interactive,I.ok.kind]
abbrev tDrop.K0 (D:Ends) (σ:St) (u_0:V) (H1:Hp):Prop:=D.nx σ H1
def tDrop (te:TE):TS:=λD σ H=>te σ H (tDrop.K0 D σ)
def uP (he:PE X e te)(hs:swapsWith e none pos.line X.env=pure false:=by rfl):PS X (.Expr e pos) (tDrop te):=by
 intro w9 s σ H D I h;exact wpAny_Expr_any (thn (he w9 s σ H _ I h) λv s1 ⟨x,H1,I1,r1,q1⟩=>⟨σ,H1,I1,q1⟩) I.quiet hs
def tRet (te:TE):TS:=λD σ H=>te σ H D.rt
def wZ (he:PE X e te):PS X (.Return (some e) pos) (tRet te):=by
 intro w9 s σ H D I h;exact wpAny_Return_some (thn (he w9 s σ H _ I h) λv s1 ⟨x,H1,I1,r1,q1⟩=>⟨x,σ,H1,I1,r1,q1⟩)
abbrev tIfS.K0 (t:TS) (u:TS) (D:Ends) (σ:St) (b:Bool) (H1:Hp):Prop:=if b=true then t D σ H1 else u D σ H1
def tIfS (c:TT)(t u:TS):TS:=λD σ H=>c σ H (tIfS.K0 t u D σ)
def yU {c:Expr}{a b:List Stmt}{tc:TT}(hc:PT X c tc)(ha:PSs X a t)(hb:PSs X b u):PS X (.If c a b pos) (tIfS tc t u):=by
 intro w9 s σ H D I h;refine wpAny_If (thn (hc w9 s σ H _ I h) λd s1 ⟨H1,I1,q1⟩=>?_);cases d with
 |true=>exact ha w9 s1 σ H1 D I1 q1
 |false=>exact hb w9 s1 σ H1 D I1 q1
def tR:TS:=λ_ _ _=>False
def rq:PS X st tR:=λ_ _ _ _ _ _ h=>h.elim
end
abbrev TG:=V->St->Hp->(St->Hp->Prop)->Prop
abbrev TGs:=List V->St->Hp->(St->Hp->Prop)->Prop
def PG (X:Cx)(target:Expr)(t:TG):Prop:=
 ∀(w9:List (Addr×Obj)) (s:Shared) (σ:St) (H:Hp) (v:V) (u:Value) (Q:St->Hp->Prop),Inv X w9 σ H s->RelV v u->t v σ H Q →
  wpAny (model X.prog X.w) X.A (assign target X.env u) (λ_ s'=>∃σ' H',Inv X w9 σ' H' s'/\Q σ' H') X.xe s
def PGs (X:Cx)(ts:List Expr)(t:TGs):Prop:=
 ∀(w9:List (Addr×Obj)) (s:Shared) (σ:St) (H:Hp) (vs:List V) (us:List Value) (Q:St->Hp->Prop),Inv X w9 σ H s->Vals vs us->t vs σ H Q →
  wpAny (model X.prog X.w) X.A (assignInOrder ((assignEach ts X.env).map (·.2)) us) (λ_ s'=>∃σ' H',Inv X w9 σ' H' s'/\Q σ' H') X.xe s
abbrev TSet:=V->V->V->Hp->(Hp->Prop)->Prop
def PSet (X:Cx)(t:TSet):Prop:=
 ∀(w9:List (Addr×Obj)) (s:Shared) (σ:St) (H:Hp) (o i v:V) (ov iv u:Value) (Q:Hp->Prop),Inv X w9 σ H s->RelV o ov->RelV i iv->RelV v u->t o i v H Q →
  wpAny (model X.prog X.w) X.A (setItem ov iv u) (λ_ s'=>∃H',Inv X w9 σ H' s'/\Q H') X.xe s
section
variable {X:Cx}{pos:Pos}
def al (i:Nat):TG:=λv σ H Q=>Q (σ.set i (some v)) H
def uQ {i:Nat}{x:Str}(hN:X.N.Nodup)(hi:X.N[i]? = some x)(hx:Loc X.env.scope x)(hf:X.fn x=true ∨ X.env.scope.names.lookup x=some .local:=by first |exact .inl rfl |exact .inr rfl |assumption):PG X (.Name x pos) (al i):=by
 intro w9 s σ H v u Q I r h;exact wpAny_assign_Name (fQ I hN hi hx r (λs' I'=>⟨_,H,I',h⟩) hf)
inductive gNil (vs:List V)(σ:St)(H:Hp)(Q:(St->Hp->Prop)):Prop
 |mk (_:vs=[])(_:Q σ H)
inductive gCons (t:TG)(u:TGs)(vs:List V)(σ:St)(H:Hp)(Q:(St->Hp->Prop)):Prop
 |mk (v r)(_:vs=v::r)(_:t v σ H λσ' H'=>u r σ' H' Q)
def uR:PGs X [] gNil:=by
 intro w9 s σ H vs us Q I r h;obtain⟨e,h⟩:=h;subst e;cases r;exact assignInOrder_nil ⟨σ,H,I,h⟩
def rz {e:Expr}{es:List Expr}{t:TG}{u:TGs}(h1:PG X e t)(h2:PGs X es u)
  (hs:(assignEach (e::es) X.env).map (·.2)=assign e X.env::(assignEach es X.env).map (·.2):=by rfl):PGs X (e::es) (gCons t u):=by
 intro w9 s σ H vs us Q I r h;obtain⟨v,vr,e1,h⟩:=h;subst e1;cases r with
 |cons r rr=>
  rw[hs];refine assignInOrder_cons (thn (h1 w9 s σ H _ _ _ I r h) λ_ s1 ⟨σ1,H1,I1,q1⟩=>?_);exact h2 w9 s1 σ1 H1 _ _ Q I1 rr q1
inductive gTup (K:Frag)(n:Nat)(t:TGs)(v:V)(σ:St)(H:Hp)(Q:(St->Hp->Prop)):Prop
 |mk (a xs)(_:v = .ref a)(_:SqT K H a xs)(_:xs.length=n)(_:t xs σ H Q)
def tT {es:List Expr}{k:Nat}{t:TGs}{n:Nat}(hc:X.calm=true)(h:PGs X es t)
  (hn:(assignEach es X.env).length=n:=by rfl) (hst:(assignEach es X.env).findIdx? (·.1)=none:=by rfl):PG X (.Tuple es k pos) (gTup X.K n t):=by
 intro w9 s σ H v u Q I r hw;obtain⟨a,xs,e1,hq,hl,hw⟩:=hw;subst e1;cases r;obtain⟨its,rv,ht,hz⟩:=I.tuple hq;refine assign_Tuple_tuple (I.ok.hd hc) ht (by simp[hn,<- hl,rv.length]) hst λh' hx=>?_;have I1:Inv X w9 σ H { s with heap:=h' }:=I.kept (t':=s.toks) λb o e=>hx b o (l26 (Heap.lt_size e)) e;exact h w9 _ σ H xs _ Q I1 (by simpa using rv) hw
abbrev gSub.K2 (σ:St) (Q:(St->Hp->Prop)) (H3:Hp):Prop:=Q σ H3
abbrev gSub.K1 (t:TSet) (v:V) (σ:St) (Q:(St->Hp->Prop)) (o:V) (i:V) (H2:Hp):Prop:=t o i v H2 (gSub.K2 σ Q)
abbrev gSub.K0 (ti:TE) (t:TSet) (v:V) (σ:St) (Q:(St->Hp->Prop)) (o:V) (H1:Hp):Prop:=ti σ H1 (gSub.K1 t v σ Q o)
def gSub (to ti:TE)(t:TSet):TG:=λv σ H Q=>to σ H (gSub.K0 ti t v σ Q)
def xj {o i:Expr}{to ti:TE}{t:TSet}(ho:PE X o to)(hi:PE X i ti)(hs:PSet X t)
  (ha : ∀ v, assign (.Subscript o i pos) X.env v = (do
   let ov ← holding [v] (eval o X.env)
   let iv ← holding [v,ov] (eval i X.env)
   standAt pos
   holding [v,ov,iv] (setItem ov iv v)
   release [v,ov,iv] []):=by intro _;rfl):PG X (.Subscript o i pos) (gSub to ti t):=by
 intro w9 s σ H v u Q I r h;rw[ha];refine wpAny_bind (wpAny_holding (thn (ho w9 s σ H _ I h) λov s1 ⟨x,H1,I1,r1,q1⟩=>?_));refine wpAny_bind (wpAny_holding (thn (hi w9 s1 σ H1 _ I1 q1) λiv s2 ⟨y,H2,I2,r2,q2⟩=>?_));refine wpAny_bind (wpAny_standAt (wpAny_bind (wpAny_holding (thn (hs w9 s2 σ H2 x y v ov iv u _ I2 r1 r2 r q2) λ_ s3 ⟨H3,I3,q3⟩=>?_))));exact wpAny_release ⟨σ,H3,I3,q3⟩
abbrev tAsg.K0 (g:TG) (D:Ends) (σ:St) (x:V) (H1:Hp):Prop:=g x σ H1 D.nx
def tAsg (te:TE)(g:TG):TS:=λD σ H=>te σ H (tAsg.K0 g D σ)
def xn {tg e:Expr}{te:TE}{g:TG}(he:PE X e te)(hg:PG X tg g)(hs:swapsWithSole [tg] e pos.line X.env=pure false:=by rfl) (hw:swappedStores [tg] e X.env=pure none:=by rfl)
  (h1:(assignEach [tg] X.env).map (·.2)=[assign tg X.env]:=by rfl):PS X (.Assign [tg] e pos) (tAsg te g):=by
 intro w9 s σ H D I h;refine wpAny_Assign_stores (thn (he w9 s σ H _ I h) λv s1 ⟨x,H1,I1,r1,q1⟩=>?_) hs hw;rw[h1];exact thn (hg w9 s1 σ H1 x v _ I1 r1 q1) λ_ s2 q=>q
def xo {i:Nat}{x:Str}{e:Expr}{te:TE}{pos':Pos}(hN:X.N.Nodup)(hi:X.N[i]? = some x)(hx:Loc X.env.scope x)(he:PE X e te)(hs:swapsWith e (some (.Name x pos')) pos.line X.env=pure false:=by rfl) (hf:X.fn x=true ∨ X.env.scope.names.lookup x=some .local:=by first |exact .inl rfl |exact .inr rfl |assumption):
  PS X (.Assign [.Name x pos'] e pos) (tAsg te (al i)):=by
 intro w9 s σ H D I h;refine wpAny_Assign_Name (thn (he w9 s σ H _ I h) λv s1 ⟨y,H1,I1,r1,q1⟩=>?_) hs;exact fQ I1 hN hi hx r1 (λs2 I2=>⟨_,H1,I2,q1⟩) hf
end
structure It where
 go:Nat->Hp->Prop
 yld:Nat->Hp->V->Hp->Prop
 stop:Nat->Hp->Prop
def FpOk (X:Cx)(w9:List (Addr×Obj))(H:Hp)(b:Addr):Prop:=
 H b=none/\b≠X.env.locals/\b∉X.fs/\(b∈X.ex ∨ X.s₀.heap.objs.size<=b)/\(∀x c,X.env.cells.lookup x=some c->c≠b)/\∀p∈X.pn++w9,p.1≠b
def Inv.fpOk {X:Cx}{w9:List (Addr×Obj)}{σ:St}{H H':Hp}{s:Shared}{b:Addr}(I:Inv X w9 σ H s)(hb:s.heap.objs.size<=b)(hn:H' b=none):FpOk X w9 H' b:=by
 refine⟨hn,l42 (l19 I.lt hb),I.nofs hb, .inr (l13 I.sz hb),λx c e z=>?_,λp hp z=>?_⟩
 ·obtain⟨v,q⟩:=I.cell x c e;exact absurd (l19 q.lt (by rw[z];exact hb)) (l46 _)
 ·exact absurd (l19 (Heap.lt_size (I.pin p hp).1) (by rw[z];exact hb)) (l46 _)
structure Turn (P:Program)(w:World)(K:Frag)(tg:Expr)(J:It)(fp:List Addr)(it:Addr)(tn:Nat->Heap->Prop):Prop where
 mem:it∈fp
 obj:∀i h,tn i h->∀b∈fp,∃o,h.get? b=some o/\∀v,o.data ≠ .cell v
 keep:∀i h h',tn i h->(∀b∈fp,∀o,h.get? b=some o->h'.get? b=some o)->tn i h'
 item:∀(X:Cx),X.prog=P->X.w=w->X.K=K->X.calm=true->∀(i:Nat) (w9:List (Addr×Obj)) (s:Shared) (σ:St) (H:Hp) (E:Value->Shared->Prop),Inv X w9 σ H s->(∀b∈fp,FpOk X w9 H b)->tn i s.heap->J.go i H →
  wpAny (model P w) X.A (pyNext (.ref it)) (λr s1=>∃u,r=some u ∧
   wpAny (model P w) X.A (letOwnedTupleGo tg (.ref it) u) (λ_ s2=>∃x H',Inv X w9 σ H' s2/\RelV x u/\J.yld i H x H'/\tn (i+1) s2.heap/\∀b∈fp,H' b=none) E s1) E s
 done:∀(X:Cx),X.prog=P->X.w=w->X.K=K->X.calm=true->∀(i:Nat) (w9:List (Addr×Obj)) (s:Shared) (σ:St) (H:Hp) (E:Value->Shared->Prop),Inv X w9 σ H s->(∀b∈fp,FpOk X w9 H b)->tn i s.heap->J.stop i H →
  wpAny (model P w) X.A (pyNext (.ref it)) (λr s1=>r=none/\Inv X w9 σ H s1) E s
 self:∀(A:Around) (i:Nat) (s:Shared) (Q:Value->Shared->Prop) (E:Value->Shared->Prop),tn i s.heap->Q (.ref it) s->wpAny (model P w) A (pyIter (.ref it)) Q E s
abbrev TI:=St->Hp->(It->Hp->Prop)->Prop
inductive PIE (X:Cx)(w9:List (Addr×Obj))(σ:St)(tg:Expr)(R:It->Hp->Prop)(itv:Value)(s2:Shared):Prop
 |mk (it:Addr)(fp:List Addr)(tn:Nat->Heap->Prop)(J:It)(H':Hp)(_:itv = .ref it)(_:Inv X w9 σ H' s2)(_:Turn X.prog X.w X.K tg J fp it tn)(_:tn 0 s2.heap)(_:∀b∈fp,FpOk X w9 H' b)(_:R J H')
def PI (X:Cx)(tg iter:Expr)(wi:TI):Prop:=
 ∀(w9:List (Addr×Obj)) (s:Shared) (σ:St) (H:Hp) (R:It->Hp->Prop),Inv X w9 σ H s->wi σ H R →
  wpAny (model X.prog X.w) X.A (eval iter X.env) (λv s1=>wpAny (model X.prog X.w) X.A (pyIter v) (PIE X w9 σ tg R) X.xe s1) X.xe s
def xq {M:Model}{A:Around}{E:Value->Shared->Prop}{s:Shared}{tg:Expr}{it:Addr}{u:Value}{o:Obj}{n:String}{vs:Array Value}{Q:Unit->Shared->Prop}(ho:s.heap.get? it=some o)(hc:o.cls = .type n)(hd:o.data = .fields vs)
  (hn:["enumerate","zip","dict_itemiterator","dict_reverseitemiterator","odict_iterator","itertools.zip_longest","itertools.pairwise"].contains n=false)(hQ:Q () s):wpAny M A (letOwnedTupleGo tg (.ref it) u) Q E s:=by
 unfold letOwnedTupleGo;cases tg <;> first
  |exact wpAny_pure hQ
  | (cases u <;> first
    |exact wpAny_pure hQ
    | (refine wpAny_bind (wpAny_load ho ?_)
       rw[hc,hd];show wpAny M A (if (["enumerate","zip","dict_itemiterator","dict_reverseitemiterator","odict_iterator","itertools.zip_longest","itertools.pairwise"].contains n&&vs[0]? == some (rawInt _))=true then _ else _) Q E s;rw[if_neg (by intro h;rw[hn,Bool.false_and] at h;cases h)];exact wpAny_pure hQ))
def Itl (K:Frag)(a:Addr):It:=
 ⟨λi H=>∃xs x,SqL K H a xs/\xs[i]? = some x,λi H x H'=>H'=H/\∀xs,SqL K H a xs->xs[i]? = some x,λi H=>∃xs,SqL K H a xs/\xs.length<=i⟩
def Itr (lo:Int)(n:Nat):It:=⟨λi _=>i < n,λi H x H'=>H'=H/\x = .int (lo+i),λi _=>n<=i⟩
def oH {P:Program}{w:World}{K:Frag}{tg:Expr}(a it:Addr):Turn P w K tg (Itl K a) [it] it (λi h=>h.IsListIter it a i) where
 mem:=by simp
 obj:=λi h st b hb=>by
  have e:b=it:=by simpa using hb
  subst e;obtain⟨o,e,c,d⟩:=st;exact⟨o,e,λv z=>by rw[d] at z;cases z⟩
 keep:=λi h h' st k=>st.at λo e=>k it (by simp) o e
 item:=by
  intro X hP hw hK hc i w9 s σ H E I hf st hg;subst hP hw hK;obtain⟨xs,x,hq,hx⟩:=hg;obtain⟨its,rv,p,hz⟩:=I.list hq;obtain⟨u,hu,ru⟩:=rv.get hx;obtain⟨f0,f1,f2,f3,f4,f5⟩:=hf it (by simp);refine wpAny_pyNext_list_item st p.isList (x:=u) (by simpa using hu) λh' st' sb=>?_;have I1:Inv X w9 σ H { s with heap:=h' }:=I.turned (t':=s.toks) (λb o hb e=>(sb.2 b hb).trans e) f0 f1 f3 f4 f5;obtain⟨o,e,c,d⟩:=id st';exact⟨u,rfl,xq (s:={ s with heap:=h' }) e c d ∅ ⟨x,H,I1,ru,⟨rfl,λys hy=>by rw[I.list_inj hy hq];exact hx⟩,st',λb hb=>(hf b hb).1⟩⟩
 done:=by
  intro X hP hw hK hc i w9 s σ H E I hf st hg;subst hP hw hK;obtain⟨xs,hq,hx⟩:=hg;obtain⟨its,rv,p,hz⟩:=I.list hq;obtain⟨f0,f1,f2,f3,f4,f5⟩:=hf it (by simp);have hl:=rv.length;exact wpAny_pyNext_list_end (I.ok.hd hc) st p.isList (by simp;omega) λh' eb=>⟨rfl,I.turned (t':=s.toks) (λb o hb e=>eb b o hb e) f0 f1 f3 f4 f5⟩
 self:=λ_ _ _ _ _ st h=>wpAny_pyIter_listiter st h
def nF {P:Program}{w:World}{K:Frag}{tg:Expr}(it:Addr)(lo:Int)(n:Nat):Turn P w K tg (Itr lo n) [it] it (λi h=>IsRangeIter h it (lo+(i:Nat) * 1) ((n:Int) - (i:Nat)) 1) where
 mem:=by simp
 obj:=λi h st b hb=>by
  have e:b=it:=by simpa using hb
  subst e;exact ⟨_,st,λv z=>by
   have z':Data.fields _=Data.cell v:=z;cases z'⟩
 keep:=λi h h' st k=>k it (by simp) _ st
 item:=by
  intro X hP hw hK hc i w9 s σ H E I hf st hg;subst hP hw hK;obtain⟨f0,f1,f2,f3,f4,f5⟩:=hf it (by simp);have W:=Walks.range (prog:=X.prog) (w:=X.w) (I.ok.hd hc) it lo 1 n;refine wpAny_with_toks (n:=1) I.tk (W.item i s _ _ hg st λv h' tk hv st' kk htk=>?_);obtain⟨t,rfl⟩:=hv;have htk:0 < tk:=htk;have I1:Inv X w9 σ H { s with heap:=h',toks:=tk }:=I.turned (λb o hb e=>kk b o (by simpa using hb) e) f0 f1 f3 f4 f5;refine⟨_,rfl,xq (s:={ s with heap:=h',toks:=tk }) (n:="range_iterator") st' rfl rfl ∅ ⟨.int (lo+i),H,I1,⟨t,?_⟩,⟨rfl,rfl⟩,st',λb hb=>(hf b hb).1⟩⟩;rw[Int.mul_one]
 done:=by
  intro X hP hw hK hc i w9 s σ H E I hf st hg;subst hP hw hK;obtain⟨f0,f1,f2,f3,f4,f5⟩:=hf it (by simp);exact wpAny_pyNext_range_end (I.ok.hd hc) st (by have:n<=i:=hg;omega) λh' eb=>⟨rfl,I.turned (t':=s.toks) (λb o hb e=>eb b o hb e) f0 f1 f3 f4 f5⟩
 self:=λ_ _ _ _ _ st h=>wpAny_pyIter_rangeiter st h
section
variable {X:Cx}{tg:Expr}
inductive iList.I (K:Frag)(R:(It->Hp->Prop))(x:V)(H1:Hp):Prop
 |mk (a)(_:x = .ref a)(_:∃xs,SqL K H1 a xs)(_:R (Itl K a) H1)
def iList (K:Frag)(tl:TE):TI:=λσ H R=>tl σ H (iList.I K R)
def uS {l:Expr}{tl:TE}(hl:PE X l tl):PI X tg l (iList X.K tl):=by
 intro w9 s σ H R I h;refine thn (hl w9 s σ H _ I h) λv s1 ⟨x,H1,I1,r1,q1⟩=>?_;obtain⟨a,e,⟨xs,hq⟩,q⟩:=q1;subst e;cases r1;obtain⟨its,rv,p,hz⟩:=I1.list hq;refine wpAny_pyIter_list p.isList ?_;refine⟨s1.heap.objs.size,[s1.heap.objs.size],_,_,H1,rfl,I1.kept (t':=s1.toks) λb o e=>Heap.get?_push_of_some _ e,oH a _,⟨_,Heap.get?_push_size _ rfl,rfl,rfl⟩,λb hb=>?_,q⟩;have e:b=s1.heap.objs.size:=by simpa using hb
 subst e;exact I1.fpOk (l7 _) (I1.hok.fresh (l7 _))
def rA {w9:List (Addr×Obj)}{σ:St}{H:Hp}{s:Shared}{R:It->Hp->Prop}{E:Value->Shared->Prop}{lo hi:Int}{t u v:Tok}{tk:Nat}(htk:0 < tk)(I:Inv X w9 σ H s) (h1 : -(2 ^ 62)<=lo)(h2:lo < 2 ^ 62) (h3 : -(2 ^ 62)<=hi)(h4:hi < 2 ^ 62)
  (q:R (Itr lo (hi - lo).toNat) H):wpAny (model X.prog X.w) X.A (pyIter (.ref s.heap.objs.size)) (PIE X w9 σ tg R) E { s with heap:=s.heap.push { cls := .type "range",data := .fields #[.int lo t, .int hi u, .int 1 v] },toks:=tk }:=by
 refine wpAny_pyIter_range (IsRange.new ..) (small_one h1 h2 h3 h4) ?_;have I1:Inv X w9 σ H { s with heap:=s.heap.push { cls := .type "range",data := .fields #[.int lo t, .int hi u, .int 1 v] },toks:=tk }:=I.kept λb o e=>Heap.get?_push_of_some _ e;refine ⟨(s.heap.push { cls := .type "range",data := .fields #[.int lo t, .int hi u, .int 1 v] }).objs.size,[(s.heap.push { cls := .type "range",data := .fields #[.int lo t, .int hi u, .int 1 v] }).objs.size],_,_,H,rfl,
  I1.kept (t':=tk) λb o e=>Heap.get?_push_of_some _ e,nF _ lo (hi - lo).toNat,?_,λb hb=>?_,q⟩
 ·have e1:lo+((0:Nat):Int) * 1=lo:=by simp
  have e2:(((hi - lo).toNat:Nat):Int) - ((0:Nat):Int)=Builtin.Range.rangeSize lo hi 1:=by rw[rangeSize_one];split <;> omega
  show IsRangeIter _ _ (lo+((0:Nat):Int) * 1) ((((hi - lo).toNat:Nat):Int) - ((0:Nat):Int)) 1;rw[e1,e2];exact Heap.get?_push_size _ rfl
 ·have e:b=(s.heap.push { cls := .type "range",data := .fields #[.int lo t, .int hi u, .int 1 v] }).objs.size:=by simpa using hb
  subst e;exact I1.fpOk (l7 _) (I1.hok.fresh (l7 _))
inductive iRng1.I (R:(It->Hp->Prop))(vs:List V)(H1:Hp):Prop
 |mk (j:Int)(_:vs=[.int j])(_:-(2 ^ 62)<=j)(_:j < 2 ^ 62)(_:R (Itr 0 j.toNat) H1)
def iRng1 (ta:TA):TI:=λσ H R=>ta σ H (iRng1.I R)
def oI {a:Expr}{ta:TA}{p pos:Pos}(hg:Gl X "range")(hm:X.mg "range"=none)(ha:PA X [a] ta)(hs:starEach [a] X.env=[(false,eval a X.env)]:=by rfl):PI X tg (.Call (.Name "range" p) [a] [] pos) (iRng1 ta):=by
 intro w9 s σ H R I h;refine Call_ (fY I hg hm boot_range (callWith_type1 (thn (ha pos w9 s σ H _ I h) λus s1 ⟨vs,H1,I1,r1,q1⟩=>?_) hs rfl));obtain⟨j,e,q1,q2,q⟩:=q1;subst e;cases r1 with
 |cons r rr=>
  cases rr;obtain⟨t,rfl⟩:=r;exact call_range_1 (rA (by first |exact I1.tk |exact l36 _) I1 nofun nofun q1 q2 (by simpa using q))
abbrev tFor.K0 (g:TG) (tb:TS) (D:Ends) (σ:St) (J:It) (H1:Hp):Prop:=∃W:Nat->Nat->St->Hp->Prop,(∃m,W 0 m σ H1)/\∀i m σ H,W i m σ H->(J.stop i H/\D.nx σ H) ∨ (J.go i H/\∃N:St->Hp->Prop,(∀σ' H',N σ' H'->∃m',m' < m/\W (i+1) m' σ' H')/\∀x H',J.yld i H x H'->g x σ H' λσ2 H2=>tb { D with nx:=N,ct:=N,bk:=D.nx } σ2 H2)
def tFor (wi:TI)(g:TG)(tb:TS):TS:=λD σ H=>wi σ H (tFor.K0 g tb D σ)
def iz (fp:List Addr)(h:Heap):List (Addr×Obj):=fp.filterMap λb=>(h.get? b).map λo=>(b,o)
def dg {fp:List Addr}{h:Heap}{b:Addr}{o:Obj}(hb:b∈fp)(e:h.get? b=some o):(b,o)∈iz fp h:=List.mem_filterMap.mpr ⟨b,hb,by rw[e];rfl⟩
def oJ {fp:List Addr}{h:Heap}{p:Addr×Obj}(hp:p∈iz fp h):p.1∈fp/\h.get? p.1=some p.2:=by
 obtain⟨b,hb,e⟩:=List.mem_filterMap.mp hp;cases q:h.get? b with
 |none=>rw[q] at e;cases e
 |some o=>
  rw[q] at e;have e':(b,o)=p:=Option.some.inj e;subst e';exact⟨hb,q⟩
def Inv.pinned {w9:List (Addr×Obj)}{σ:St}{H:Hp}{s:Shared}{fp:List Addr}(I:Inv X w9 σ H s)(hf:∀b∈fp,FpOk X w9 H b)(ho:∀b∈fp,∃o,s.heap.get? b=some o/\∀v,o.data ≠ .cell v):Inv X (w9++iz fp s.heap) σ H s:=
 I.pins_of λp hp=>(l24.mp hp).elim (λz=>I.pin p (l31 _ z)) λz=>by
  obtain⟨hb,e⟩:=oJ z;obtain⟨f0,f1,f2,_⟩:=hf p.1 hb;obtain⟨o,e',d⟩:=ho p.1 hb;rw[e] at e';cases e';exact⟨e,f0,f1,f2,d⟩
def Inv.unpinned {w9 pl:List (Addr×Obj)}{σ:St}{H:Hp}{s:Shared}(I:Inv X (w9++pl) σ H s):Inv X w9 σ H s:=I.pins_of λp hp=>I.pin p (l31 _ (l54 _ hp))
def xr {iter:Expr}{body:List Stmt}{wi:TI}{g:TG}{tb:TS}{pos:Pos}(hp:PassesOwn (model X.prog X.w) X.A X.env X.xe)(hc:X.calm=true)(hi:PI X tg iter wi)(hg:PG X tg g)(hb:PSs X body tb)
  (hs:∀x,foldedSetIterable iter X.env x=pure x:=by intro _;rfl):PS X (.For tg iter body [] pos) (tFor wi g tb):=by
 intro w9 s σ H D I h;refine wpAny_For (thn (hi w9 s σ H _ I h) λv s1 h1=>thn h1 λitv s2 h2=>?_) hs;obtain⟨it,fp,tn,J,H2,e,I2,T,st2,f2,W,⟨m0,w0⟩,turn⟩:=h2;subst e;have stat:∀{H':Hp},(∀b∈fp,H' b=none)->∀b∈fp,FpOk X w9 H' b:=λhn b hb=>⟨hn b hb,(f2 b hb).2⟩;refine codeAny_forLoop_any (λn s'=>∃i σ' H',Inv X w9 σ' H' s'/\tn i s'.heap/\(∀b∈fp,H' b=none)/\W i n σ' H') ?_ m0 ⟨0,σ,H2,I2,st2,λb hb=>(f2 b hb).1,w0⟩;rintro n s3 ⟨i,σ3,H3,I3,st3,fr3,w3⟩;rcases turn i n σ3 H3 w3 with ⟨stop,qn⟩ |⟨go,N,hN,step⟩
 ·refine wpAny_passesOwn hp (thn (T.done X rfl rfl rfl hc i w9 s3 σ3 H3 X.xe I3 (stat fr3) st3 stop) λr s4 ⟨hr,I4⟩=>?_);subst hr;exact wpAny_execs_nil ⟨σ3,H3,I4,qn⟩
 ·refine wpAny_passesOwn hp (thn (T.item X rfl rfl rfl hc i w9 s3 σ3 H3 X.xe I3 (stat fr3) st3 go) λr s4 ⟨u,hr,h4⟩=>?_);subst hr;refine wpAny_passesOwn hp (thn h4 λ_ s5 ⟨x,H5,I5,r5,y5,st5,fr5⟩=>?_);have I5':=I5.pinned (stat fr5) (T.obj _ _ st5);refine wpAny_passesOwn hp (thn (hg _ s5 σ3 H5 x u _ I5' r5 (step x H5 y5)) λ_ s6 ⟨σ6,H6,I6,q6⟩=>?_);refine wpAny_passesOwn hp (thn (hb _ s6 σ6 H6 _ I6 q6) λf s7 q7=>?_);have again:∀{σ7:St} {H7:Hp},Inv X (w9++iz fp s5.heap) σ7 H7 s7->N σ7 H7->∃m,m < n/\∃i σ' H',Inv X w9 σ' H' s7/\tn i s7.heap/\(∀b∈fp,H' b=none)/\W i m σ' H':=λ{σ7 H7} I7 n7=>by
   obtain⟨m',hm,w7⟩:=hN σ7 H7 n7;refine⟨m',hm,i+1,σ7,H7,I7.unpinned,T.keep _ _ _ st5 λb hb o e=>(I7.pin (b,o) (l31 _ (l31 _ (dg hb e)))).1,λb hb=>?_,w7⟩;obtain⟨o,e,d⟩:=T.obj _ _ st5 b hb;exact(I7.pin (b,o) (l31 _ (l31 _ (dg hb e)))).2.1
  cases f with
  |next=>obtain⟨σ7,H7,I7,n7⟩:=q7;exact again I7 n7
  |cont=>obtain⟨σ7,H7,I7,n7⟩:=q7;exact again I7 n7
  |brk=>obtain⟨σ7,H7,I7,q7⟩:=q7;exact⟨σ7,H7,I7.unpinned,q7⟩
  |ret v=>obtain⟨x7,σ7,H7,I7,r7,q7⟩:=q7;exact⟨x7,σ7,H7,I7.unpinned,r7,q7⟩
end
def bc {K:Frag}{a:Addr}{xs:List V}{g:TG}{tb:TS}{D:Ends}{σ:St}{H:Hp}(Pv:Nat->St->Hp->Prop)(h0:Pv 0 σ H)(hl:∀i σ H,i<=xs.length->Pv i σ H->SqL K H a xs)
  (hs:∀i x σ H,xs[i]? = some x->Pv i σ H->g x σ H λσ2 H2=>tb { D with nx:=Pv (i+1),ct:=Pv (i+1),bk:=D.nx } σ2 H2) (hd:∀σ H,Pv xs.length σ H->D.nx σ H):
  ∃W:Nat->Nat->St->Hp->Prop,(∃m,W 0 m σ H)/\∀i m σ H,W i m σ H →
   ((Itl K a).stop i H/\D.nx σ H) ∨ ((Itl K a).go i H/\∃N:St->Hp->Prop,(∀σ' H',N σ' H'->∃m',m' < m/\W (i+1) m' σ' H')/\∀x H',(Itl K a).yld i H x H'->g x σ H' λσ2 H2=>tb { D with nx:=N,ct:=N,bk:=D.nx } σ2 H2):=by
 refine⟨λi m σ H=>m=xs.length - i/\i<=xs.length/\Pv i σ H,⟨xs.length,by simp,l16 _,h0⟩,?_⟩;rintro i m σ H ⟨rfl,hi,p⟩;have q:=hl i σ H hi p;by_cases hlt:i < xs.length
 ·refine .inr ⟨⟨xs,xs[i],q,by simp[hlt]⟩,Pv (i+1),λσ' H' p'=>⟨xs.length - (i+1),by omega,rfl,hlt,p'⟩,λx H' y=>?_⟩;obtain⟨e,y⟩:=y;subst e;exact hs i x σ _ (y xs q) p
 ·have e:i=xs.length:=by omega
  subst e;exact .inl ⟨⟨xs,q,l7 _⟩,hd σ H p⟩
def bO {lo:Int}{n:Nat}{g:TG}{tb:TS}{D:Ends}{σ:St}{H:Hp}(Pv:Nat->St->Hp->Prop)(h0:Pv 0 σ H)
  (hs:∀i σ H,i < n->Pv i σ H->g (.int (lo+i)) σ H λσ2 H2=>tb { D with nx:=Pv (i+1),ct:=Pv (i+1),bk:=D.nx } σ2 H2) (hd:∀σ H,Pv n σ H->D.nx σ H):
  ∃W:Nat->Nat->St->Hp->Prop,(∃m,W 0 m σ H)/\∀i m σ H,W i m σ H →
   ((Itr lo n).stop i H/\D.nx σ H) ∨ ((Itr lo n).go i H/\∃N:St->Hp->Prop,(∀σ' H',N σ' H'->∃m',m' < m/\W (i+1) m' σ' H')/\∀x H',(Itr lo n).yld i H x H'->g x σ H' λσ2 H2=>tb { D with nx:=N,ct:=N,bk:=D.nx } σ2 H2):=by
 refine⟨λi m σ H=>m=n - i/\i<=n/\Pv i σ H,⟨n,by simp,l16 _,h0⟩,?_⟩;rintro i m σ H ⟨rfl,hi,p⟩;by_cases hlt:i < n
 ·refine .inr ⟨hlt,Pv (i+1),λσ' H' p'=>⟨n - (i+1),by omega,rfl,hlt,p'⟩,λx H' y=>?_⟩;obtain⟨e,y⟩:=y;subst e y;exact hs i σ _ hlt p
 ·have e:i=n:=by omega
  subst e;exact .inl ⟨l7 _,hd σ H p⟩
abbrev R2:=V->V->Hp->VK->Prop
def OpR (X:Cx)(f:Value->Value->Sem Value)(r:R2):Prop:=
 ∀(w9:List (Addr×Obj)) (s:Shared) (σ:St) (H:Hp) (x y:V) (v u:Value) (Q:VK),Inv X w9 σ H s->RelV x v->RelV y u->r x y H Q →
  wpAny (model X.prog X.w) X.A (f v u) (EP X w9 σ Q) X.xe s
def UnR (X:Cx)(f:Value->Sem Value)(r:V->Hp->VK->Prop):Prop:=
 ∀(w9:List (Addr×Obj)) (s:Shared) (σ:St) (H:Hp) (x:V) (v:Value) (Q:VK),Inv X w9 σ H s->RelV x v->r x H Q →
  wpAny (model X.prog X.w) X.A (f v) (EP X w9 σ Q) X.xe s
def dl (X:Cx)(f:Value)(r:List V->Hp->VK->Prop):Prop:=
 ∀(w9:List (Addr×Obj)) (s:Shared) (σ:St) (H:Hp) (xs:List V) (us:List Value) (Q:VK),Inv X w9 σ H s->Vals xs us->r xs H Q →
  wpAny (model X.prog X.w) X.A (call f us) (EP X w9 σ Q) X.xe s
def TruR (X:Cx)(r:V->Hp->(Bool->Hp->Prop)->Prop):Prop:=
 ∀(w9:List (Addr×Obj)) (s:Shared) (σ:St) (H:Hp) (x:V) (v:Value) (Q:Bool->Hp->Prop),Inv X w9 σ H s->RelV x v->r x H Q →
  wpAny (model X.prog X.w) X.A (truthy v) (TP X w9 σ Q) X.xe s
abbrev tOp.K1 (r:R2) (Q:VK) (x:V) (y:V) (H2:Hp):Prop:=r x y H2 Q
abbrev tOp.K0 (r:R2) (tb:TE) (σ:St) (Q:VK) (x:V) (H1:Hp):Prop:=tb σ H1 (tOp.K1 r Q x)
def tOp (r:R2)(ta tb:TE):TE:=λσ H Q=>ta σ H (tOp.K0 r tb σ Q)
abbrev tUn.K0 (r:V->Hp->VK->Prop) (Q:VK) (x:V) (H1:Hp):Prop:=r x H1 Q
def tUn (r:V->Hp->VK->Prop)(ta:TE):TE:=λσ H Q=>ta σ H (tUn.K0 r Q)
inductive rI (C:Int->Int->Prop)(g:Int->Int->V)(x y:V)(H:Hp)(Q:VK):Prop
 |mk (i j)(_:x = .int i)(_:y = .int j)(_:C i j)(_:Q (g i j) H)
inductive rI0 (g:Int->Int->V)(x y:V)(H:Hp)(Q:VK):Prop
 |mk (i j)(_:x = .int i)(_:y = .int j)(_:Q (g i j) H)
inductive rU (g:Int->V)(x:V)(H:Hp)(Q:VK):Prop
 |mk (i)(_:x = .int i)(_:Q (g i) H)
section
variable {X:Cx}{a b c:Expr}{ta tb tc:TE}{pos:Pos}
def binT (ha:PE X a ta)(hb:PE X b tb){w9:List (Addr×Obj)}{s:Shared}{σ:St}{H:Hp}{R:V->V->Hp->Prop}(I:Inv X w9 σ H s)
  (h:ta σ H λx H1=>tb σ H1 λy H2=>R x y H2){Q:Value->Shared->Prop}{f:Value->Value->Sem Value}
  (hf:∀v u s2 x y H2,Inv X w9 σ H2 s2->RelV x v->RelV y u->R x y H2->wpAny (model X.prog X.w) X.A (f v u) Q X.xe s2):
  wpAny (model X.prog X.w) X.A (eval a X.env) (λv s₁=>wpAny (model X.prog X.w) X.A (eval b X.env) (λu s₂=>wpAny (model X.prog X.w) X.A (f v u) Q X.xe s₂) X.xe s₁) X.xe s:=by
 refine thn (ha w9 s σ H _ I h) λv s1 ⟨x,H1,I1,r1,q1⟩=>?_;refine thn (hb w9 s1 σ H1 _ I1 q1) λu s2 ⟨y,H2,I2,r2,q2⟩=>?_;exact hf v u s2 x y H2 I2 r1 r2 q2
def yV {op:Operator}{r:R2}(ho:OpR X (binaryOp op) r)(ha:PE X a ta)(hb:PE X b tb):PE X (.BinOp a op b pos) (tOp r ta tb):=by
 intro w9 s σ H Q I h;exact wpAny_BinOp (binT ha hb I h λv u s2 x y H2 I2 rx ry q=>ho w9 s2 σ H2 x y v u Q I2 rx ry q)
def yW {op:UnaryOp}{r:V->Hp->VK->Prop}(ho:UnR X (unaryOp op) r)(ha:PE X a ta):PE X (.UnaryOp op a pos) (tUn r ta):=by
 intro w9 s σ H Q I h;exact UnaryOp_ (thn (ha w9 s σ H _ I h) λv s1 ⟨x,H1,I1,r1,q1⟩=>ho w9 s1 σ H1 x v Q I1 r1 q1)
def opI {f:Value->Value->Sem Value}{C:Int->Int->Prop}{g:Int->Int->Int}
  (rule:∀(i j:Int)(t u:Tok)(s:Shared)(Q:Value->Shared->Prop)(E:Value->Shared->Prop),C i j->Q (.int (g i j) s.toks) { s with toks:=s.toks+1 }->wpAny (model X.prog X.w) X.A (f (.int i t) (.int j u)) Q E s):
  OpR X f (rI C λi j => .int (g i j)):=by
 intro w9 s σ H x y v u Q I rx ry h;obtain⟨i,j,rfl,rfl,hc,q⟩:=h;obtain⟨t,rfl⟩:=rx;obtain⟨t',rfl⟩:=ry;exact rule i j t t' s _ _ hc ⟨.int (g i j),H,I.tok _,⟨_,rfl⟩,q⟩
def opI0 {f:Value->Value->Sem Value}{g:Int->Int->Int}
  (rule:∀(i j:Int)(t u:Tok)(s:Shared)(Q:Value->Shared->Prop)(E:Value->Shared->Prop),Q (.int (g i j) s.toks) { s with toks:=s.toks+1 }->wpAny (model X.prog X.w) X.A (f (.int i t) (.int j u)) Q E s):
  OpR X f (rI0 λi j => .int (g i j)):=by
 intro w9 s σ H x y v u Q I rx ry h;obtain⟨i,j,rfl,rfl,q⟩:=h;obtain⟨t,rfl⟩:=rx;obtain⟨t',rfl⟩:=ry;exact rule i j t t' s _ _ ⟨.int (g i j),H,I.tok _,⟨_,rfl⟩,q⟩
def opB0 {f:Value->Value->Sem Value}{g:Int->Int->Bool}
  (rule:∀(i j:Int)(t u:Tok)(s:Shared)(Q:Value->Shared->Prop)(E:Value->Shared->Prop),Q (.bool (g i j)) s->wpAny (model X.prog X.w) X.A (f (.int i t) (.int j u)) Q E s):
  OpR X f (rI0 λi j => .bl (g i j)):=by
 intro w9 s σ H x y v u Q I rx ry h;obtain⟨i,j,rfl,rfl,q⟩:=h;obtain⟨t,rfl⟩:=rx;obtain⟨t',rfl⟩:=ry;exact rule i j t t' s _ _ ⟨.bl (g i j),H,I,rfl,q⟩
def CDiv (i j:Int):Prop:=0 < j/\j < 1073741824
def CMul (i j:Int):Prop:=(-(2 ^ 64) < i/\i < 2 ^ 64) ∨ (-(2 ^ 64) < j/\j < 2 ^ 64)
def CMul.ok {i j:Int}(h:CMul i j):IntMulOk i j:=by
 rcases h with ⟨h1,h2⟩ |⟨h1,h2⟩
 ·exact .of_left (intBits_le_64 h1 h2)
 ·exact .of_right (intBits_le_64 h1 h2)
def bp:OpR X (binaryOp .Add) (rI0 λi j => .int (i+j)):=opI0 λ_ _ _ _ _ _ _ q=>add_int q
def iA:OpR X (binaryOp .Sub) (rI0 λi j => .int (i - j)):=opI0 λ_ _ _ _ _ _ _ q=>sub_int q
def mB:OpR X (binaryOp .Mult) (rI CMul λi j => .int (i * j)):=opI λ_ _ _ _ _ _ _ hc q=>mul_int q hc.ok
def uT:OpR X (binaryOp .FloorDiv) (rI CDiv λi j => .int (i / j)):=opI λi j _ _ _ _ _ hc q=>by
 have h1:(0:Int) < j:=hc.1;have h2:j < 1073741824:=hc.2;exact floordiv_int nofun (by rw[Int.fdiv_eq_ediv_of_nonneg i nofun];exact q) (.inl (PyProof.noPylong_small nofun))
def jF:OpR X (binaryOp .Mod) (rI (λ_ j=>0 < j) λi j => .int (i % j)):=opI λi j _ _ _ _ _ hc q=>by
 have h1:(0:Int) < j:=hc;exact mod_int' nofun (by rw[Int.fmod_eq_emod_of_nonneg i nofun];exact q)
def unI {f:Value->Sem Value}{g:Int->Int}
  (rule:∀(i:Int)(t:Tok)(s:Shared)(Q:Value->Shared->Prop)(E:Value->Shared->Prop),Q (.int (g i) s.toks) { s with toks:=s.toks+1 }->wpAny (model X.prog X.w) X.A (f (.int i t)) Q E s):
  UnR X f (rU λi => .int (g i)):=by
 intro w9 s σ H x v Q I rx h;obtain⟨i,rfl,q⟩:=h;obtain⟨t,rfl⟩:=rx;exact rule i t s _ _ ⟨.int (g i),H,I.tok _,⟨_,rfl⟩,q⟩
def fZ:UnR X (unaryOp .USub) (rU λi => .int (-i)):=unI λ_ _ _ _ _ q=>neg_int q
end
def scal:V->V->Bool
 | .non, .non=>true | .non, .int _=>true | .int _, .non=>true | .non, .bl _=>true | .bl _, .non=>true | .non, .str _=>true | .str _, .non=>true
 | .int _, .int _=>true | .bl _, .bl _=>true | .str _, .str _=>true | .byt _, .byt _=>true
 | .int _, .str _=>true | .str _, .int _=>true | .bl _, .str _=>true | .str _, .bl _=>true
 |_,_=>false
inductive rEq (x y:V)(H:Hp)(Q:VK):Prop
 |mk (_:scal x y=true)(_:Q (.bl (decide (x=y))) H)
inductive rNe (x y:V)(H:Hp)(Q:VK):Prop
 |mk (_:scal x y=true)(_:Q (.bl (!decide (x=y))) H)
def lw {i j:Int}:decide (V.int i=V.int j)=(i==j):=by
 rw[Bool.eq_iff_iff];simp
def tU {i j:Bool}:decide (V.bl i=V.bl j)=(i==j):=by
 rw[Bool.eq_iff_iff];simp
def oK {i j:Str}:decide (V.str i=V.str j)=(i==j):=by
 rw[Bool.eq_iff_iff];simp
def oM {i j:Array UInt8}:decide (V.byt i=V.byt j)=(i.toList==j.toList):=by
 rw[Bool.eq_iff_iff];cases i;cases j;simp
section
variable {X:Cx}{a b c:Expr}{ta tb tc:TE}{pos:Pos}
def aP {w9:List (Addr×Obj)}{σ:St}{H:Hp}{s:Shared}{Q:VK}{k k':Bool}(I:Inv X w9 σ H s)(q:Q (.bl k) H)(e:k=k'):EP X w9 σ Q (.bool k') s:=by
 subst e;exact⟨.bl k,H,I,rfl,q⟩
def aI:OpR X (compareOp .Eq) rEq:=by
 intro w9 s σ H x y v u Q I rx ry h;obtain⟨hs,q⟩:=h;cases x with
 |non=>
  cases rx;cases y with
  |non=>cases ry;exact PySem.EqNone.eq_none_none (aP I q (by simp))
  |bl j=>cases ry;exact PySem.EqNone.eq_none_bool (aP I q (by simp))
  |int j=>obtain⟨t',rfl⟩:=ry;exact PySem.EqNone.eq_none_int (aP I q (by simp))
  |str j=>obtain⟨t',rfl⟩:=ry;exact PySem.EqNone.eq_none_str (aP I q (by simp))
  |_=>exact absurd (show false=true from hs) Bool.false_ne_true
 |bl i=>
  cases rx;cases y with
  |non=>cases ry;exact PySem.EqNone.eq_bool_none (aP I q (by simp))
  |bl j=>cases ry;exact eq_bool (aP I q tU)
  |str j=>obtain⟨t',rfl⟩:=ry;exact PySem.EqMixed.eq_bool_str (aP I q (by simp))
  |_=>exact absurd (show false=true from hs) Bool.false_ne_true
 |int i=>
  obtain⟨t,rfl⟩:=rx;cases y with
  |non=>cases ry;exact PySem.EqNone.eq_int_none (aP I q (by simp))
  |int j=>obtain⟨t',rfl⟩:=ry;exact eq_int (aP I q lw)
  |str j=>obtain⟨t',rfl⟩:=ry;exact PySem.EqMixed.eq_int_str (aP I q (by simp))
  |_=>exact absurd (show false=true from hs) Bool.false_ne_true
 |str i=>
  obtain⟨t,rfl⟩:=rx;cases y with
  |non=>cases ry;exact PySem.EqNone.eq_str_none (aP I q (by simp))
  |bl j=>cases ry;exact PySem.EqMixed.eq_str_bool (aP I q (by simp))
  |int j=>obtain⟨t',rfl⟩:=ry;exact PySem.EqMixed.eq_str_int (aP I q (by simp))
  |str j=>obtain⟨t',rfl⟩:=ry;exact eq_str (aP I q oK)
  |_=>exact absurd (show false=true from hs) Bool.false_ne_true
 |byt i=>
  obtain⟨t,rfl⟩:=rx;cases y with
  |byt j=>obtain⟨t',rfl⟩:=ry;exact PySem.W.eq_bytes (aP I q oM)
  |_=>exact absurd (show false=true from hs) Bool.false_ne_true
 |_=>cases y <;> exact absurd (show false=true from hs) Bool.false_ne_true
def iQ:OpR X (compareOp .NotEq) rNe:=by
 intro w9 s σ H x y v u Q I rx ry h;obtain⟨hs,q⟩:=h;cases x with
 |non=>
  cases rx;cases y with
  |non=>cases ry;exact PySem.EqNone.ne_none_none (aP I q (by simp))
  |bl j=>cases ry;exact PySem.EqNone.ne_none_bool (aP I q (by simp))
  |int j=>obtain⟨t',rfl⟩:=ry;exact PySem.EqNone.ne_none_int (aP I q (by simp))
  |str j=>obtain⟨t',rfl⟩:=ry;exact PySem.EqNone.ne_none_str (aP I q (by simp))
  |_=>exact absurd (show false=true from hs) Bool.false_ne_true
 |bl i=>
  cases rx;cases y with
  |non=>cases ry;exact PySem.EqNone.ne_bool_none (aP I q (by simp))
  |bl j=>cases ry;exact ne_bool (aP I q (congrArg not tU))
  |str j=>obtain⟨t',rfl⟩:=ry;exact PySem.EqMixed.ne_bool_str (aP I q (by simp))
  |_=>exact absurd (show false=true from hs) Bool.false_ne_true
 |int i=>
  obtain⟨t,rfl⟩:=rx;cases y with
  |non=>cases ry;exact PySem.EqNone.ne_int_none (aP I q (by simp))
  |int j=>obtain⟨t',rfl⟩:=ry;exact ne_int (aP I q (congrArg not lw))
  |str j=>obtain⟨t',rfl⟩:=ry;exact PySem.EqMixed.ne_int_str (aP I q (by simp))
  |_=>exact absurd (show false=true from hs) Bool.false_ne_true
 |str i=>
  obtain⟨t,rfl⟩:=rx;cases y with
  |non=>cases ry;exact PySem.EqNone.ne_str_none (aP I q (by simp))
  |bl j=>cases ry;exact PySem.EqMixed.ne_str_bool (aP I q (by simp))
  |int j=>obtain⟨t',rfl⟩:=ry;exact PySem.EqMixed.ne_str_int (aP I q (by simp))
  |str j=>obtain⟨t',rfl⟩:=ry;exact ne_str (aP I q (congrArg not oK))
  |_=>exact absurd (show false=true from hs) Bool.false_ne_true
 |byt i=>
  obtain⟨t,rfl⟩:=rx;cases y with
  |byt j=>obtain⟨t',rfl⟩:=ry;exact PySem.W.ne_bytes (aP I q (congrArg not oM))
  |_=>exact absurd (show false=true from hs) Bool.false_ne_true
 |_=>cases y <;> exact absurd (show false=true from hs) Bool.false_ne_true
def rB:OpR X (compareOp .Lt) (rI0 λi j => .bl (decide (i < j))):=opB0 λ_ _ _ _ _ _ _ q=>lt_int q
def jG:OpR X (compareOp .Gt) (rI0 λi j => .bl (decide (j < i))):=opB0 λ_ _ _ _ _ _ _ q=>gt_int q
def yX:OpR X (compareOp .GtE) (rI0 λi j => .bl (decide (j<=i))):=opB0 λ_ _ _ _ _ _ _ q=>ge_int q
inductive R_op_in_str (x y:V)(H:Hp)(Q:VK):Prop
 |mk (i j)(_:x = .str i)(_:y = .str j)(_:Q (.bl (!(Builtin.Str.occurrences j i 0 j.length 1).isEmpty)) H)
def jH:OpR X (compareOp .In) R_op_in_str:=by
 intro w9 s σ H x y v u Q I rx ry h;obtain⟨i,j,rfl,rfl,q⟩:=h;obtain⟨t,rfl⟩:=rx;obtain⟨t',rfl⟩:=ry;exact in_str (aP I q rfl)
inductive R_op_notN (x y:V)(H:Hp)(Q:VK):Prop
 |mk (_:y = .non)(_:Q (.bl (!decide (x = .non))) H)
def oN:OpR X (compareOp .IsNot) R_op_notN:=by
 intro w9 s σ H x y v u Q I rx ry h;obtain⟨rfl,q⟩:=h;cases ry;refine isnot_none_gen (aP I q ?_);cases x <;> first
  |(cases rx;rfl)
  |(obtain⟨t,rfl⟩:=rx;rfl)
def ai (b:Expr){op:CmpOp}(h:op ≠ .In:=by decide) (h2:op ≠ .NotIn:=by decide):behindInMarks op b=false:=by
 have e1:(op==CmpOp.In)=false:=by cases op <;> first |rfl |exact absurd rfl h
 have e2:(op==CmpOp.NotIn)=false:=by cases op <;> first |rfl |exact absurd rfl h2
 cases b <;> simp[behindInMarks,e1,e2]
def uU {op:CmpOp}{r:R2}(ho:OpR X (compareOp op) r)(ha:PE X a ta)(hb:PE X b tb)(hm:behindInMarks op b=false):PE X (.Compare a [op] [b] pos) (tOp r ta tb):=by
 intro w9 s σ H Q I h;exact wpAny_Compare1 (binT ha hb I h λv u s2 x y H2 I2 rx ry q=>ho w9 s2 σ H2 x y v u Q I2 rx ry q) hm
inductive tTest.I (Q:(Bool->Hp->Prop))(x:V)(H':Hp):Prop
 |mk (k)(_:x = .bl k)(_:Q k H')
def tTest (t:TE):TT:=λσ H Q=>t σ H (tTest.I Q)
def uV {op:CmpOp}{r:R2}(ho:OpR X (compareOp op) r)(ha:PE X a ta)(hb:PE X b tb)(hm:behindInMarks op b=false):PT X (.Compare a [op] [b] pos) (tTest (tOp r ta tb)):=by
 intro w9 s σ H Q I h;refine wpAny_isTrue_Compare1 (thn (ha w9 s σ H _ I h) λv s1 ⟨x,H1,I1,r1,q1⟩=>thn (hb w9 s1 σ H1 _ I1 q1) λu s2 ⟨y,H2,I2,r2,q2⟩=>
  thn (ho w9 s2 σ H2 x y v u _ I2 r1 r2 q2) λc s3 ⟨z,H3,I3,r3,k,e,q3⟩=>?_) hm
 subst e;cases r3;exact wpAny_truthy_bool ⟨H3,I3,q3⟩
def TruV (K:Frag)(x:V)(H:Hp)(k:Bool):Prop:=
 match x with
 | .non=>k=false
 | .bl b=>k=b
 | .int i=>k=(i != 0)
 | .str y=>y.length<=sizeLine/\k=((y.length:Int) != 0)
 | .byt y=>y.size<=sizeLine/\k=((y.size:Int) != 0)
 | .ref p=>(∃xs,SqL K H p xs/\k = !xs.isEmpty) ∨ (∃xs,SqT K H p xs/\k = !xs.isEmpty) ∨ ∃kvs,H p=some (.dK kvs)/\k = !kvs.isEmpty
 |_=>False
def nH {κ:Type}{kvs:List (κ×V)}{vs:List (κ×Value)}(r:KV kvs vs):(!vs.isEmpty) = !kvs.isEmpty:=by
 cases r <;> rfl
def iB {xs:List V}{its:List Value}(r:Vals xs its):(!its.toArray.isEmpty) = !xs.isEmpty:=by
 cases r <;> simp
def fI:(sizeLine:Nat) < 2 ^ 63:=by rw[sizeLine_eq];decide
def xu:TruR X (λx H Q=>∃k,TruV X.K x H k/\Q k H):=by
 intro w9 s σ H x v Q I rx h;obtain⟨k,e,q⟩:=h;have hl:=fI;have hs:=sizeLine_eq;cases x with
 |non=>
  cases rx;have e':k=false:=e;subst e';exact truthy_none ⟨H,I,q⟩
 |bl b=>
  cases rx;have e':k=b:=e;subst e';exact wpAny_truthy_bool ⟨H,I,q⟩
 |int i=>
  obtain⟨t,rfl⟩:=rx;have e':k=(i != 0):=e;subst e';exact PySem.P.truthy_int ⟨H,I,q⟩
 |str y=>
  obtain⟨t,rfl⟩:=rx;obtain⟨hy,e'⟩:y.length<=sizeLine/\k=((y.length:Int) != 0):=e;subst e';exact PySem.P.truthy_str nofun ⟨H,I.tok _,q⟩
 |byt y=>
  obtain⟨t,rfl⟩:=rx;obtain⟨hy,e'⟩:y.size<=sizeLine/\k=((y.size:Int) != 0):=e;subst e';exact PySem.W.truthy_bytes nofun ⟨H,I.tok _,q⟩
 |ref p=>
  cases rx;have e':(∃xs,SqL X.K H p xs/\k = !xs.isEmpty) ∨ (∃xs,SqT X.K H p xs/\k = !xs.isEmpty) ∨ ∃kvs,H p=some (.dK kvs)/\k = !kvs.isEmpty:=e;rcases e' with ⟨xs,hx,e'⟩ |⟨xs,hx,e'⟩ |⟨kvs,hx,e'⟩
  ·subst e';obtain⟨its,r,pl,hz⟩:=I.list hx;have w6:=r.length;exact wpAny_truthy_list pl.isList (by simp only[l27];omega) ⟨H,I.tok _,by rw[iB r];exact q⟩
  ·subst e';obtain⟨its,r,pl,hz⟩:=I.tuple hx;have w6:=r.length;exact truthy_tuple pl (by simp only[l27];omega) ⟨H,I.tok _,by rw[iB r];exact q⟩
  ·subst e';obtain⟨hz,hS,vs,r,m⟩:kvs.length<=sizeLine/\(p==sysModules)=false/\∃vs,KV kvs vs/\s.heap.DictOf (lq X.prog X.w) p vs:=I.hok p _ hx;have w6:kvs.length=vs.length:=Paired.length r;exact wpAny_truthy_dict hS m nofun ⟨H,I.tok _,by rw[nH r];exact q⟩
 |_=>exact(show False from e).elim
inductive R_op_add_str (x y:V)(H:Hp)(Q:VK):Prop
 |mk (i j)(_:x = .str i)(_:y = .str j)(_:i.length+j.length<=sizeLine)(_:Q (.str (i++j)) H)
def af:OpR X (binaryOp .Add) R_op_add_str:=by
 intro w9 s σ H x y v u Q I rx ry h;obtain⟨i,j,rfl,rfl,hz,q⟩:=h;obtain⟨t,rfl⟩:=rx;obtain⟨t',rfl⟩:=ry;exact wpAny_with_toks (n:=1) I.tk (add_str (λt' tk htk=>⟨.str (i++j),H,I.tok _ htk,⟨_,rfl⟩,q⟩) hz)
def ly {x:V}{us:List Value}(r:Vals [x] us):∃u,us=[u]/\RelV x u:=by
 cases r with
 |cons r1 r2=>cases r2;exact⟨_,rfl,r1⟩
def oO:dl X (.type "int") (λxs H Q=>(∃i,xs=[.int i]/\Q (.int i) H) ∨ ∃k,xs=[.bl k]/\Q (.int (if k then 1 else 0)) H):=by
 intro w9 s σ H xs us Q I r h;rcases h with ⟨i,rfl,q⟩ |⟨k,rfl,q⟩
 ·obtain⟨u,rfl,t,rfl⟩:=ly r;exact call_int_int ⟨.int i,H,I,⟨_,rfl⟩,q⟩
 ·obtain⟨u,rfl,r1⟩:=ly r;cases r1;exact call_int_bool ⟨.int (if k then 1 else 0),H,I.tok _,⟨_,rfl⟩,q⟩
end
structure ObjM (h:Heap)(x dx C:Addr)(mA:Str->Option Value):Prop where
 obj:h.get? x=some (instObj C dx)
 ns:h.Ns1 dx mA
 ne:dx≠x
def oP {h:Heap}{dx:Addr}{mA:Str->Option Value}(n:h.Ns1 dx mA):∃od,h.get? dx=some od/\∀name,lookIn name od=some (mA name):=by
 obtain⟨o,es,ep,ho,hd,hk,_,hm⟩:=n;refine⟨o,ho,λname=>?_⟩;have e:=hm name;unfold nsFind findBy at e;rw[<- Array.find?_toList] at e;unfold lookIn;rw[hd]
 try dsimp only
 split
 ·rename_i y q;rw[q] at e;exact congrArg some e
 ·rename_i q;rw[q] at e;have a:es.toList.any (·.refKey)=false:=by
   rw[List.any_eq_false];intro y hy;obtain⟨z,t,hkey⟩:=hk y (Array.mem_toList_iff.mp hy);simp[DictEntry.refKey,hkey]
  have a':¬ es.toList.any (·.refKey)=true:=by rw[a];exact Bool.false_ne_true
  rw[if_neg a'];exact congrArg some e
def ObjM.look {h:Heap}{x dx C:Addr}{mA:Str->Option Value}(I:ObjM h x dx C mA):∃od,PySem.W.InstAt h x (instObj C dx) C (some od)/\∀name,lookIn name od=some (mA name):=
 let ⟨od,ho,hl⟩:=oP I.ns
 ⟨od,⟨I.obj,rfl,rfl,ho⟩,hl⟩
section
variable {prog:Program}{w:World}{A:Around}{E:Value->Shared->Prop}{s:Shared}{K:Frag}{x dx C f:Addr}{mA:Str->Option Value}{name:Str}{v:Value}
def uW {expr:Bool}{Q:Value->Shared->Prop}(X:K.In s.heap)(I:ObjM s.heap x dx C mA)(hg:plainGet K C name=true)(hh:hasDictIn K C=true)
  (ha:findIn K (.ref C) name=some none)(hv:mA name=some v)(hv':handedIn v=true)(h:Q v { s with toks:=s.toks+1 }):
  wpAny (model prog w) A (getAttr (.ref x) name expr) Q E s:=by
 obtain⟨od,J,hl⟩:=I.look;exact PySem.W.get_value X J (plainGet_of hg).1 (PySem.W.findObj_own hh ha rfl (by rw[hl,hv])) hv' h
def rC {pl:Sem Bool}{Q:Value×List Value->Shared->Prop}(X:K.In s.heap)(I:ObjM s.heap x dx C mA)(hg:plainGet K C name=true)
  (hf:findIn K (.ref C) name=some (some (.ref f)))(ht:isFn K (.ref f)=true)(hv:mA name=none)(h:Q (.ref f,[.ref x]) s):
  wpAny (model prog w) A (getMethod (.ref x) name pl) Q E s:=by
 obtain⟨od,J,hl⟩:=I.look;exact PySem.W.method_fn X J (plainGet_of hg).1 (plainGet_of hg).2 hf (beq_iff_eq.mp ht) (by show (lookIn name od).map (·.isSome)=some false;rw[hl,hv];rfl) h
def uX {ns:List Str}{Q:Unit->Shared->Prop}(X:K.In s.heap)(I:ObjM s.heap x dx C mA)
  (hs:findIn K (.ref C) "__setattr__"=some (some (.builtin "object.__setattr__")))(hp:plainOver K C=true)(ht:takerIn K C name=some none)(hh:hasDictIn K C=true)
  (hw:PySem.Within mA ns)(hsz:ns.length<=sizeLine)
  (h:∀h',ObjM h' x dx C (λy=>if y=name then some v else mA y)->Heap.SameBut dx s.heap h'->Q () { s with heap:=h',toks:=s.toks+2 }):
  wpAny (model prog w) A (setAttr (.ref x) name v) Q E s:=by
 obtain⟨od,J,hl⟩:=I.look;refine PySem.W.set_plain X J hs (PySem.W.osa_open (s:={ s with toks:=s.toks+1 }) (r:=none) X J hp ht λb=>?_);obtain⟨cd,hc,hd'⟩:=PySem.W.any_some hh;have hx:s.heap.get? x=some ⟨.ref C,some dx, .plain,#[]⟩:=I.obj;refine wpAny_bind (wpAny_pure (wpAny_bind (wpAny_bind (wpAny_loadPart hx (wpAny_bind (PySem.W.Looks.here (s:={ s with toks:=s.toks+1 }) (PySem.W.looks_clsIn X hc) ?_))))));rw[hd'];refine wpAny_pure (a:=some dx) (wpAny_bind (wpAny_pure (wpAny_bind ?_)));refine wpAny_nsSet1 (s:={ s with toks:=s.toks+1 }) I.ns λh' hn2 hs2=>?_;obtain⟨oD,esD,epD,hoD,hdD,hcD⟩:=hn2.count (PySem.Within.cons name v hw);refine wpAny_bind (wpAny_lookBehind hoD (by rw[hdD];exact pastItsLine_dict (l13 hcD (by rw[l9];omega))) ?_);exact wpAny_pure (h _ ⟨(hs2.2 _ (Ne.symm I.ne)).trans I.obj,hn2,I.ne⟩ hs2)
def rD {R:Result->Shared->Prop}{vs:List Value}{kw:List (Str×Value)}(X:K.In s.heap)(hm:makesIn K C=true)
  (hi:findIn K (.ref C) "__init__"=some (some (.ref f)))(hf:PySem.W.typeIn K (.ref f)=some (.type "function"))
  (h:codeAny (model prog w) (A.under (.builtin "type.__call__" ⟨.ref C::vs,kw⟩)) (.call (.ref f) ⟨.ref (s.heap.objs.size+1)::vs,kw⟩) (PySem.W.InitBack (s.heap.objs.size+1) R)
   { s with heap:=(s.heap.push emptyDict).push (instObj C s.heap.objs.size) }):
  codeAny (model prog w) A (.call (.ref C) ⟨vs,kw⟩) R s:=by
 obtain⟨hh,g,d,t,os⟩:=s;exact PySem.W.make_core (PySem.W.makes_of X hm) (PySem.W.looks_findIn X hi) (λself=>PySem.W.bind_fn X self hf) (.inl rfl) h
end
def putF (f:Str)(v:V):List (Str×V)->List (Str×V)
 | []=>[(f,v)]
 |(g,x)::r=>if g=f then (g,v)::r else (g,x)::putF f v r
theorem f6 (f g:Str)(v:V):∀fs:List (Str×V),(putF f v fs).lookup g=if g=f then some v else fs.lookup g
 | []=>by
  show List.lookup g [(f,v)]=_;by_cases h:g=f
  ·have hb:(g==f)=true:=beq_iff_eq.mpr h;simp only[List.lookup,hb,if_pos h]
  ·have hb:(g==f)=false:=beq_eq_false_iff_ne.mpr h;simp only[List.lookup,hb,if_neg h]
 |(k,x)::r=>by
  have ih:=f6 f g v r;rw[show putF f v ((k,x)::r)=(if k=f then (k,v)::r else (k,x)::putF f v r) from rfl];by_cases hk:k=f
  ·rw[if_pos hk];by_cases h:g=k
   ·have hb:(g==k)=true:=beq_iff_eq.mpr h;simp only[List.lookup,hb,if_pos (h.trans hk)]
   ·have hb:(g==k)=false:=beq_eq_false_iff_ne.mpr h;simp only[List.lookup,hb,if_neg (λe:g=f=>h (e.trans hk.symm))]
  ·rw[if_neg hk];by_cases h:g=k
   ·have hb:(g==k)=true:=beq_iff_eq.mpr h;simp only[List.lookup,hb,if_neg (λe:g=f=>hk (h.symm.trans e))]
   ·have hb:(g==k)=false:=beq_eq_false_iff_ne.mpr h;simp only[List.lookup,hb];exact ih
theorem f7 (f:Str)(v:V):∀fs:List (Str×V),f∈(putF f v fs).map (·.1)/\∀g,g∈fs.map (·.1)->g∈(putF f v fs).map (·.1)
 | []=>⟨by simp[putF],λg h=>by simp at h⟩
 |(k,x)::r=>by
  obtain⟨i1,i2⟩:=f7 f v r;rw[show putF f v ((k,x)::r)=(if k=f then (k,v)::r else (k,x)::putF f v r) from rfl];by_cases hk:k=f
  ·rw[if_pos hk];subst hk;exact⟨by simp,λg h=>by simpa using h⟩
  ·rw[if_neg hk];refine⟨?_,λg h=>?_⟩
   ·rw[l20];exact l15 _ i1
   ·rw[l20] at h ⊢;rcases l8.mp h with e |e
    ·exact l8.mpr (.inl e)
    ·exact l15 _ (i2 g e)
theorem f8 (f:Str)(v:V):∀fs:List (Str×V),(putF f v fs).length<=fs.length+1
 | []=>by simp[putF]
 |(k,x)::r=>by
  have ih:=f8 f v r;rw[show putF f v ((k,x)::r)=(if k=f then (k,v)::r else (k,x)::putF f v r) from rfl];by_cases hk:k=f
  ·rw[if_pos hk,l9,l9];omega
  ·rw[if_neg hk,l9,l9];omega
def RelO.some_of {v:V}{o:Option Value}(r:RelO (some v) o):∃u,o=some u/\RelV v u:=by
 cases o with
 |none=>exact(show False from r).elim
 |some u=>exact⟨u,rfl,r⟩
def RelO.none_of {o:Option Value}(r:RelO none o):o=none:=by
 cases o with
 |none=>rfl
 |some u=>exact(show False from r).elim
def oQ {v:V}{u:Value}(r:RelV v u):handedIn u=true:=by
 cases v with
 |non=>cases (show u=Value.none from r);rfl
 |bl b=>cases (show u=Value.bool b from r);rfl
 |int i=>obtain⟨t,e⟩:=(show ∃t,u=Value.int i t from r);cases e;rfl
 |str x=>obtain⟨t,e⟩:=(show ∃t,u=Value.str x t from r);cases e;rfl
 |byt b=>obtain⟨t,e⟩:=(show ∃t,u=Value.bytes b t from r);cases e;rfl
 |flt b=>obtain⟨t,e⟩:=(show ∃t,u=Value.float b t from r);cases e;rfl
 |ref a=>cases (show u=Value.ref a from r);rfl
 |ty n=>cases (show u=Value.type n from r);rfl
section
variable {P:Program}{w:World}{H H':Hp}{h h':Heap}{a C dx:Addr}{fs fs':List (Str×V)}
def iR (hok:HOk P w H h)(e:H a=some (.ins C dx fs)):∃mA,ObjM h a dx C mA/\(∀f,RelO (fs.lookup f) (mA f))/\PySem.Within mA (fs.map (·.1))/\fs.length<=1000/\H dx=some (.own a):=by
 obtain⟨d,z,ne,ob,mA,n,r,q⟩:=(show ObjOk P w H h a (.ins C dx fs) from hok a _ e);exact⟨mA,⟨ob,n,ne⟩,r,q,z,d⟩
end
structure Cls (K:Frag)(C:Addr):Prop where
 pg:plainGet K C Str.empty=true
 hd:hasDictIn K C=true
 po:plainOver K C=true
 sa:findIn K (.ref C) "__setattr__"=some (some (.builtin "object.__setattr__"))
def Cls.get {K:Frag}{C:Addr}(c:Cls K C)(f:Str):plainGet K C f=true:=c.pg
def NoAttr (K:Frag)(C:Addr)(f:Str):Prop:=findIn K (.ref C) f=some none
def NoAttr.taker {K:Frag}{C:Addr}{f:Str}(n:NoAttr K C f):takerIn K C f=some none:=by
 unfold takerIn;rw[show findIn K (.ref C) f=some none from n];rfl
structure Meth (K:Frag)(C:Addr)(m:Str)(f:Addr):Prop where
 at_:findIn K (.ref C) m=some (some (.ref f))
 fn:isFn K (.ref f)=true
 kp:keepIn K (.ref f)=true
section
variable {X:Cx}{w9:List (Addr×Obj)}{σ:St}{H:Hp}{s:Shared}{a C dx:Addr}{fs:List (Str×V)}{f:Str}{v:V}{A:Around}{E:Value->Shared->Prop}
def nI {b:Bool}{Q:Value->Shared->Prop}(I:Inv X w9 σ H s)(e:H a=some (.ins C dx fs))(c:Cls X.K C)(n:NoAttr X.K C f)(l:fs.lookup f=some v)
  (h:∀u s',Inv X w9 σ H s'->RelV v u->Q u s'):wpAny (model X.prog X.w) A (getAttr (.ref a) f b) Q E s:=by
 obtain⟨mA,O,r,_,_,_⟩:=iR I.hok e;obtain⟨u,hu,ru⟩:=RelO.some_of (v:=v) (o:=mA f) (by rw[<- l];exact r f);exact uW I.kIn O (c.get f) c.hd n hu (oQ ru) (h u _ (I.tok _) ru)
def eV {m:Str}{g:Addr}{pl:Sem Bool}{Q:Value×List Value->Shared->Prop}(I:Inv X w9 σ H s)(e:H a=some (.ins C dx fs))(c:Cls X.K C)(k:Meth X.K C m g)(l:fs.lookup m=none)
  (h:Q (.ref g,[.ref a]) s):wpAny (model X.prog X.w) A (getMethod (.ref a) m pl) Q E s:=by
 obtain⟨mA,O,r,_,_,_⟩:=iR I.hok e;have hn:mA m=none:=RelO.none_of (by rw[<- l];exact r m);exact rC I.kIn O (c.get m) k.at_ k.fn hn h
def nJ {y:V}{u:Value}{Q:Unit->Shared->Prop}(I:Inv X w9 σ H s)(e:H a=some (.ins C dx fs))(c:Cls X.K C)(n:NoAttr X.K C f)(hl:fs.length < 1000)(ry:RelV y u)
  (h:∀s',Inv X w9 σ (upd H a (.ins C dx (putF f y fs))) s'->Q () s'):wpAny (model X.prog X.w) A (setAttr (.ref a) f u) Q E s:=by
 obtain⟨mA,O,r,wi,_,ho⟩:=iR I.hok e;have hz:(fs.map (·.1)).length<=sizeLine:=by rw[l5,sizeLine_eq];omega
 refine uX I.kIn O c.sa c.po n.taker c.hd wi hz λh' O' sb=>h _ ?_;have hd:∃o,h'.get? dx=some o:=let ⟨o,_,_,e',_⟩:=O'.ns;⟨o,e'⟩
 refine I.write (x:=a) (e:=dx) (by rw[e];exact True.intro) (.inr ho) (λb q hb z=>(sb.2 b hb).trans z) hd ?_;refine⟨by rw[ad O.ne];exact ho,?_,O.ne,O'.obj,_,O'.ns,λg=>?_,λg hg=>?_⟩
 ·have:=f8 f y fs;omega
 ·show RelO ((putF f y fs).lookup g) (if g=f then some u else mA g);rw[f6];by_cases q:g=f
  ·rw[if_pos q,if_pos q];exact ry
  ·rw[if_neg q,if_neg q];exact r g
 ·by_cases q:g=f
  ·rw[q];exact(f7 f y fs).1
  ·refine(f7 f y fs).2 g (wi g λz=>hg ?_);show (if g=f then some u else mA g)=none;rw[if_neg q];exact z
def Inv.made (I:Inv X w9 σ H s):Inv X w9 σ (upd (upd H s.heap.objs.size (.own (s.heap.objs.size+1))) (s.heap.objs.size+1) (.ins C s.heap.objs.size []))
  { s with heap:=(s.heap.push emptyDict).push (instObj C s.heap.objs.size) }:=by
 have e1:(s.heap.push emptyDict).get? s.heap.objs.size=some emptyDict:=Heap.get?_push_size s.heap rfl;have e2:((s.heap.push emptyDict).push (instObj C s.heap.objs.size)).get? (s.heap.objs.size+1)=some (instObj C s.heap.objs.size):=by
  have:=Heap.get?_push_size (s.heap.push emptyDict) (o:=instObj C s.heap.objs.size) rfl;rwa [Heap.size_push] at this
 have e3:(s.heap.push emptyDict).Ns s.heap.objs.size (λ_=>none):=⟨emptyDict,#[],_,e1,rfl,(λe he=>absurd he (by simp)),λ_=>rfl⟩;have I1:=I.laid (a:=s.heap.objs.size) (o := .own (s.heap.objs.size+1)) (h':=s.heap.push emptyDict) (t':=s.toks) (λb u q=>Heap.get?_push_of_some _ q) (l7 _) ⟨_,e1⟩;refine I1.laid (a:=s.heap.objs.size+1) (o := .ins C s.heap.objs.size []) (t':=s.toks) (λb u q=>Heap.get?_push_of_some _ q) (Nat.le_of_eq (Heap.size_push _ _)) ?_;have ne:s.heap.objs.size≠s.heap.objs.size+1:=l26 (l71 _);refine⟨by rw[ad ne,aa],l16 _,ne,e2,λ_=>none,(Heap.Ns1.of_empty e3).at λo q=>Heap.get?_push_of_some _ q,λ_=>True.intro,λy hy=>absurd rfl hy⟩
def uY {prog:Program}{w:World}{env:Env}{e:Expr}{f:Str}{pos:Pos}{s:Shared}{Q:Value->Shared->Prop}(hb:attributeBase e f env (eval e env)=eval e env)
  (h:wpAny (model prog w) A (eval e env) (λo s₁=>wpAny (model prog w) A (getAttr o f true) Q E s₁) E s):wpAny (model prog w) A (eval (.Attribute e f pos) env) Q E s:=
 Attribute_any_ h (by rw[arm_eval_Attribute,hb])
end
inductive tFld.I (K:Frag)(f:Str)(Q:VK)(x:V)(H1:Hp):Prop
 |mk (a C dx fs v)(_:x = .ref a)(_:H1 a=some (.ins C dx fs))(_:Cls K C)(_:NoAttr K C f)(_:fs.lookup f=some v)(_:Q v H1)
def tFld (K:Frag)(ta:TE)(f:Str):TE:=λσ H Q=>ta σ H (tFld.I K f Q)
inductive sFld.I (K:Frag)(f:Str)(D:Ends)(σ:St)(y x:V)(H2:Hp):Prop
 |mk (a C dx fs)(_:x = .ref a)(_:H2 a=some (.ins C dx fs))(_:Cls K C)(_:NoAttr K C f)(_:fs.length < 1000)(_:D.nx σ (upd H2 a (.ins C dx (putF f y fs))))
abbrev sFld.K0 (K:Frag) (ta:TE) (f:Str) (D:Ends) (σ:St) (y:V) (H1:Hp):Prop:=ta σ H1 (sFld.I K f D σ y)
def sFld (K:Frag)(ta tv:TE)(f:Str):TS:=λD σ H=>tv σ H (sFld.K0 K ta f D σ)
section
variable {X:Cx}{o e value:Expr}{f:Str}{pos pos' tpos:Pos}{ta tv:TE}
def xw (he:PE X e ta)(hb:attributeBase e f X.env (eval e X.env)=eval e X.env):PE X (.Attribute e f pos) (tFld X.K ta f):=by
 intro w9 s σ H Q I h;refine uY hb (thn (he w9 s σ H _ I h) λu s1 zz=>?_);obtain⟨x,H1,I1,rx,a,C,dx,fs,v,ex,ea,c,n,l,q⟩:=zz;subst ex;obtain rfl:u=Value.ref a:=rx;exact nI I1 ea c n l λu' s2 I2 ru=>⟨v,H1,I2,ru,q⟩
def xx (ha:PE X o ta)(hv:PE X value tv)(hs:swapsWith value (some (.Attribute o f pos')) pos.line X.env=pure false):PS X (.Assign [.Attribute o f pos'] value pos) (sFld X.K ta tv f):=by
 intro w9 s σ H D I h;refine plainObj_wpAny_Assign_Attribute (thn (hv w9 s σ H _ I h) λu s1 ⟨y,H1,I1,ry,q⟩=>thn (ha w9 s1 σ H1 _ I1 q) λov s2 zz=>?_) hs;obtain⟨x,H2,I2,rx,a,C,dx,fs,ex,ea,c,n,l,q2⟩:=zz;subst ex;obtain rfl:ov=Value.ref a:=rx;exact nJ I2 ea c n l ry λs3 I3=>⟨σ,_,I3,q2⟩
end
section
variable {X:Cx}{w9:List (Addr×Obj)}{σ:St}{H:Hp}{s:Shared}{A:Around}{E:Value->Shared->Prop}{Q:Value->Shared->Prop}{c:Value}{b:Bool}
inductive TyOf (K:Frag)(H:Hp):V->Value->Prop where
 |non:TyOf K H .non (.type "NoneType")
 |bl (x:Bool):TyOf K H (.bl x) (.type "bool")
 |int (i:Int):TyOf K H (.int i) (.type "int")
 |str (x:Str):TyOf K H (.str x) (.type "str")
 |flt (x:UInt64):TyOf K H (.flt x) (.type "float")
 |lst {a:Addr} {xs:List V} (e:H a=some (.lst xs)):TyOf K H (.ref a) (.type "list")
 |frz {a:Addr} {o:Obj} {xs:List V} (e:H a=some (.frz o (.lst xs))):TyOf K H (.ref a) (.type "list")
 |tup {a:Addr} {xs:List V} (e:H a=some (.tup xs)):TyOf K H (.ref a) (.type "tuple")
 |dK {a:Addr} {kvs:List (Key×V)} (e:H a=some (.dK kvs)):TyOf K H (.ref a) (.type "dict")
 |dT {a:Addr} {kvs:List (List Key×V)} (e:H a=some (.dT kvs)):TyOf K H (.ref a) (.type "dict")
 |ins {a C dx:Addr} {fs:List (Str×V)} (e:H a=some (.ins C dx fs)) (cl:Cls K C) (ha:findIn K (.ref C) "__class__"=some (some (.builtin "object.__class__")))
   (hn:specialIn K (.builtin "object.__class__") "__get__"=some (some (.builtin "getset_descriptor.__get__"))) (htk:takesIn K (.builtin "object.__class__")=some true)
   (hm:mroIn K C (.type "object")=some true):TyOf K H (.ref a) (.ref C)
def jI {x:V}{u t:Value}(I:Inv X w9 σ H s)(rx:RelV x u)(ty:TyOf X.K H x t)(e:kitOne X.K t c=some b)(h:∀tk,Q (.bool b) { s with toks:=tk }):
  wpAny (model X.prog X.w) A (call (.builtin "isinstance") [u,c]) Q E s:=by
 cases ty with
 |non=>cases (show u=Value.none from rx);exact kia_one kitx_none I.kIn True.intro e (λz=>nomatch z) h
 |bl y=>cases (show u=Value.bool y from rx);exact kia_one kitx_bool I.kIn True.intro e (λz=>nomatch z) h
 |int i=>obtain⟨t,q⟩:=(show ∃t,u=Value.int i t from rx);cases q;exact kia_one kitx_int I.kIn True.intro e (λz=>nomatch z) h
 |str y=>obtain⟨t,q⟩:=(show ∃t,u=Value.str y t from rx);cases q;exact kia_one kitx_str I.kIn True.intro e (λz=>nomatch z) h
 |flt y=>obtain⟨t,q⟩:=(show ∃t,u=Value.float y t from rx);cases q;exact kia_one PySem.W.kitx_float I.kIn True.intro e (λz=>nomatch z) h
 | @lst a xs ea=>
  cases (show u=Value.ref a from rx);obtain⟨_,_,n,_,h1⟩:=(show ObjOk X.prog X.w H s.heap a (.lst xs) from I.hok a _ ea);exact kia_one kitx_list I.kIn ⟨_,h1,rfl⟩ e (λz=>nomatch z) h
 | @frz a ob xs ea=>
  cases (show u=Value.ref a from rx);obtain⟨_,_,_,n,_,h1⟩:=(show ObjOk X.prog X.w H s.heap a (.frz ob (.lst xs)) from I.hok a _ ea);exact kia_one kitx_list I.kIn ⟨_,h1,rfl⟩ e (λz=>nomatch z) h
 | @tup a xs ea=>
  cases (show u=Value.ref a from rx);obtain⟨_,_,_,p⟩:=(show ObjOk X.prog X.w H s.heap a (.tup xs) from I.hok a _ ea);obtain⟨o,h1,h2,_⟩:=p;exact kia_one kitx_tuple I.kIn ⟨o,h1,h2⟩ e (λz=>nomatch z) h
 | @dK a kvs ea=>
  cases (show u=Value.ref a from rx);obtain⟨_,_,vs,_,p⟩:=(show ObjOk X.prog X.w H s.heap a (.dK kvs) from I.hok a _ ea);obtain⟨o,es,ep,h1,h2,_⟩:=p;exact kia_one kitx_dict I.kIn ⟨o,h1,h2.1⟩ e (λz=>nomatch z) h
 | @dT a kvs ea=>
  cases (show u=Value.ref a from rx);obtain⟨_,_,xs,_,o,es,ep,h1,h2,_⟩:=(show ObjOk X.prog X.w H s.heap a (.dT kvs) from I.hok a _ ea);exact kia_one kitx_dict I.kIn ⟨o,h1,h2.1⟩ e (λz=>nomatch z) h
 | @ins a C dx fs ea cl ha hn htk hm=>
  cases (show u=Value.ref a from rx);obtain⟨mA,O,_⟩:=iR I.hok ea;obtain⟨od,J,_⟩:=O.look;exact kia_one (PySem.W.kitx_own (cl.get _) cl.hd ha hn htk hm) I.kIn J e (λz=>nomatch z) h
end
structure Room (k:Nat)(A:Around):Prop where
 hd:A.handled=none
 dp:A.depth+3 * k+5 < recursionLimit
 un:A.units+16 * k+200 < cLine
def Room.mono {j k:Nat}{A:Around}(r:Room k A)(h:j<=k:=by omega):Room j A:=⟨r.hd,by have:=r.dp;omega,by have:=r.un;omega⟩
def Room.deeper {k:Nat}{A:Around}(r:Room (k+1) A)(env:Env):Room k (A.deeper env):=
 ⟨r.hd,by have:=r.dp;show A.depth+1+3 * k+5 < _;omega,by have:=r.un;show A.units+3+16 * k+200 < _;omega⟩
def nK {A:Around}{C:Addr}{us:List Value}{kw:List (Str×Value)}:(A.under (.builtin "type.__call__" ⟨.ref C::us,kw⟩)).depth=A.depth+1:=by
 first |rfl |simp[Around.under,Code.weight,Code.isCreation,Code.isGuard,Code.isCaller,Code.frames,Code.isFrame,guardIds]
def nM {A:Around}{C:Addr}{us:List Value}{kw:List (Str×Value)}:(A.under (.builtin "type.__call__" ⟨.ref C::us,kw⟩)).units=A.units+1:=by
 first |rfl |simp[Around.under,Code.cUnits,Code.frames,Code.isFrame]
def Room.make {k:Nat}{A:Around}(r:Room (k+1) A)(C:Addr)(us:List Value)(kw:List (Str×Value)):Room k (A.under (.builtin "type.__call__" ⟨.ref C::us,kw⟩)):=
 ⟨r.hd,by have:=r.dp;rw[nK];omega,by have:=r.un;rw[nM];omega⟩
def Room.depth {k:Nat}{A:Around}(r:Room k A):A.depth < recursionLimit:=by have:=r.dp;omega
def tNil:TA:=λ_ H Q=>Q [] H
abbrev tCons.K1 (Q:(List V->Hp->Prop)) (x:V) (xs:List V) (H2:Hp):Prop:=Q (x::xs) H2
abbrev tCons.K0 (tr:TA) (σ:St) (Q:(List V->Hp->Prop)) (x:V) (H1:Hp):Prop:=tr σ H1 (tCons.K1 Q x)
def tCons (ta:TE)(tr:TA):TA:=λσ H Q=>ta σ H (tCons.K0 tr σ Q)
section
variable {X:Cx}{e:Expr}{es:List Expr}{te:TE}{t:TA}{pos:Pos}
def xy:PA X [] tNil:=λ_ _ _ _ H Q I h=>Calls.spliced_nil ⟨[],H,I, .nil,h⟩
def uZ (ha:PE X e te)(hr:PA X es t)(hs:starEach (e::es) X.env=(false,eval e X.env)::starEach es X.env:=by rfl):PA X (e::es) (tCons te t):=by
 intro pos w9 s σ H Q I h;rw[hs];show wpAny _ _ (spliced ((false,eval e X.env)::backTo pos (starEach es X.env))) _ _ s;refine Calls.spliced_cons (thn (ha w9 s σ H _ I h) λu s1 ⟨x,H1,I1,r1,q1⟩=>?_);exact thn (hr pos w9 s1 σ H1 _ I1 q1) λus s2 ⟨xs,H2,I2,r2,q2⟩=>⟨x::xs,H2,I2, .cons r1 r2,q2⟩
inductive tTup.I (Q:VK)(xs:List V)(H1:Hp):Prop
 |mk (_:xs.length<=sizeLine)(_:∀p,H1 p=none->Q (.ref p) (upd H1 p (.tup xs)))
def tTup (t:TA):TE:=λσ H Q=>t σ H (tTup.I Q)
inductive tLst.I (Q:VK)(xs:List V)(H1:Hp):Prop
 |mk (_:xs.length<=sizeLine)(_:∀p,H1 p=none->Q (.ref p) (upd H1 p (.lst xs)))
def tLst (t:TA):TE:=λσ H Q=>t σ H (tLst.I Q)
def xz {x1}(h:PA X es t):PE X (.Tuple es x1 pos) (tTup t):=by
 intro w9 s σ H Q I hq;refine wpAny_Tuple_spliced (thn (h pos w9 s σ H _ I hq) λus s1 ⟨xs,H1,I1,r,z,q⟩=>⟨by rw[<- r.length];exact z,?_⟩);have hf:H1 s1.heap.objs.size=none:=I1.hok.fresh (l7 _);refine⟨.ref s1.heap.objs.size,upd H1 s1.heap.objs.size (.tup xs),I1.laid (t':=s1.toks) (λb u e=>Heap.get?_push_of_some _ e) (l7 _) ?_,rfl,q _ hf⟩;exact⟨z,us,r,⟨_,Heap.get?_push_size _ rfl,rfl,_,rfl⟩⟩
def xA (h:PA X es t):PE X (.List es pos) (tLst t):=by
 intro w9 s σ H Q I hq;refine wpAny_List_spliced (thn (h pos w9 s σ H _ I hq) λus s1 ⟨xs,H1,I1,r,z,q⟩=>⟨by rw[<- r.length];exact z,?_⟩);have hf:H1 s1.heap.objs.size=none:=I1.hok.fresh (l7 _);refine⟨.ref s1.heap.objs.size,upd H1 s1.heap.objs.size (.lst xs),I1.laid (t':=s1.toks) (λb u e=>Heap.get?_push_of_some _ e) (l7 _) ?_,rfl,q _ hf⟩;exact⟨z,us,0,r,Heap.get?_push_size _ rfl⟩
end
abbrev Sp:=List V->Hp->VK->XK->Prop
abbrev CXT:=List Env->Hp->Shared->XK->Value->Shared->Prop
structure Env0 (P:Program)(w:World)(K:Frag)(mg:Str->Option Value)(base:Heap)(A:Around)(outer:List Env)(s:Shared)(H:Hp):Prop where
 frames:A.frames=some outer
 mod:Mod K mg base
 bs:∀b o,base.get? b=some o->s.heap.get? b=some o/\H b=none
 bsz:base.objs.size<=s.heap.objs.size
 funs:s.heap.FunFrames base outer
 frf:∀b∈frs outer,H b=none
 hok:HOk P w H s.heap
 bare:AllBare s.gens
 tk:0 < s.toks
inductive CE (outer:List Env)(P:Program)(w:World)(H:Hp)(s:Shared)(Q:VK)(u:Value)(s':Shared):Prop
 |mk (v H')(_:s'.os=s.os)(_:AllBare s'.gens)(_:Un (frs outer) [] H H' s.heap s'.heap)(_:HOk P w H' s'.heap)(_:0 < s'.toks)(_:RelV v u)(_:Q v H')
def CR (CX:CXT)(outer:List Env)(P:Program)(w:World)(H:Hp)(s:Shared)(Q:VK)(E:XK)(r:Result)(s':Shared):Prop:=
 match r with
 | .ok (.ret u)=>CE outer P w H s Q u s'
 | .ok _=>False
 | .error e=>CX outer H s E e s'
structure FnOk (P:Program)(w:World)(K:Frag)(mg:Str->Option Value)(base:Heap)(CX:CXT)(k:Nat)(f:Addr)(fd:FuncData)(ps:List Str)(sp:Sp):Prop where
 len:∀vs H Q E,sp vs H Q E->vs.length=ps.length
 run:∀(A:Around) (outer:List Env) (s:Shared) (H:Hp) (args:Args) (us:List Value) (vs:List V) (Q:VK) (E:XK),Room k A->Env0 P w K mg base A outer s H->BindsTo s fd args (ps.zip us)->Vals vs us->sp vs H Q E →
  codeAny (model P w) A (.call (.ref f) args) (CR CX outer P w H s Q E) s
def FnOk.mono {P:Program}{w:World}{K:Frag}{mg:Str->Option Value}{base:Heap}{CX:CXT}{j k:Nat}{f:Addr}{fd:FuncData}{ps:List Str}{sp:Sp}(F:FnOk P w K mg base CX j f fd ps sp)(h:j<=k):
  FnOk P w K mg base CX k f fd ps sp:=⟨F.len,λA outer s H args us vs Q E hr=>F.run A outer s H args us vs Q E (hr.mono h)⟩
def FnOk.imp {P:Program}{w:World}{K:Frag}{mg:Str->Option Value}{base:Heap}{CX:CXT}{k:Nat}{f:Addr}{fd:FuncData}{ps:List Str}{sp sp':Sp}(F:FnOk P w K mg base CX k f fd ps sp)
  (h:∀vs H Q E,sp' vs H Q E->sp vs H Q E):FnOk P w K mg base CX k f fd ps sp':=
 ⟨λvs H Q E q=>F.len vs H Q E (h _ _ _ _ q),λA outer s H args us vs Q E hr he hb hv hs=>F.run A outer s H args us vs Q E hr he hb hv (h _ _ _ _ hs)⟩
def Env0.make {P:Program}{w:World}{K:Frag}{mg:Str->Option Value}{base:Heap}{A:Around}{outer:List Env}{s:Shared}{H:Hp}(e:Env0 P w K mg base A outer s H)(C:Addr)(us:List Value)(kw:List (Str×Value)):
  Env0 P w K mg base (A.under (.builtin "type.__call__" ⟨.ref C::us,kw⟩)) outer s H:=⟨by first |exact e.frames |(simpa[Around.under,Code.envs,Code.isFrame,pushEnvs] using e.frames),e.mod,e.bs,e.bsz,e.funs,e.frf,e.hok,e.bare,e.tk⟩
section
variable {X:Cx}{w9:List (Addr×Obj)}{σ:St}{H:Hp}{s s':Shared}
def Inv.env0 (I:Inv X w9 σ H s):Env0 X.prog X.w X.K X.mg X.base X.A X.stack s H:=
 ⟨I.ok.frames,I.ok.mod,I.bs,l13 I.ok.bsz I.sz,I.stack,I.stkFree,I.hok,I.bare,I.tk⟩
def Inv.after {Q:VK}{u:Value}(I:Inv X w9 σ H s)(h:CE X.stack X.prog X.w H s Q u s'):EP X w9 σ Q u s':=by
 obtain⟨v,H',os,bare,un,hok,tk',r,q⟩:=h;obtain⟨hh,g,d,t,os'⟩:=s';obtain rfl:os'=s.os:=os;exact⟨v,H',I.call (h':=hh) (g':=g) (d':=d) (t':=t) (ch:=[]) un hok bare (λb z=>absurd z (by simp)) tk',r,q⟩
end
abbrev tCall.K0 (sp:Sp) (dvs:List V) (E:XK) (Q:VK) (vs:List V) (H1:Hp):Prop:=sp (vs++dvs) H1 Q E
def tCall (sp:Sp)(dvs:List V)(E:XK)(t:TA):TE:=λσ H Q=>t σ H (tCall.K0 sp dvs E Q)
abbrev tMake.K0 (C:Addr) (sp:Sp) (dvs:List V) (E:XK) (Q:VK) (vs:List V) (H1:Hp):Prop:=∀x dx,H1 x=none->H1 dx=none->dx≠x->sp (.ref x::(vs++dvs)) (upd (upd H1 dx (.own x)) x (.ins C dx [])) (λv H2=>v = .non/\Q (.ref x) H2) E
def tMake (C:Addr)(sp:Sp)(dvs:List V)(E:XK)(t:TA):TE:=λσ H Q=>t σ H (tMake.K0 C sp dvs E Q)
def Binds (K:Frag)(fd:FuncData)(ps:List Str)(ds:List Value):Prop:=
 ∀(s:Shared) (us:List Value),K.In s.heap->(us++ds).length=ps.length->BindsTo s fd ⟨us,[]⟩ (ps.zip (us++ds))
def Binds.all {K:Frag}{fd:FuncData}{ps:List Str}(h:∀us:List Value,us.length=ps.length->bindArgs fd ⟨us,[]⟩=pure (ps.zip us)):Binds K fd ps []:=λs us _ hl=>by
 rw[l25] at hl ⊢;exact .of_eq (h us hl)
def jJ (CX:CXT)(X:Cx)(E:XK):Prop:=∀(w9:List (Addr×Obj)) (σ:St) (H:Hp) (s:Shared) (e:Value) (s':Shared),Inv X w9 σ H s->CX X.stack H s E e s'->X.xe e s'
section
variable {X:Cx}{CX:CXT}{k:Nat}{f C:Addr}{fd:FuncData}{ps:List Str}{sp:Sp}{dvs:List V}{ds:List Value}{E:XK}{x m:Str}{p pos w4:Pos}{e o:Expr}{es:List Expr}{ta:TE}{t:TA}
def mC {w9:List (Addr×Obj)}{σ:St}{H:Hp}{s:Shared}{Q:VK}{us:List Value}{vs:List V}(F:FnOk X.prog X.w X.K X.mg X.base CX k f fd ps sp)(hr:Room k X.A)(hb:Binds X.K fd ps ds)(hd:Vals dvs ds)(hx:jJ CX X E)
  (I:Inv X w9 σ H s)(r:Vals vs us)(h:sp (vs++dvs) H Q E):wpAny (model X.prog X.w) X.A (call (.ref f) us) (EP X w9 σ Q) X.xe s:=by
 have r2:Vals (vs++dvs) (us++ds):=r.append hd;have hl:(us++ds).length=ps.length:=by rw[<- r2.length];exact F.len _ _ _ _ h
 refine wpAny_call (codeAny_mono (F.run X.A X.stack s H ⟨us,[]⟩ (us++ds) (vs++dvs) Q E hr I.env0 (hb s us I.kIn hl) r2 h) λr s' hq=>?_);cases r with
 |error e=>exact hx w9 σ H s e s' I hq
 |ok fl=>
  cases fl with
  |ret u=>exact I.after hq
  |next=>exact False.elim hq
  |brk=>exact False.elim hq
  |cont=>exact False.elim hq
def u4 (F:FnOk X.prog X.w X.K X.mg X.base CX k f fd ps sp)(hr:Room k X.A)(hg:Gl X x)(hm:X.mg x=some (.ref f))(hk:keepIn X.K (.ref f)=true)(hb:Binds X.K fd ps ds)(hd:Vals dvs ds)(hx:jJ CX X E)
  (ha:PA X (e::es) t)(hdb:(x==("__debug__":Str))=false:=by decide) (he:starEach (e::es) X.env=(false,eval e X.env)::starEach es X.env:=by rfl) (hpl:(backTo pos (starEach es X.env)).any (·.1)=false:=by rfl):
  PE X (.Call (.Name x p) (e::es) [] pos) (tCall sp dvs E t):=by
 intro w9 s σ H Q I h;refine wpAny_Call_Name_kw (lr I hg hm ?_ hdb);refine callWith_K (h₀:=X.base) I.ok.mod.kin hk (thn (ha pos w9 s σ H _ I h) λus s1 ⟨vs,H1,I1,r,q⟩=>⟨I1.kIn,?_⟩) he hpl;exact mC F hr hb hd hx I1 r q
structure Mk (K:Frag)(C f:Addr):Prop where
 makes:makesIn K C=true
 init:findIn K (.ref C) "__init__"=some (some (.ref f))
 fn:isFn K (.ref f)=true
 kp:keepIn K (.ref C)=true
def rE {w9:List (Addr×Obj)}{σ:St}{H:Hp}{s:Shared}{Q:VK}{us:List Value}{vs:List V}(M:Mk X.K C f)(F:FnOk X.prog X.w X.K X.mg X.base CX k f fd ps sp)(hr:Room (k+1) X.A)(hb:Binds X.K fd ps ds)(hd:Vals dvs ds)
  (hx:jJ CX X E)(I:Inv X w9 σ H s)(r:Vals vs us)
  (h:∀x dx,H x=none->H dx=none->dx≠x->sp (.ref x::(vs++dvs)) (upd (upd H dx (.own x)) x (.ins C dx [])) (λv H2=>v = .non/\Q (.ref x) H2) E):
  wpAny (model X.prog X.w) X.A (call (.ref C) us) (EP X w9 σ Q) X.xe s:=by
 have hq:=h (s.heap.objs.size+1) s.heap.objs.size (I.hok.fresh (Nat.le_succ _)) (I.hok.fresh (l7 _)) (l26 (l71 _));have I2:=Inv.made (C:=C) I;have r2:Vals (V.ref (s.heap.objs.size+1)::(vs++dvs)) (Value.ref (s.heap.objs.size+1)::(us++ds)) := .cons rfl (r.append hd);have hl:(Value.ref (s.heap.objs.size+1)::us++ds).length=ps.length:=by
  have e:=r2.length;rw[F.len _ _ _ _ hq] at e;exact e.symm
 refine wpAny_call (rD (f := f) I.kIn M.makes M.init (beq_iff_eq.mp M.fn) (codeAny_mono (F.run _ X.stack _ _ ⟨Value.ref (s.heap.objs.size+1)::us,[]⟩ (Value.ref (s.heap.objs.size+1)::(us++ds)) _ _ E (hr.make C us [])
  (I2.env0.make C us []) (hb _ (Value.ref (s.heap.objs.size+1)::us) I2.kIn hl) r2 hq) λr s' hq'=>?_))
 cases r with
 |error e=>exact hx w9 σ _ _ e s' I2 hq'
 |ok fl=>
  cases fl with
  |ret u=>
   obtain⟨v,H',I3,rv,ev,q3⟩:=I2.after hq';subst ev;exact⟨rv,⟨V.ref (s.heap.objs.size+1),H',I3,rfl,q3⟩⟩
  |next=>exact False.elim hq'
  |brk=>exact False.elim hq'
  |cont=>exact False.elim hq'
def u5 (M:Mk X.K C f)(F:FnOk X.prog X.w X.K X.mg X.base CX k f fd ps sp)(hr:Room (k+1) X.A)(hg:Gl X x)(hm:X.mg x=some (.ref C))(hb:Binds X.K fd ps ds)(hd:Vals dvs ds)(hx:jJ CX X E)
  (ha:PA X (e::es) t)(hdb:(x==("__debug__":Str))=false:=by decide) (he:starEach (e::es) X.env=(false,eval e X.env)::starEach es X.env:=by rfl) (hpl:(backTo pos (starEach es X.env)).any (·.1)=false:=by rfl):
  PE X (.Call (.Name x p) (e::es) [] pos) (tMake C sp dvs E t):=by
 intro w9 s σ H Q I h;refine wpAny_Call_Name_kw (lr I hg hm ?_ hdb);refine callWith_K (h₀:=X.base) I.ok.mod.kin M.kp (thn (ha pos w9 s σ H _ I h) λus s1 ⟨vs,H1,I1,r,q⟩=>⟨I1.kIn,?_⟩) he hpl;exact rE M F hr hb hd hx I1 r q
end
structure FnScope (N P:List Str)(sc:Scope):Prop where
 kind:sc.kind = .function
 co:sc.isCoroutine=false
 gen:sc.isGenerator=false
 nd:N.Nodup
 pre:N.take P.length=P
 par:∀x∈P,sc.names.lookup x=some .local ∨ sc.names.lookup x=some .cell
 nofree:∀y∈sc.names,y.2 ≠ .free
def mkS {N P:List Str}{sc:Scope}(a:sc.kind = .function:=by rfl) (b:sc.isCoroutine=false:=by rfl) (c:sc.isGenerator=false:=by rfl) (d:N.Nodup:=by decide) (e:N.take P.length=P:=by rfl) (f:∀x∈P,sc.names.lookup x=some .local ∨ sc.names.lookup x=some .cell:=by decide) (g:∀y∈sc.names,y.2 ≠ .free:=by decide):FnScope N P sc:=⟨a,b,c,d,e,f,g⟩
theorem jK {kindOf:Str->Option NameKind}{x:Str}:∀{binds:List (Str×Value)} {m:Str->Option Value},(∀v,(x,v)∉binds)->bindL kindOf binds m x=m x
 | [],_,_=>rfl
 |(n,v)::r,m,h=>by
  unfold bindL;rw[jK λw hw=>h w (l15 _ hw)];split
  ·have:x≠n:=by rintro rfl;exact h v l10
   simp[this]
  ·rfl
theorem jL {kindOf:Str->Option NameKind}{x:Str}:∀{binds:List (Str×Value)} {m:Str->Option Value},(∀v,(x,v)∉binds)->bindC kindOf binds m x=m x
 | [],_,_=>rfl
 |(n,v)::r,m,h=>by
  unfold bindC;rw[jL λw hw=>h w (l15 _ hw)];split
  ·rfl
  ·have:x≠n:=by rintro rfl;exact h v l10
   simp[this]
theorem jM {kindOf:Str->Option NameKind}{x:Str}{v:Value}:∀{P:List Str} {vs:List Value} {i:Nat} {m:Str->Option Value},P.Nodup->P[i]? = some x->vs[i]? = some v->kindOf x=some .local →
  bindL kindOf (P.zip vs) m x=some v
 | [],_,_,_,_,h,_,_=>by simp at h
 |_::_,[],_,_,_,_,h,_=>by simp at h
 |p::P,w::vs,0,m,nd,h1,h2,hk=>by
  simp at h1 h2;subst h1;subst h2;show bindL kindOf ((p,w)::P.zip vs) m p=_;unfold bindL;rw[jK λv hv=>(l45.mp nd).1 (l65 hv).1,if_pos hk];simp
 |p::P,w::vs,i+1,m,nd,h1,h2,hk=>by
  show bindL kindOf ((p,w)::P.zip vs) m x=_;unfold bindL;exact jM (i:=i) (l45.mp nd).2 (by simpa using h1) (by simpa using h2) hk
theorem jN {kindOf:Str->Option NameKind}{x:Str}{v:Value}:∀{P:List Str} {vs:List Value} {i:Nat} {m:Str->Option Value},P.Nodup->P[i]? = some x->vs[i]? = some v->kindOf x≠some .local →
  bindC kindOf (P.zip vs) m x=some v
 | [],_,_,_,_,h,_,_=>by simp at h
 |_::_,[],_,_,_,_,h,_=>by simp at h
 |p::P,w::vs,0,m,nd,h1,h2,hk=>by
  simp at h1 h2;subst h1;subst h2;show bindC kindOf ((p,w)::P.zip vs) m p=_;unfold bindC;rw[jL λv hv=>(l45.mp nd).1 (l65 hv).1,if_neg hk];simp
 |p::P,w::vs,i+1,m,nd,h1,h2,hk=>by
  show bindC kindOf ((p,w)::P.zip vs) m x=_;unfold bindC;exact jN (i:=i) (l45.mp nd).2 (by simpa using h1) (by simpa using h2) hk
def aT (N:List Str)(vs:List V):St:=vs.map some++List.replicate (N.length - vs.length) none
def oR {a0 a1:Str}{v0:V}:aT [a0,a1] [v0]=[some v0,none]:=rfl
def nN {a0 a1:Str}{v0 v1:V}:aT [a0,a1] [v0,v1]=[some v0,some v1]:=rfl
def oS {a0 a1 a2:Str}{v0:V}:aT [a0,a1,a2] [v0]=[some v0,none,none]:=rfl
def u6 {a0 a1 a2:Str}{v0 v1:V}:aT [a0,a1,a2] [v0,v1]=[some v0,some v1,none]:=rfl
def yY {a0 a1 a2 a3:Str}{v0:V}:aT [a0,a1,a2,a3] [v0]=[some v0,none,none,none]:=rfl
def yZ {a0 a1 a2 a3:Str}{v0 v1:V}:aT [a0,a1,a2,a3] [v0,v1]=[some v0,some v1,none,none]:=rfl
def za {a0 a1 a2 a3:Str}{v0 v1 v2:V}:aT [a0,a1,a2,a3] [v0,v1,v2]=[some v0,some v1,some v2,none]:=rfl
def zb {a0 a1 a2 a3:Str}{v0 v1 v2 v3:V}:aT [a0,a1,a2,a3] [v0,v1,v2,v3]=[some v0,some v1,some v2,some v3]:=rfl
def xB {a0 a1 a2 a3 a4:Str}{v0:V}:aT [a0,a1,a2,a3,a4] [v0]=[some v0,none,none,none,none]:=rfl
def zc {a0 a1 a2 a3 a4:Str}{v0 v1 v2:V}:aT [a0,a1,a2,a3,a4] [v0,v1,v2]=[some v0,some v1,some v2,none,none]:=rfl
def ze {a0 a1 a2 a3 a4:Str}{v0 v1 v2 v3 v4:V}:aT [a0,a1,a2,a3,a4] [v0,v1,v2,v3,v4]=[some v0,some v1,some v2,some v3,some v4]:=rfl
def xC {a0 a1 a2 a3 a4 a5:Str}{v0 v1:V}:aT [a0,a1,a2,a3,a4,a5] [v0,v1]=[some v0,some v1,none,none,none,none]:=rfl
def zf {a0 a1 a2 a3 a4 a5:Str}{v0 v1 v2:V}:aT [a0,a1,a2,a3,a4,a5] [v0,v1,v2]=[some v0,some v1,some v2,none,none,none]:=rfl
def zg {a0 a1 a2 a3 a4 a5:Str}{v0 v1 v2 v3:V}:aT [a0,a1,a2,a3,a4,a5] [v0,v1,v2,v3]=[some v0,some v1,some v2,some v3,none,none]:=rfl
def zh {a0 a1 a2 a3 a4 a5 a6:Str}{v0 v1:V}:aT [a0,a1,a2,a3,a4,a5,a6] [v0,v1]=[some v0,some v1,none,none,none,none,none]:=rfl
def zi {a0 a1 a2 a3 a4 a5 a6 a7:Str}{v0 v1:V}:aT [a0,a1,a2,a3,a4,a5,a6,a7] [v0,v1]=[some v0,some v1,none,none,none,none,none,none]:=rfl
def xD {a0 a1 a2 a3 a4 a5 a6 a7:Str}{v0 v1 v2:V}:aT [a0,a1,a2,a3,a4,a5,a6,a7] [v0,v1,v2]=[some v0,some v1,some v2,none,none,none,none,none]:=rfl
def xE {a0 a1 a2 a3 a4 a5 a6 a7:Str}{v0 v1 v2 v3:V}:aT [a0,a1,a2,a3,a4,a5,a6,a7] [v0,v1,v2,v3]=[some v0,some v1,some v2,some v3,none,none,none,none]:=rfl
def xF {a0 a1 a2 a3 a4 a5 a6 a7:Str}{v0 v1 v2 v3 v4:V}:aT [a0,a1,a2,a3,a4,a5,a6,a7] [v0,v1,v2,v3,v4]=[some v0,some v1,some v2,some v3,some v4,none,none,none]:=rfl
def xG {a0 a1 a2 a3 a4 a5 a6 a7 a8 a9 a10 a11 a12:Str}{v0:V}:aT [a0,a1,a2,a3,a4,a5,a6,a7,a8,a9,a10,a11,a12] [v0]=[some v0,none,none,none,none,none,none,none,none,none,none,none,none]:=rfl
def cxOf (CX:CXT)(P:Program)(w:World)(K:Frag)(mg:Str->Option Value)(base:Heap)(N:List Str)(qual:Str)(scope:Scope)(f:Addr)(cd:Value)(A:Around)(outer:List Env)(s:Shared)(H:Hp)(E:XK):Cx where
 prog:=P
 w:=w
 K:=K
 mg:=mg
 base:=base
 A:=A.deeper (envOfC qual scope s.heap.objs.size f cd)
 N:=N
 s₀:=s
 H₀:=H
 env:=envOfC qual scope s.heap.objs.size f cd
 outer:=outer
 stack:=envOfC qual scope s.heap.objs.size f cd::outer
 ex:=[]
 calm:=true
 fn:=λ_=>true
 pn:=[]
 xe:=λe s'=>wpAny (model P w) (A.deeper (envOfC qual scope s.heap.objs.size f cd)) (leaving (envOfC qual scope s.heap.objs.size f cd) e) (λ_ s''=>CX outer H s E e s'') (λe' s''=>CX outer H s E e' s'') s'
def iS {sc:Scope}{n:Nat}{x:Str}(h:sc.names.lookup x=some .cell):∃c,(cellsFrom n sc.names []).lookup x=some c:=by
 have q:=cellsFrom_some sc.names n [] (.inl h);exact l88.mp q
def jO {CX:CXT}{P:Program}{w:World}{K:Frag}{mg:Str->Option Value}{base:Heap}{N ps:List Str}{qual:Str}{scope:Scope}{f:Addr}{cd:Value}{A:Around}{outer:List Env}{s s1:Shared}{H:Hp}{E:XK}{us:List Value}{vs:List V}
  (S:FnScope N ps scope)(hd:A.handled=none)(e0:Env0 P w K mg base A outer s H)(hl:vs.length=ps.length)(r:Vals vs us)(htk:0 < s1.toks)
  (x:InCallC s s.heap.objs.size (bindL (envOfC qual scope s.heap.objs.size f cd).kindOf (ps.zip us) λ_=>none) (cellsFrom (s.heap.objs.size+1) scope.names []) (bindC (envOfC qual scope s.heap.objs.size f cd).kindOf (ps.zip us) λ_=>none) s1):
  Inv (cxOf CX P w K mg base N qual scope f cd A outer s H E) [] (aT N vs) H s1:=by
 have hpl:ps.length<=N.length:=by have:=congrArg List.length S.pre;rw[l34] at this;omega
 obtain⟨h1,tk,rfl,hk⟩:=x.done;have noA:∀b:Addr,b∉(cxOf CX P w K mg base N qual scope f cd A outer s H E).ex:=λb z=>absurd (show b∈([]:List Addr) from z) (by simp);refine ⟨⟨e0.mod,S.kind,rfl,rfl,l7 _,λy z c h1 h2=>?_,λy hy=>?_,λy c _ h=>?_,λ_=>hd,Around.frames_deeper e0.frames, .inr ⟨rfl,rfl⟩,λb z=>absurd z (noA b),e0.bs,e0.bsz,λb _ _=>noA b,λb z=>absurd z (noA b),e0.funs,e0.frf⟩,
  rfl,e0.bare,Un.kept hk,⟨_,x.toInCall.ns,λi y v h1 h2 h3=>?_⟩,λy c h=>⟨_,x.cell y c h⟩,e0.hok.fresh (l7 _),λy c h=>?_,λp hp=>absurd (show p∈([]:List (Addr×Obj)) from hp) (by simp),e0.hok.kept hk,?_,htk⟩
 ·exact name_of_addr x.apart (PySem.mem_of_lookup h1) (PySem.mem_of_lookup h2)
 ·have hy:scope.names.lookup y=some .cell ∨ scope.names.lookup y=some .free:=hy;rcases hy with hy |hy
  ·exact iS hy
  ·exact absurd rfl (S.nofree _ (PySem.mem_of_lookup hy))
 ·exact l70 (x.above y c (PySem.mem_of_lookup h))
 ·have hi:i < vs.length:=by
   unfold aT at h2;by_cases hi:i < vs.length
   ·exact hi
   ·rw[List.getElem?_append_right (by simpa using hi)] at h2;rw[List.getElem?_replicate] at h2;split at h2 <;> cases h2
  have ha:vs[i]? = some v:=by
   unfold aT at h2;rw[List.getElem?_append_left (by simpa using hi),List.getElem?_map] at h2;cases e:vs[i]? with
   |none=>rw[e] at h2;cases h2
   |some a=>rw[e] at h2;cases h2;rfl
  obtain⟨u,hu,rv⟩:=r.get ha;have hp:ps[i]? = some y:=by
   rw[<- S.pre,List.getElem?_take_of_lt nofun];exact h1
  have ndP:ps.Nodup:=by rw[<- S.pre];exact S.nd.sublist (List.take_sublist _ _)
  refine⟨u,rv,?_⟩;rcases S.par y (l18 hp) with k |k
  ·exact .inl ⟨k,jM ndP hp hu k⟩
  ·obtain⟨c,e⟩:=iS (n:=s.heap.objs.size+1) k;refine .inr ⟨.inl k,c,e,?_⟩;have q:=x.cell y c e;rw[jN ndP hp hu (by show scope.names.lookup y≠_;rw[k];decide)] at q;exact q
 ·exact e0.hok.fresh (l70 (x.above y c (PySem.mem_of_lookup h)))
 ·unfold aT;show _=N.length;rw[l6,l5,l72];omega
def zj {CX:CXT}{P:Program}{w:World}{K:Frag}{mg:Str->Option Value}{base:Heap}{k:Nat}{f:Addr}{name qual:Str}{params:Arguments}{body:List Stmt}{scope:Scope}{dV kV doc pm cdv ct oc:Value}{an od:Option Addr}
  {osl:Array (Option Value)}{N ps:List Str}{sp:Sp}(lk:K.lookup f=some ⟨oc,od, .func (fnOf name qual params body scope dV kV doc pm an cdv ct),osl⟩)(hcd:codeIn K cdv qual=true)(S:FnScope N ps scope)
  (len:∀vs H Q E,sp vs H Q E->vs.length=ps.length)
  (v7:∀(A:Around)(outer:List Env)(s:Shared)(H:Hp)(vs:List V)(Q:VK)(E:XK),Room k (A.deeper (envOfC qual scope s.heap.objs.size f cdv))->sp vs H Q E →
   ∃t,PSs (cxOf CX P w K mg base N qual scope f cdv A outer s H E) body t/\t { nx:=λ_ H'=>Q .non H',rt:=Q } (aT N vs) H):
  FnOk P w K mg base CX (k+1) f (fnOf name qual params body scope dV kV doc pm an cdv ct) ps sp:=by
 refine⟨len,λA outer s H args us vs Q E hr e0 hb r hsp=>?_⟩;have hl:=len _ _ _ _ hsp;have KX:K.In s.heap:=e0.mod.kin.keeps λb o e=>(e0.bs b o e).1;have lim:s.heap.NoLimit:=e0.mod.nolimit.keeps λb o e=>(e0.bs b o e).1;have hkind:∀y∈ps.zip us,scope.names.lookup y.1=some .local ∨ (scope.names.lookup y.1=some .cell/\((cellsFrom (s.heap.objs.size+1) scope.names []).lookup y.1).isSome=true):=λ⟨n,v⟩ hy=>by
  rcases S.par n (l65 hy).1 with q |q
  ·exact .inl q
  ·exact .inr ⟨q,cellsFrom_some _ _ _ (.inl q)⟩
 refine codeAny_call_function hr.depth (KX _ _ lk) rfl S.co S.gen rfl (codeRec_of KX hcd) (hb _ _ _ _ ?_);refine wpAny_with_toks (n:=1) e0.tk (wpAny_newFunctionEnv_cells S.kind hkind λenv he s1 x htk=>?_);subst he;refine⟨lim.keeps x.toInCall.keep,codeAny_func ?_⟩;obtain⟨t,ht,hq⟩:=v7 A outer s H vs Q E (hr.deeper _) hsp;have I:Inv (cxOf CX P w K mg base N qual scope f cdv A outer s H E) [] (aT N vs) H s1:=jO S hr.hd e0 hl r htk x;refine wpAny_mono (ht [] s1 (aT N vs) H _ I hq) (λfl s' hs=>?_) λe s' hs=>hs;have fin:∀{σ':St} {H':Hp} {v:V} {u:Value},Inv (cxOf CX P w K mg base N qual scope f cdv A outer s H E) [] σ' H' s'->RelV v u->Q v H'->CE outer P w H s Q u s':=
  λ{σ' H' v u} J rv q=>⟨v,H',J.os,J.bare,J.base,J.hok,J.tk,rv,q⟩
 cases fl with
 |ret u=>
  obtain⟨v,σ',H',J,rv,q⟩:=hs;exact fin J rv q
 |next=>
  obtain⟨σ',H',J,q⟩:=hs;exact fin (v:=V.non) (u:=Value.none) J rfl q
 |brk=>
  obtain⟨_,_,_,q⟩:=hs;exact False.elim q
 |cont=>
  obtain⟨_,_,_,q⟩:=hs;exact False.elim q
section
variable {X:Cx}{x:Str}{p pos:Pos}{e:Expr}{es:List Expr}{t:TA}{id T:String}{r:List V->Hp->VK->Prop}
abbrev tCB.K0 (r:List V->Hp->VK->Prop)(Q:VK)(vs:List V)(H1:Hp):Prop:=r vs H1 Q
def tCB (r:List V->Hp->VK->Prop)(t:TA):TE:=λσ H Q=>t σ H (tCB.K0 r Q)
def rF (hc:dl X (.builtin id) r)(hg:Gl X x)(hm:X.mg x=none)(hv:bootBuiltins x=some (.builtin id))(ha:PA X (e::es) t)(hn:x≠"__name__":=by decide) (hdb:(x==("__debug__":Str))=false:=by decide)
  (he:starEach (e::es) X.env=(false,eval e X.env)::starEach es X.env:=by rfl) (hpl:(backTo pos (starEach es X.env)).any (·.1)=false:=by rfl):PE X (.Call (.Name x p) (e::es) [] pos) (tCB r t):=by
 intro w9 s σ H Q I h;refine wpAny_Call_Name_kw (fY I hg hm hv ?_ hn hdb);exact PyProof.Rows.callWith_builtin1 (thn (ha pos w9 s σ H _ I h) λus s1 ⟨vs,H1,I1,r1,q1⟩=>hc w9 s1 σ H1 vs us Q I1 r1 q1) he hpl
def oT (hc:dl X (.type T) r)(hg:Gl X x)(hm:X.mg x=none)(hv:bootBuiltins x=some (.type T))(ha:PA X (e::es) t)(hn:x≠"__name__":=by decide) (hdb:(x==("__debug__":Str))=false:=by decide)
  (he:starEach (e::es) X.env=(false,eval e X.env)::starEach es X.env:=by rfl) (hpl:(backTo pos (starEach es X.env)).any (·.1)=false:=by rfl):PE X (.Call (.Name x p) (e::es) [] pos) (tCB r t):=by
 intro w9 s σ H Q I h;refine wpAny_Call_Name_kw (fY I hg hm hv ?_ hn hdb);exact callWith_type1 (thn (ha pos w9 s σ H _ I h) λus s1 ⟨vs,H1,I1,r1,q1⟩=>hc w9 s1 σ H1 vs us Q I1 r1 q1) he hpl
end
end L2
local macro_rules
 |`(tactic|right)=>`(tactic|try dsimp only[L2.tCons.K0,L2.tCons.K1,L2.tCall.K0,L2.tNil])
local macro_rules
 |`(tactic|left)=>`(tactic|try dsimp only[L2.tAsg.K0,L2.tDrop.K0,L2.Ends.to_nx,L2.Ends.to_rt,L2.al,sA,sB])
namespace HT
open PySem PyProof.Rows
section
open PySem.SeqAt
open PySem.AutoSeq1 (wpAny_loadPart')
open PySem.MeetsSeq PySem.MeetsSeq2 PySem.MeetsSeq3
end
end HT
namespace L2
open PySem PySem.Spec PyProof.Rows
abbrev TO:=St->Hp->(Option Int->Hp->Prop)->Prop
def PO (X:Cx)(e:Option Expr)(t:TO):Prop:=
 ∀(w9:List (Addr×Obj)) (s:Shared) (σ:St) (H:Hp) (Q:Option Int->Hp->Prop),Inv X w9 σ H s->t σ H Q →
  wpAny (model X.prog X.w) X.A (evalPart e X.env) (λu s'=>∃o H',Inv X w9 σ H' s'/\IsPart u o/\Q o H') X.xe s
def iT:TO:=λ_ H Q=>Q none H
inductive tPart.I (Q:(Option Int->Hp->Prop))(x:V)(H1:Hp):Prop
 |mk (i)(_:x = .int i)(_:Q (some i) H1)
def tPart (t:TE):TO:=λσ H Q=>t σ H (tPart.I Q)
section
variable {X:Cx}{e:Expr}{te:TE}{lo hi:Option Expr}{tl th:TO}{pos p2:Pos}
def u7:PO X none iT:=by
 intro w9 s σ H Q I h;rw[evalPart_none];exact wpAny_pure ⟨none,H,I, .none,h⟩
def u8 (h:PE X e te):PO X (some e) (tPart te):=by
 intro w9 s σ H Q I hw;rw[evalPart_some];refine thn (h w9 s σ H _ I hw) λu s1 ⟨x,H1,I1,r1,q1⟩=>?_;obtain⟨i,rfl,q⟩:=q1;obtain⟨t,rfl⟩:=r1;exact⟨some i,H1,I1, .int i t,q⟩
def SlR (X:Cx)(r:V->Option Int->Option Int->Hp->VK->Prop):Prop:=
 ∀(w9:List (Addr×Obj)) (s:Shared) (σ:St) (H:Hp) (x:V) (v vl vu:Value) (lo hi:Option Int) (sl:Addr) (Q:VK),Inv X w9 σ H s->RelV x v->s.heap.IsSliceOf sl vl vu .none->IsPart vl lo->IsPart vu hi->r x lo hi H Q →
  ∃T id,typeLookup (.type T) "__getitem__"=pure (some (.builtin id))/\s.TypeIs v T/\wpAny (model X.prog X.w) X.A (getItem v (.ref sl)) (EP X w9 σ Q) X.xe s
abbrev tSl.K2 (r:V->Option Int->Option Int->Hp->VK->Prop) (Q:VK) (x:V) (l:Option Int) (u:Option Int) (H3:Hp):Prop:=r x l u H3 Q
abbrev tSl.K1 (r:V->Option Int->Option Int->Hp->VK->Prop) (th:TO) (σ:St) (Q:VK) (x:V) (l:Option Int) (H2:Hp):Prop:=th σ H2 (tSl.K2 r Q x l)
abbrev tSl.K0 (r:V->Option Int->Option Int->Hp->VK->Prop) (tl:TO) (th:TO) (σ:St) (Q:VK) (x:V) (H1:Hp):Prop:=tl σ H1 (tSl.K1 r th σ Q x)
def tSl (r:V->Option Int->Option Int->Hp->VK->Prop)(te:TE)(tl th:TO):TE:=λσ H Q=>te σ H (tSl.K0 r tl th σ Q)
def rG {r:V->Option Int->Option Int->Hp->VK->Prop}(hr:SlR X r)(he:PE X e te)(hl:PO X lo tl)(hu:PO X hi th):PE X (.Subscript e (.Slice lo hi none p2) pos) (tSl r te tl th):=by
 intro w9 s σ H Q I h;refine Subscript_ (thn (he w9 s σ H _ I h) λv s1 ⟨x,H1,I1,r1,q1⟩=>?_);refine wpAny_Slice (thn (hl w9 s1 σ H1 _ I1 q1) λvl s2 ⟨l,H2,I2,pl,q2⟩=>thn (hu w9 s2 σ H2 _ I2 q2) λvu s3 ⟨u,H3,I3,pu,q3⟩=>?_);rw[evalPart_none];refine wpAny_pure ?_;have I4:Inv X w9 σ H3 { s3 with heap:=s3.heap.push { cls := .type "slice",data := .fields #[vl,vu, .none] } }:=I3.kept (t':=s3.toks) λb ob q=>Heap.get?_push_of_some _ q;obtain⟨T,id,hT,ht,hg⟩:=hr w9 { s3 with heap:=s3.heap.push { cls := .type "slice",data := .fields #[vl,vu, .none] } } σ H3 x v vl vu l u s3.heap.objs.size Q I4 r1 (Heap.IsSliceOf.new ..) pl pu q3;show wpAny (model X.prog X.w) X.A (subscriptTail e (.Slice lo hi none p2) v (.ref s3.heap.objs.size)) (EP X w9 σ Q) X.xe { s3 with heap:=s3.heap.push { cls := .type "slice",data := .fields #[vl,vu, .none] } };exact tail_any (ops:=[.ref s3.heap.objs.size,v]) ht hT hg (by with_unfolding_all rfl)
end
def ixN (n:Nat)(i:Int):Option Nat:=if 0<=i then (if i < n then some i.toNat else none) else if -(n:Int)<=i then some (i+n).toNat else none
def atI {α:Type}(xs:List α)(i:Int):Option α:=(ixN xs.length i).bind λj=>xs[j]?
def oU {n:Nat}{i:Int}{j:Nat}(h:ixN n i=some j):seqIndex? i n=some j/\j < n /\ -(n:Int)<=i/\i < n:=by
 unfold ixN at h;by_cases h0:0<=i
 ·rw[if_pos h0] at h;by_cases h1:i < n
  ·rw[if_pos h1] at h;have e:i.toNat=j:=Option.some.inj h;exact⟨by rw[seqIndex_of h0 h1,e],by omega,by omega,h1⟩
  ·rw[if_neg h1] at h;cases h
 ·rw[if_neg h0] at h;by_cases h1 : -(n:Int)<=i
  ·rw[if_pos h1] at h;have e:(i+n).toNat=j:=Option.some.inj h;exact⟨by rw[seqIndex_neg nofun h1,e],by omega,h1,by omega⟩
  ·rw[if_neg h1] at h;cases h
def lz {α:Type}{xs:List α}{i:Int}{v:α}(h:atI xs i=some v):∃j,seqIndex? i xs.length=some j/\xs[j]? = some v/\j < xs.length /\ -(xs.length:Int)<=i/\i < xs.length:=by
 unfold atI at h;cases e:ixN xs.length i with
 |none=>rw[e] at h;cases h
 |some j=>
  rw[e] at h;obtain⟨h1,h2,h3,h4⟩:=oU e;exact⟨j,h1,h,h2,h3,h4⟩
def ay {α:Type}{xs:List α}{j:Nat}{v:α}(h:xs[j]? = some v):atI xs (j:Int)=some v:=by
 have hj:j < xs.length:=(List.getElem?_eq_some_iff.mp h).1;have e:ixN xs.length (j:Int)=some j:=by
  unfold ixN;rw[if_pos nofun,if_pos nofun];simp
 unfold atI;rw[e];exact h
def rH {α:Type}(xs:List α)(v:α):atI (xs++[v]) (-1)=some v:=by
 have hl:(xs++[v]).length=xs.length+1:=by simp
 have e:ixN (xs++[v]).length (-1)=some xs.length:=by
  unfold ixN;rw[hl,if_neg ∅,if_pos nofun];congr 1;omega
 unfold atI;rw[e];show (xs++[v])[xs.length]? = some v;simp
def oV (b:Expr):Prop:=∀o i,subscripted b false o i=operate [o,i] (getItem o i)
def IxR (X:Cx)(r:R2):Prop:=
 ∀(value slice:Expr) (w9:List (Addr×Obj)) (s:Shared) (σ:St) (H:Hp) (x y:V) (v u:Value) (Q:VK),Inv X w9 σ H s->RelV x v->RelV y u->r x y H Q →
  subscripted slice false v u=operate [v,u] (getItem v u)->wpAny (model X.prog X.w) X.A (subscriptTail value slice v u) (EP X w9 σ Q) X.xe s
def MtR (X:Cx)(id:String)(r:V->List V->Hp->VK->Prop):Prop:=
 ∀(w9:List (Addr×Obj)) (s:Shared) (σ:St) (H:Hp) (x:V) (xs:List V) (v:Value) (us:List Value) (Q:VK),Inv X w9 σ H s->RelV x v->Vals xs us->r x xs H Q →
  wpAny (model X.prog X.w) X.A (call (.builtin id) (v::us)) (EP X w9 σ Q) X.xe s
section
variable {X:Cx}{a b:Expr}{ta tb:TE}{pos:Pos}
def zk {r:R2}(hr:IxR X r)(ha:PE X a ta)(hb:PE X b tb)(hs:oV b):PE X (.Subscript a b pos) (tOp r ta tb):=by
 intro w9 s σ H Q I h;exact Subscript_ (binT ha hb I h λv u s2 x y H2 I2 rx ry q=>hr a b w9 s2 σ H2 x y v u Q I2 rx ry q (hs _ _))
inductive rIxL (K:Frag)(x y:V)(H:Hp)(Q:VK):Prop
 |mk (p xs i v)(_:x = .ref p)(_:y = .int i)(_:SqL K H p xs)(_:atI xs i=some v)(_:Q v H)
inductive rIxT (K:Frag)(x y:V)(H:Hp)(Q:VK):Prop
 |mk (p xs i v)(_:x = .ref p)(_:y = .int i)(_:SqT K H p xs)(_:atI xs i=some v)(_:Q v H)
inductive rIxS (x y:V)(H:Hp)(Q:VK):Prop
 |mk (z i c)(_:x = .str z)(_:y = .int i)(_:z.length<=sizeLine)(_:atI z.cps.toList i=some c)(_:Q (.str ⟨#[c]⟩) H)
def aO:IxR X (rIxL X.K):=by
 intro value slice w9 s σ H x y v u Q I rx ry h hs;obtain⟨p,xs,i,z,rfl,rfl,hq,he,q⟩:=h;cases rx;obtain⟨t,rfl⟩:=ry;obtain⟨its,r,pl,hz⟩:=I.list hq;obtain⟨j,h1,h2,h3,h4,h5⟩:=lz he;obtain⟨w,ew,rw'⟩:=r.get h2;have hl:=r.length;have hn:=fI;have fin:EP X w9 σ Q w s:=⟨z,H,I,rw',q⟩;by_cases h0:0<=i
 ·have hj:i.toNat=j:=by
   rw[seqIndex_of h0 h5] at h1;exact Option.some.inj h1
  exact item_listR pl.isList h0 nofun (by rw[hj];simpa using ew) fin hs
 ·have hj:(i+(its.toArray.size:Int)).toNat=j:=by
   rw[seqIndex_neg nofun h4] at h1;rw[l27,<- hl];exact Option.some.inj h1
  exact subscriptTail_builtinR (x:=w) pl.isList.typeIs slot_list_getitem.lookup
   (wpAny_getItem_list_neg (Q:=λr s'=>r=w/\EP X w9 σ Q r s') pl.isList nofun (by rw[l27] <;> omega) nofun (by rw[hj];simpa using ew) ⟨rfl,fin⟩) hs
def ar:IxR X (rIxT X.K):=by
 intro value slice w9 s σ H x y v u Q I rx ry h hs;obtain⟨p,xs,i,z,rfl,rfl,hq,he,q⟩:=h;cases rx;obtain⟨t,rfl⟩:=ry;obtain⟨its,r,pl,hz⟩:=I.tuple hq;obtain⟨j,h1,h2,h3,h4,h5⟩:=lz he;obtain⟨w,ew,rw'⟩:=r.get h2;have hl:=r.length;have hn:=fI;have fin:EP X w9 σ Q w s:=⟨z,H,I,rw',q⟩;exact subscriptTail_builtinR (x:=w) pl.typeIs slot_tuple_getitem.lookup
  (getItem_tuple (j:=j) (Q:=λr s'=>r=w/\EP X w9 σ Q r s') pl nofun nofun (by rw[l27,<- hl];exact h1) (by simpa using ew) ⟨rfl,fin⟩) hs
def f9:IxR X rIxS:=by
 intro value slice w9 s σ H x y v u Q I rx ry h hs;obtain⟨z,i,c,rfl,rfl,hz,he,q⟩:=h;obtain⟨t,rfl⟩:=rx;obtain⟨t',rfl⟩:=ry;obtain⟨j,h1,h2,h3,h4,h5⟩:=lz he;have hl:z.cps.toList.length=z.length:=by simp[Str.length]
 rw[hl] at h1 h4 h5;have hn:=fI;exact tail_any (typeIs_str s z t) slot_str_getitem.lookup (getItem_str (c := c) (by
  have e1:decide (i < -(2 ^ 63:Int))=false:=decide_eq_false nofun;have e2:decide (i ≥ 2 ^ 63)=false:=decide_eq_false nofun;rw[e1,e2,Bool.or_false]) (by rw[h1];simpa using h2) ⟨.str ⟨#[c]⟩,H,I.tok _,⟨_,rfl⟩,q⟩) hs
def nQ (its:List Value)(n j:Nat)(u:Value):Obj.mapSeq (·.setIfInBounds j u) { cls := .type "list",data := .seq its.toArray n }={ cls := .type "list",data := .seq (its.set j u).toArray n }:=by
 simp[Obj.mapSeq]
def Inv.lst {w9:List (Addr×Obj)}{σ:St}{H:Hp}{s:Shared}{p:Addr}{xs:List V}(I:Inv X w9 σ H s)(h:H p=some (.lst xs)):
  ∃(its:List Value) (n:Nat),Vals xs its/\s.heap.get? p=some { cls := .type "list",data := .seq its.toArray n }/\xs.length<=sizeLine:=by
 obtain⟨z,its,n,r,e⟩:=I.hok p _ h;exact⟨its,n,r,e,z⟩
def Inv.lstUpd {w9:List (Addr×Obj)}{σ:St}{H:Hp}{s:Shared}{p:Addr}{xs ys:List V}{its its':List Value}{n n':Nat}{f:Obj->Obj}(I:Inv X w9 σ H s)(h:H p=some (.lst xs))
  (ho:s.heap.get? p=some { cls := .type "list",data := .seq its.toArray n }) (hf:f { cls := .type "list",data := .seq its.toArray n }={ cls := .type "list",data := .seq its'.toArray n' }) (r:Vals ys its') (hz:ys.length<=sizeLine) (t:Nat) (ht:0 < t:=by first |assumption |exact l36 _ |(apply Inv.tk;assumption)):
  Inv X w9 σ (upd H p (.lst ys)) { s with heap:=s.heap.update p f,toks:=t }:=by
 have e:(s.heap.update p f).get? p=some { cls := .type "list",data := .seq its'.toArray n' }:=by
  rw[Heap.get?_update_self f ho (by rw[hf] <;> rfl),hf]
 refine I.write (x:=p) (e:=p) (by rw[h];trivial) (.inl rfl) (λb u hb q=>(Heap.get?_update_other _ _ (Ne.symm hb)).trans q) ⟨_,e⟩ ?_;exact⟨hz,its',n',r,e⟩
inductive rSetL (o i v:V)(H:Hp)(Q:(Hp->Prop)):Prop
 |mk (p xs k j)(_:o = .ref p)(_:i = .int k)(_:H p=some (.lst xs))(_:ixN xs.length k=some j)(_:Q (upd H p (.lst (xs.set j v))))
def iU:PSet X rSetL:=by
 intro w9 s σ H o i v ov iv u Q I ro ri rv h;obtain⟨p,xs,k,j,rfl,rfl,hp,hj,q⟩:=h;cases ro;obtain⟨t,rfl⟩:=ri;obtain⟨its,n,r,ho,hz⟩:=I.lst hp;obtain⟨h1,h2,h3,h4⟩:=oU hj;have hl:=r.length;have hn:=fI;have I':Inv X w9 σ (upd H p (.lst (xs.set j v))) { s with heap:=s.heap.update p (Obj.mapSeq (·.setIfInBounds j u)) }:=
  I.lstUpd hp ho (nQ its n j u) (r.set rv j) (by rw[l78];exact hz) s.toks
 by_cases h0:0<=k
 ·have hk:k.toNat=j:=by
   rw[seqIndex_of h0 h4] at h1;exact Option.some.inj h1
  exact PySem.W.ki_setAt ho h0 nofun (by rw[l27,<- hl];exact h4) (by rw[hk];exact⟨_,I',q⟩)
 ·have hk:(k+(its.toArray.size:Int)).toNat=j:=by
   rw[seqIndex_neg nofun h3] at h1;rw[l27,<- hl];exact Option.some.inj h1
  exact PySem.W.ki_setBack ho nofun (by rw[l27,<- hl];exact h3) nofun (by rw[hk];exact⟨_,I',q⟩)
inductive R_call_len_seq (K:Frag)(xs:List V)(H:Hp)(Q:VK):Prop
 |mk (p ys)(_:xs=[.ref p])(_:SqL K H p ys ∨ SqT K H p ys)(_:Q (.int ys.length) H)
def aF:dl X (.builtin "len") (R_call_len_seq X.K):=by
 intro w9 s σ H xs us Q I r h;obtain⟨p,ys,rfl,hq,q⟩:=h;obtain⟨u,rfl,rx⟩:=ly r;cases rx;have hn:=fI;rcases hq with hq |hq
 ·obtain⟨its,r',pl,hz⟩:=I.list hq;have w6:=r'.length;exact Calls.call_len_list pl.isList (by simp only[l27] <;> omega) ⟨.int ys.length,H,I.tok _,⟨s.toks+1,by rw[l27,w6]⟩,q⟩
 ·obtain⟨its,r',pl,hz⟩:=I.tuple hq;have w6:=r'.length;exact len_tuple pl (by simp only[l27] <;> omega) ⟨.int ys.length,H,I.tok _,⟨s.toks+1,by rw[l27,w6]⟩,q⟩
inductive R_call_len_str (xs:List V)(H:Hp)(Q:VK):Prop
 |mk (z)(_:xs=[.str z])(_:z.length<=sizeLine)(_:Q (.int z.length) H)
def aJ:dl X (.builtin "len") R_call_len_str:=by
 intro w9 s σ H xs us Q I r h;obtain⟨z,rfl,hz,q⟩:=h;obtain⟨u,rfl,t,rfl⟩:=ly r;have hn:=fI;exact len_str nofun ⟨.int z.length,H,I.tok _,⟨_,rfl⟩,q⟩
inductive R_call_list_of (K:Frag)(xs:List V)(H:Hp)(Q:VK):Prop
 |mk (p ys)(_:xs=[.ref p])(_:SqL K H p ys ∨ SqT K H p ys)(_:∀l,H l=none->Q (.ref l) (upd H l (.lst ys)))
def ao:dl X (.type "list") (R_call_list_of X.K):=by
 intro w9 s σ H xs us Q I r h;obtain⟨p,ys,rfl,hq,q⟩:=h;obtain⟨u,rfl,rx⟩:=ly r;cases rx;have fin:∀(its:List Value),Vals ys its->ys.length<=sizeLine->∀(h':Heap) (c':Nat),(∀b o',s.heap.get? b=some o'->h'.get? b=some o') →
   h'.get? s.heap.objs.size=some { cls := .type "list",dict:=none,data := .seq its.toArray c',slots := #[] }->EP X w9 σ Q (.ref s.heap.objs.size) { s with heap:=h' }:=λits r' hz h' c' kp e=>
  ⟨.ref s.heap.objs.size,_,I.laid (t':=s.toks) kp (l7 _) (show ObjOk X.prog X.w _ h' _ (.lst ys) from ⟨hz,its,c',r',e⟩),rfl,q _ (I.hok.fresh (l7 _))⟩
 rcases hq with hq |hq
 ·obtain⟨its,r',pl,hz⟩:=I.list hq;have w6:=r'.length;obtain⟨o,ho,hc,n,hd⟩:=pl.isList;exact call_list_seq p (.inl rfl) ho hc hd (λh' c' kp e=>fin its r' hz h' c' kp e) (by simp only[l27] <;> omega)
 ·obtain⟨its,r',pl,hz⟩:=I.tuple hq;have w6:=r'.length;obtain⟨o,ho,hc,n,hd⟩:=pl;exact call_list_seq p (.inr rfl) ho hc hd (λh' c' kp e=>fin its r' hz h' c' kp e) (by simp only[l27] <;> omega)
def tyV (K:Frag)(T:String)(x:V)(H:Hp):Prop:=match x with
 | .str _=>T="str"
 | .int _=>T="int"
 | .ref p=>(T="list"/\∃xs,SqL K H p xs) ∨ (T="tuple"/\∃o,K.lookup p=some o/\o.cls = .type "tuple"/\o.dict=none) ∨
   (T="dict"/\((∃kvs,H p=some (.dK kvs)) ∨ ∃kvs,H p=some (.dT kvs))) ∨ (T="set"/\∃S n,H p=some (.set S n))
 |_=>False
def tV {w9:List (Addr×Obj)}{σ:St}{H:Hp}{s:Shared}{T:String}{x:V}{v:Value}(I:Inv X w9 σ H s)(r:RelV x v)(ty:tyV X.K T x H):
  s.TypeIs v T/\∀a,v = .ref a->∃ob,s.heap.get? a=some ob/\ob.dict=none:=by
 cases x with
 |str z=>
  obtain⟨t,rfl⟩:=r;cases (show T="str" from ty);exact⟨typeIs_str s z t,λ_ e=>nomatch e⟩
 |int i=>
  obtain⟨t,rfl⟩:=r;cases (show T="int" from ty);exact⟨typeIs_int s i t,λ_ e=>nomatch e⟩
 |ref p=>
  cases r;rcases ty with ⟨rfl,xs,hq⟩ |⟨rfl,o,hk,hc,hd⟩ |⟨rfl,hk⟩ |⟨rfl,S,n,hk⟩
  ·obtain⟨its,_,pl,_⟩:=I.list hq;refine⟨pl.isList.typeIs,λa e=>?_⟩;cases e;obtain⟨o,n,e,c,hd,_⟩:=pl;exact⟨o,e,hd⟩
  ·refine⟨⟨o,I.kIn p o hk,hc⟩,λa e=>?_⟩;cases e;exact⟨o,I.kIn _ o hk,hd⟩
  ·have z:∃o,s.heap.get? p=some o/\o.ExactDict:=by
    rcases hk with ⟨kvs,hk⟩ |⟨kvs,hk⟩
    ·obtain⟨_,_,_,_,o,_,_,e,ex,_⟩:=I.hok p _ hk;exact⟨o,e,ex⟩
    ·obtain⟨_,_,_,_,o,_,_,e,ex,_⟩:=I.hok p _ hk;exact⟨o,e,ex⟩
   obtain⟨o,e,ex⟩:=z;refine⟨⟨o,e,ex.1⟩,λa e2=>?_⟩;cases e2;exact⟨o,e,ex.2.1⟩
  ·obtain⟨o,_,_,_,e,ex,_⟩:=I.hok p _ hk;refine⟨⟨o,e,ex.1⟩,λa e2=>?_⟩;cases e2;exact⟨o,e,ex.2.1⟩
 |_=>exact False.elim ty
inductive tBM0.I (K:Frag)(T:String)(r:V->List V->Hp->VK->Prop)(Q:VK)(x:V)(H1:Hp):Prop
 |mk (_:tyV K T x H1)(_:r x [] H1 Q)
def tBM0 (K:Frag)(T:String)(r:V->List V->Hp->VK->Prop)(to:TE):TE:=λσ H Q=>to σ H (tBM0.I K T r Q)
inductive tBM.I (K:Frag)(T:String)(r:V->List V->Hp->VK->Prop)(t:TA)(σ:St)(Q:VK)(x:V)(H1:Hp):Prop
 |mk (_:tyV K T x H1)(_:t σ H1 λxs H2=>r x xs H2 Q)
def tBM (K:Frag)(T:String)(r:V->List V->Hp->VK->Prop)(to:TE)(t:TA):TE:=λσ H Q=>to σ H (tBM.I K T r t σ Q)
variable {o e:Expr}{es:List Expr}{to:TE}{t:TA}{name:Str}{w4 y9:Pos}{T id:String}{r:V->List V->Hp->VK->Prop}
def xH (pa:PlainAttrs T)(slot:Slot T name id)(hty:typeOf (.builtin id)=pure (.type "method_descriptor"))(hm:MtR X id r)(ho:PE X o to)
  (j6:attributeBase o name X.env (eval o X.env)=eval o X.env:=by rfl) (v8:(w4.endLine==y9.line)=true:=by rfl):PE X (.Call (.Attribute o name w4) [] [] y9) (tBM0 X.K T r to):=by
 intro w9 s σ H Q I h;refine wpAny_Call_method0_late j6 v8 (thn (ho w9 s σ H _ I h) λv s1 ⟨x,H1,I1,r1,ty,q1⟩=>?_);obtain⟨h1,h2⟩:=tV I1 r1 ty;exact⟨T,id,pa,slot,hty,h1,h2,Calls.callWith_builtin rfl (PySem.evalArgs_none (hm w9 s1 σ H1 x [] v [] Q I1 r1 .nil q1))⟩
def zl (pa:PlainAttrs T)(slot:Slot T name id)(hty:typeOf (.builtin id)=pure (.type "method_descriptor"))(hm:MtR X id r)(ho:PE X o to)(ha:PA X (e::es) t)
  (j6:attributeBase o name X.env (eval o X.env)=eval o X.env:=by rfl)
  (hfew : ((backTo y9 (starEach (e::es) X.env)).all (λx => !x.1)&&(backToKw y9 (keywordEach [] X.env)).all (λx=>x.1.isSome)
   && decide ((e::es).length+([]:List Keyword).length+(if ([]:List Keyword).isEmpty then 0 else 1) < 30))=true:=by rfl)
  (v8:(w4.endLine==y9.line)=true:=by rfl) (hs:starEach (e::es) X.env=(false,eval e X.env)::starEach es X.env:=by rfl) (hplain:(backTo y9 (starEach es X.env)).any (·.1)=false:=by rfl):
  PE X (.Call (.Attribute o name w4) (e::es) [] y9) (tBM X.K T r to t):=by
 intro w9 s σ H Q I h;refine wpAny_Call_method_late j6 hfew v8 rfl (thn (ho w9 s σ H _ I h) λv s1 ⟨x,H1,I1,r1,ty,q1⟩=>?_);obtain⟨h1,h2⟩:=tV I1 r1 ty;refine⟨T,id,pa,slot,hty,h1,h2,?_⟩;have hA:=ha y9 w9 s1 σ H1 _ I1 q1;rw[hs] at hA ⊢;refine Calls.callWith_builtin (by show (false||(backTo y9 (starEach es X.env)).any (·.1))=false;rw[hplain] <;> rfl) (Calls.evalArgs_plain ?_)
 exact thn hA λus s2 ⟨vs,H2,I2,r2,q2⟩=>hm w9 s2 σ H2 x vs v us Q I2 r1 r2 q2
end
def MtM (X:Cx)(id:String)(r:V->List V->Hp->VK->Prop):Prop:=
 ∀(w9:List (Addr×Obj)) (s:Shared) (σ:St) (H:Hp) (x:V) (xs:List V) (v:Value) (us:List Value) (Q:VK),Inv X w9 σ H s->RelV x v->Vals xs us->r x xs H Q →
  wpAny (model X.prog X.w) X.A (call (.builtin id) (v::us)) (EP X w9 σ Q) X.xe s
def Vals.one {x:V}{us:List Value}:Vals [x] us->∃u,us=[u]/\RelV x u:=ly
def Vals.two {x y:V}{us:List Value}(h:Vals [x,y] us):∃u v,us=[u,v]/\RelV x u/\RelV y v:=by
 cases h with
 |cons r t=>
  cases t with
  |cons q z=>
   cases z;exact⟨_,_,rfl,r,q⟩
theorem Vals.zero:∀{us:List Value},Vals [] us->us=[]
 |_, .nil=>rfl
section
variable {X:Cx}{w9:List (Addr×Obj)}{σ:St}{H:Hp}{s:Shared}{l b:Addr}{xs ys zs:List V}
def Inv.lset {its its':List Value}{n:Nat}{f:Array Value->Array Value}{t':Nat}(I:Inv X w9 σ H s)(hH:H l=some (.lst xs))
  (e:s.heap.get? l=some { cls := .type "list",data := .seq its.toArray n }) (hf:f its.toArray=its'.toArray) (hv:Vals ys its') (hz:ys.length<=sizeLine) (ht:0 < t':=by first |assumption |exact l36 _ |(apply Inv.tk;assumption)):
  Inv X w9 σ (upd H l (.lst ys)) { s with heap:=s.heap.update l (Obj.mapSeq f),toks:=t' }:=by
 have q:=PySem.IsL.update e f;rw[hf] at q;refine I.write (x:=l) (e:=l) (by rw[hH];exact trivial) (.inl rfl) (λb' u hb hu=>(Heap.get?_update_other s.heap (Obj.mapSeq f) (Ne.symm hb)).trans hu) ⟨_,q⟩ ?_;exact⟨hz,its',_,hv,q⟩
def Inv.lnew {its:List Value}{t':Nat}(I:Inv X w9 σ H s)(hv:Vals ys its)(hz:ys.length<=sizeLine)(ht:0 < t':=by first |assumption |exact l36 _ |(apply Inv.tk;assumption)):
  Inv X w9 σ (upd H s.heap.objs.size (.lst ys)) { s with heap:=s.heap.push { cls := .type "list",data := .seq its.toArray },toks:=t' }:=
 I.laid (λ_ _ q=>Heap.get?_push_of_some _ q) (l7 _) ⟨hz,its,0,hv,Heap.get?_push_size _ rfl⟩
def Inv.fresh (I:Inv X w9 σ H s):H s.heap.objs.size=none:=I.hok.fresh (l7 _)
def Inv.lstM (I:Inv X w9 σ H s)(hH:H l=some (.lst xs)):xs.length<=sizeLine/\∃(its:List Value) (n:Nat),Vals xs its/\xs.length=its.length/\s.heap.get? l=some { cls := .type "list",data := .seq its.toArray n }:=by
 obtain⟨z,its,n,r,e⟩:=I.hok l _ hH;exact⟨z,its,n,r,r.length,e⟩
def rJ {n:Nat}(h:n<=sizeLine):Builtin.List.listTooLong n=false:=by
 unfold Builtin.List.listTooLong;exact decide_eq_false nofun
end
section
variable {X:Cx}
inductive rAppend (x:V)(vs:List V)(H:Hp)(Q:VK):Prop
 |mk (l xs y)(_:x = .ref l)(_:vs=[y])(_:H l=some (.lst xs))(_:xs.length < sizeLine)(_:Q .non (upd H l (.lst (xs++[y]))))
def jP:MtM X "list.append" rAppend:=by
 intro w9 s σ H x vs v us Q I rx rv h;obtain⟨l,xs,y,rfl,rfl,hH,hz,q⟩:=h;cases rx;obtain⟨u,rfl,ru⟩:=rv.one;obtain⟨z,its,n,r,hl,e⟩:=I.lstM hH;refine call_meets F.slot_list_append ⟨_,e,rfl⟩ F.entry_list_append (F.args_list_append_2 _ _) (PySem.list_append l its.toArray n u (by rw[l27];omega)) ⟨e,?_⟩;refine⟨.non,_,I.lset (its':=its++[u]) hH e (by simp) (r.append (.cons ru .nil)) ?_,rfl,q⟩;rw[l6,List.length_singleton];omega
inductive rExtend (x:V)(vs:List V)(H:Hp)(Q:VK):Prop
 |mk (l b xs zs)(_:x = .ref l)(_:vs=[.ref b])(_:H l=some (.lst xs))(_:H b=some (.lst zs))(_:xs.length+zs.length<=sizeLine)(_:Q .non (upd H l (.lst (xs++zs))))
def bQ:MtM X "list.extend" rExtend:=by
 intro w9 s σ H x vs v us Q I rx rv h;obtain⟨l,b,xs,zs,rfl,rfl,hH,hB,hz,q⟩:=h;cases rx;obtain⟨u,rfl,ru⟩:=rv.one;cases ru;obtain⟨z,its,n,r,hl,e⟩:=I.lstM hH;obtain⟨z2,v5,n2,r2,hl2,e2⟩:=I.lstM hB;have hsz:its.toArray.size+v5.toArray.size<=sizeLine:=by rw[l27,l27];omega
 have hlong:¬ (!its.toArray.isEmpty&&Builtin.List.listTooLong (its.toArray.size+v5.toArray.size))=true:=by
  rw[rJ hsz,Bool.and_false];exact Bool.false_ne_true
 refine call_meets F.slot_list_extend ⟨_,e,rfl⟩ F.entry_list_extend (F.args_list_extend_2 _ _)
  (AutoSeq1.list_extend_list_list_0 l its.toArray n b v5.toArray n2 hlong (by rw[l27];omega) nofun) ⟨e,e2,?_⟩
 refine⟨.non,_,I.lset (its':=its++v5) hH e (by simp) (r.append r2) ?_,rfl,q⟩;rw[l6];omega
inductive rClear (x:V)(vs:List V)(H:Hp)(Q:VK):Prop
 |mk (l xs)(_:x = .ref l)(_:vs=[])(_:H l=some (.lst xs))(_:Q .non (upd H l (.lst [])))
def rK:MtM X "list.clear" rClear:=by
 intro w9 s σ H x vs v us Q I rx rv h;obtain⟨l,xs,rfl,rfl,hH,q⟩:=h;cases rx;have hus:=rv.zero;subst hus;obtain⟨z,its,n,r,hl,e⟩:=I.lstM hH;refine call_meets F.slot_list_clear ⟨_,e,rfl⟩ F.entry_list_clear (F.args_list_clear_1 _) (AutoSeq1.list_clear_list_0 l its.toArray n (by rw[l27];omega)) ⟨e,?_⟩;exact⟨.non,_,I.lset (its':=[]) (ys:=[]) hH e rfl .nil (l16 _),rfl,q⟩
inductive rCat (x y:V)(H:Hp)(Q:VK):Prop
 |mk (l b xs zs)(_:x = .ref l)(_:y = .ref b)(_:H l=some (.lst xs))(_:H b=some (.lst zs))(_:xs.length+zs.length<=sizeLine)(_:∀p,H p=none->Q (.ref p) (upd H p (.lst (xs++zs))))
def fJ:OpR X (binaryOp .Add) rCat:=by
 intro w9 s σ H x y v u Q I rx ry h;obtain⟨l,b,xs,zs,rfl,rfl,hH,hB,hz,q⟩:=h;cases rx;cases ry;obtain⟨z,its,n,r,hl,e⟩:=I.lstM hH;obtain⟨z2,v5,n2,r2,hl2,e2⟩:=I.lstM hB;refine PySem.P.add_list e e2 ?_ (by rw[l27,l27];omega);have ea:its.toArray++v5.toArray=(its++v5).toArray:=by simp
 rw[ea];exact⟨.ref _,_,I.lnew (t':=s.toks) (r.append r2) (by rw[l6];omega),rfl,q _ I.fresh⟩
end
section
variable {prog:Program}{w:World}{A:Around}{E:Value->Shared->Prop}{s:Shared}
set_option maxRecDepth 100000 in
end
end L2
namespace Att
open PySem PySem.W PySem.Calls PyProof.Rows
end Att
namespace L2
open PySem PySem.Spec PyProof.Rows
theorem jQ:∀{vs:List Value} {ns:List Int},IntsAre vs ns->Vals (ns.map V.int) vs
 |_,_, .nil => .nil
 |_,_, .cons n t h => .cons ⟨t,rfl⟩ (jQ h)
abbrev KOf {K:Frag}{h:Heap}(_:K.In h):Frag:=K
def aQ (s:Stmt):Arguments:=match s with
 | .FunctionDef _ a _ _ _ _ _ _ _ _=>a
 |_=>{ posonlyargs:=[],args:=[],vararg:=none,kwonlyargs:=[],kw_defaults:=[],kwarg:=none,defaults:=[] }
def aG (s:Stmt):List Stmt:=match s with
 | .FunctionDef _ _ b _ _ _ _ _ _ _=>b
 |_=>[]
def ab (s:Stmt):Scope:=match s with
 | .FunctionDef _ _ _ _ _ _ sc _ _ _=>sc
 |_=>{ kind := .function,names:=[],isGenerator:=false,isCoroutine:=false }
abbrev CX0:CXT:=λ_ _ _ _ _ _=>False
abbrev E0:XK:=λ_ _ _=>False
def oW {X:Cx}:jJ CX0 X E0:=λ_ _ _ _ _ _ _ h=>h.elim
structure Fun (K:Frag)(x qual:Str)(st:Stmt)(f:Addr)(fd:FuncData):Prop where
 ex:∃(oc:Value) (od:Option Addr) (kV doc pm:Value) (an:Option Addr) (cdv ct:Value) (osl:Array (Option Value)),
  fd=fnOf x qual (aQ st) (aG st) (ab st) .none kV doc pm an cdv ct/\K.lookup f=some ⟨oc,od, .func fd,osl⟩/\codeIn K cdv qual=true
 kp:keepIn K (.ref f)=true
section
variable {P:Program}{w:World}{K:Frag}{mg:Str->Option Value}{base:Heap}
def Fun.ok {x qual:Str}{st:Stmt}{f:Addr}{fd:FuncData}{N ps:List Str}{k:Nat}{sp:Sp}(F:Fun K x qual st f fd)(S:FnScope N ps (ab st))(len:∀vs H Q E,sp vs H Q E->vs.length=ps.length)
  (v7:∀(cdv:Value)(A:Around)(outer:List Env)(s:Shared)(H:Hp)(vs:List V)(Q:VK)(E:XK),Room k (A.deeper (envOfC qual (ab st) s.heap.objs.size f cdv))->sp vs H Q E →
   ∃t,PSs (cxOf CX0 P w K mg base N qual (ab st) f cdv A outer s H E).nox (aG st) t/\t { nx:=λ_ H'=>Q .non H',rt:=Q } (aT N vs) H):FnOk P w K mg base CX0 (k+1) f fd ps sp:=by
 obtain⟨oc,od,kV,doc,pm,an,cdv,ct,osl,rfl,lk,hcd⟩:=F.ex;refine zj lk hcd S len λA outer s H vs Q E hr hsp=>?_;obtain⟨t,h,q⟩:=v7 cdv A outer s H vs Q E hr hsp;exact⟨t,h.nox,q⟩
def Fun.oks {x qual:Str}{st:Stmt}{f:Addr}{fd:FuncData}{N ps:List Str}{k:Nat}{sp:Sp}(F:Fun K x qual st f fd)(S:FnScope N ps (ab st))
  (v7:∀{cdv:Value}{A:Around}{outer:List Env}{s:Shared}{vs:List V}{E:XK}(H:Hp)(Q:VK),Room k (A.deeper (envOfC qual (ab st) s.heap.objs.size f cdv))->sp vs H Q E →
   ∃t,PSs (cxOf CX0 P w K mg base N qual (ab st) f cdv A outer s H E).nox (aG st) t/\t { nx:=λ_ H'=>Q .non H',rt:=Q } (aT N vs) H) (len:∀vs H Q E,sp vs H Q E->vs.length=ps.length:=by intro vs H Q E h;first |(cases h;subst_vars;rfl) |(rcases h with ⟨_,⟨_,rfl,_⟩,_⟩;rfl) |(rcases h with ⟨_,_,⟨_,rfl,_⟩,_⟩;rfl) |(rcases h with ⟨_,_,_,⟨_,rfl,_⟩,_⟩;rfl) |(rcases h with ⟨_,_,_,_,⟨_,rfl,_⟩,_⟩;rfl) |(rcases h with ⟨_,_,_,_,_,⟨_,rfl,_⟩,_⟩;rfl) |(rcases h with ⟨_,_,_,_,_,_,⟨_,rfl,_⟩,_⟩;rfl) |(rcases h with ⟨_,_,_,_,_,_,_,⟨_,rfl,_⟩,_⟩;rfl)):FnOk P w K mg base CX0 (k+1) f fd ps sp:=F.ok S len λ_ _ _ _ H _ Q _=>v7 H Q
def Fun.binds {x qual:Str}{st:Stmt}{f:Addr}{fd:FuncData}{ps:List Str}(F:Fun K x qual st f fd)
  (h:∀(kV doc pm:Value)(an:Option Addr)(cdv ct:Value)(us:List Value),us.length=ps.length->bindArgs (fnOf x qual (aQ st) (aG st) (ab st) .none kV doc pm an cdv ct) ⟨us,[]⟩=pure (ps.zip us)):Binds K fd ps []:=by
 obtain⟨oc,od,kV,doc,pm,an,cdv,ct,osl,rfl,lk,hcd⟩:=F.ex;exact .all (h kV doc pm an cdv ct)
def mD {x qual:Str}{st:Stmt}{f:Addr}{oc:Value}{od an:Option Addr}{osl:Array (Option Value)}{kV doc pm cdv ct:Value}(l:K.lookup f=some ⟨oc,od, .func (fnOf x qual (aQ st) (aG st) (ab st) .none kV doc pm an cdv ct),osl⟩)
  (c:codeIn K cdv qual=true)(k:keepIn K (.ref f)=true):Fun K x qual st f (fnOf x qual (aQ st) (aG st) (ab st) .none kV doc pm an cdv ct):=⟨⟨oc,od,kV,doc,pm,an,cdv,ct,osl,rfl,l,c⟩,k⟩
end
section
variable {X:Cx}
def pv (i:Nat){x:Str}{pos:Pos}(hN:X.N[i]? = some x:=by rfl) (hv:Vis X.env.scope x:=by first |exact Or.inl rfl |exact Or.inr (Or.inl rfl) |exact Or.inr (Or.inr rfl)) (hd:(x==("__debug__":Str))=false:=by decide)
  (hcd:(x==("__classdict__":Str))=false:=by decide):PE X (.Name x pos) (tVar i):=oG hN hv hd hcd
end
def iteF {A B:Prop}(h:B):if false=true then A else B:=by
 rw[if_neg Bool.false_ne_true];exact h
def iteT {A B:Prop}(h:A):if true=true then A else B:=by
 rw[if_pos rfl];exact h
def ite2 {c A B:Prop} [Decidable c](h1:c->A)(h2:¬ c->B):if c then A else B:=by
 by_cases h:c
 ·rw[if_pos h];exact h1 h
 ·rw[if_neg h];exact h2 h
def Same (H H':Hp):Prop:=∀b o,H b=some o->H' b=some o
def Same.refl (H:Hp):Same H H:=λ_ _ h=>h
def Same.trans {H H1 H2:Hp}(a:Same H H1)(b:Same H1 H2):Same H H2:=λc o h=>b c o (a c o h)
def Same.free {H H':Hp}(e:Same H H'){l:Addr}(h:H' l=Option.none):H l=Option.none:=by
 cases q:H l with
 |none=>rfl
 |some o=>
  rw[e l o q] at h;cases h
def Same.seq {K:Frag}{H H':Hp}{a:Addr}{xs:List V}(e:Same H H')(h:SqL K H a xs):SqL K H' a xs:=by
 rcases h with (h |⟨o,h⟩) |h
 ·exact .inl (.inl (e _ _ h))
 ·exact .inl (.inr ⟨o,e _ _ h⟩)
 ·exact .inr h
def CellsIn (env:Env):List (Str×Addr)->Prop
 | []=>True
 |p::r=>env.cells.lookup p.1=some p.2/\CellsIn env r
theorem CellsIn.look {env:Env}:∀{cl:List (Str×Addr)},CellsIn env cl->∀x c,cl.lookup x=some c->env.cells.lookup x=some c
 | [],_,x,c,e=>by simp at e
 |p::r,h,x,c,e=>by
  obtain⟨n,a⟩:=p;rw[l48] at e;cases q:x==n with
  |true=>
   rw[q] at e;have q':x=n:=eq_of_beq q;subst q';cases e;exact h.1
  |false=>
   rw[q] at e;exact h.2.look x c e
abbrev aU (X:Cx)(scope:Scope)(cl:List (Str×Addr))(C:Addr)(N':List Str)(fp:List Addr)(s:Shared)(H:Hp):Cx:=
 { X with N:=N',s₀:=s,H₀:=H,env:=compEnvC scope cl C X.env,outer:=X.stack,ex:=fp,fn:=λ_=>false,pn:=[],xe:=λ_ _=>False }
def nfS (k:Nat)(fr:List Nat)(σ:St):St:=List.replicate k none++fr.map λj=>(σ[j]?).join
structure CompN (X:Cx)(scope:Scope)(cl:List (Str×Addr))(own:List Str)(fr:List Nat)(N':List Str):Prop where
 kind:scope.kind = .function
 cells:CellsIn X.env cl
 has:∀x,((relabel scope X.env).names.lookup x=some .cell ∨ (relabel scope X.env).names.lookup x=some .free)->∃c,cl.lookup x=some c
 nd:N'.Nodup
 len:N'.length=own.length+fr.length
 free:∀(i:Nat) (j:Nat),fr[i]? = some j->∃x,X.N[j]? = some x/\N'[own.length+i]? = some x/\(X.env.kindOf x=some .cell ∨ X.env.kindOf x=some .free) ∧
  ((relabel scope X.env).names.lookup x=some .cell ∨ (relabel scope X.env).names.lookup x=some .free)
section
variable {X:Cx}{w9:List (Addr×Obj)}{σ:St}{H:Hp}{s s4:Shared}{scope:Scope}{cl:List (Str×Addr)}{own:List Str}{fr:List Nat}{N':List Str}{fp:List Addr}{C:Addr}{H4:Hp}
def oX (I:Inv X w9 σ H s)(Z:CompN X scope cl own fr N')(hC:s.heap.objs.size<=C)(hf:∀b∈fp,FpOk X w9 H b)(ho:∀b∈fp,∃o,s.heap.get? b=some o/\∀v,o.data ≠ .cell v):(aU X scope cl C N' fp s H).Ok where
 mod:=I.ok.mod
 kind:=Z.kind
 glob:=I.ok.glob
 blt:=I.ok.blt
 above:=hC
 inj:=λx y c h1 h2=>I.ok.inj x y c (Z.cells.look x c h1) (Z.cells.look y c h2)
 has:=λx h=>Z.has x h
 cab:=λx c h _=>Bool.noConfusion h
 hd:=I.ok.hd
 frames:=I.ok.frames
 stk := .inl rfl
 exf:=λb hb=>by
  obtain⟨o,e,_⟩:=ho b hb;refine⟨l26 (l19 (Heap.lt_size e) hC),λx c h=>?_⟩;exact(hf b hb).2.2.2.2.1 x c (Z.cells.look x c h)
 bs:=I.bs
 bsz:=l13 I.ok.bsz I.sz
 noex:=λb o e hb=>by
  rcases (hf b hb).2.2.2.1 with z |z
  ·exact I.ok.noex b o e z
  ·exact absurd (l19 (Heap.lt_size e) (l13 I.ok.bsz z)) (l46 _)
 exfs:=λb hb z=>by
  rcases l8.mp (I.stkSub b z) with e |e
  ·exact(hf b hb).2.1 e
  ·exact(hf b hb).2.2.1 e
 funs:=I.stack
 frf:=I.stkFree
def rL (I:Inv X w9 σ H s)(Z:CompN X scope cl own fr N')(hC:s.heap.objs.size<=C)(hf:∀b∈fp,FpOk X w9 H b)(ho:∀b∈fp,∃o,s.heap.get? b=some o/\∀v,o.data ≠ .cell v)
  (os:s4.os=s.os)(bare:AllBare s4.gens)(un:Un (frs X.stack) fp H H4 s.heap s4.heap)(ns:∃m,s4.heap.Ns C m)(kc:∀x c v,X.env.cells.lookup x=some c->s.heap.IsCell c v->s4.heap.IsCell c v)
  (fr4:H4 C=none)(hok:HOk X.prog X.w H4 s4.heap)(tk:0 < s4.toks):Inv (aU X scope cl C N' fp s H) [] (nfS own.length fr σ) H4 s4 where
 ok:=oX I Z hC hf ho
 os:=os
 bare:=bare
 base:=un
 loc:=by
  obtain⟨m,hm⟩:=ns;refine⟨m,hm,λi x v h1 h2 h3=>?_⟩;unfold nfS at h2;by_cases hi:i < own.length
  ·rw[List.getElem?_append_left (by simpa using hi),List.getElem?_replicate,if_pos hi] at h2;cases h2
  ·rw[List.getElem?_append_right (by simpa using hi),l72,List.getElem?_map] at h2;cases q:fr[i - own.length]? with
   |none=>rw[q] at h2;cases h2
   |some j=>
    rw[q] at h2;have h2':(σ[j]?).join=some v:=Option.some.inj h2;obtain⟨y,e1,e2,e3,e4⟩:=Z.free _ j q;have ei:own.length+(i - own.length)=i:=by omega
    rw[ei] at e2;have h1':N'[i]? = some x:=h1;rw[e2] at h1';cases h1';have hs:σ[j]? = some (some v):=by
     cases r:σ[j]? with
     |none=>rw[r] at h2';cases h2'
     |some w=>rw[r] at h2';cases w with
      |none=>cases h2'
      |some w=>cases h2';rfl
    obtain⟨m0,_,hl⟩:=I.loc;have vis:Vis X.env.scope x:=e3.elim (λz => .inr (.inl z)) λz => .inr (.inr z);obtain⟨u,ru,lk⟩:=hl j x v e1 hs vis;refine⟨u,ru,?_⟩;rcases lk with ⟨k,_⟩ |⟨_,c,ec,hc⟩
    ·rcases e3 with z |z <;> (rw[k] at z;cases z)
    ·obtain⟨c',ec'⟩:=Z.has x e4;have:=Z.cells.look x c' ec';rw[ec] at this;cases this;exact .inr ⟨e4,c,ec',kc x c _ ec hc⟩
 cell:=λx c e=>by
  have e':=Z.cells.look x c e;obtain⟨v,hv⟩:=I.cell x c e';exact⟨v,kc x c v e' hv⟩
 free:=fr4
 freeC:=λx c e=>by
  have e':=Z.cells.look x c e;obtain⟨v,o,hv,_⟩:=I.cell x c e';refine un.free c o hv (I.freeC x c e') λhb=>?_;exact(hf c hb).2.2.2.2.1 x c e' rfl
 pin:=λp hp=>absurd (show p∈([]:List (Addr×Obj)) from hp) (by simp)
 hok:=hok
 len:=by
  show (nfS own.length fr σ).length=N'.length;unfold nfS;rw[l6,l72,l5,Z.len]
 tk:=tk
def rM {σ':St}(I:Inv X w9 σ H s)(hf:∀b∈fp,FpOk X w9 H b){pins':List (Addr×Obj)}(J:Inv (aU X scope cl C N' fp s H) pins' σ' H4 s4):Inv X w9 σ H4 s4:=
 I.call' J.os J.base J.hok J.bare (λb hb=>⟨(hf b hb).2.2.2.1,(hf b hb).2.1,(hf b hb).2.2.2.2.1,(hf b hb).2.2.2.2.2⟩) J.tk
def jR {C:Addr}{h':Heap}(I0:Inv X w9 σ H s)(hC:s.heap.objs.size<=C){σ':St}(I:Inv X w9 σ' H4 s4)(fr4:H4 C=none)(hs:Heap.SameBut C s4.heap h'):Inv X w9 σ' H4 { s4 with heap:=h' }:=by
 refine I.turned (t':=s4.toks) (it:=C) (λb o hb e=>(hs.2 b hb).trans e) fr4 ?_ (.inr (l13 I0.sz hC)) ?_ ?_
 ·exact l42 (l19 I0.lt hC)
 ·intro x c e z;obtain⟨v,q⟩:=I0.cell x c e;exact absurd (l19 q.lt (by rw[z];exact hC)) (l46 _)
 ·intro p hp z;exact absurd (l19 (Heap.lt_size (I0.pin p hp).1) (by rw[z];exact hC)) (l46 _)
end
def PTs (X:Cx)(ifs:List Expr)(t:TT):Prop:=
 ∀(w9:List (Addr×Obj)) (s:Shared) (σ:St) (H:Hp) (Q:Bool->Hp->Prop),Inv X w9 σ H s->t σ H Q →
  wpAny (model X.prog X.w) X.A (forIn ifs true λc r=>if r=true then do let ok ← isTrue c X.env (eval c X.env);pure (ForInStep.yield ok) else pure (ForInStep.yield r)) (TP X w9 σ Q) X.xe s
def tYes:TT:=λ_ H Q=>Q true H
def va {X:Cx}:PTs X [] tYes:=λ_ _ _ H _ I h=>wpAny_tests_nil ⟨H,I,h⟩
def vb {X:Cx}{c:Expr}{t:TT}(h:PT X c t):PTs X [c] t:=λw9 s σ H Q I q=>wpAny_tests_one (h w9 s σ H Q I q)
section
variable {prog:Program}{w:World}{A:Around}{R:Result->Shared->Prop}{s:Shared}
theorem jS {elt target iter:Expr}{ifs:List Expr}{scope:Scope}{pos:Pos}{it acc:Value}{env:Env}(I:Nat->Shared->Prop)
  (turn : ∀ n s, I n s -> wpAny (model prog w) A (pyNext it) (λr s₁=>match r with
   |none=>R (.ok .next) s₁
   | some v => wpAny (model prog w) A (letOwnedTupleGo target it v) (fun _ s₂ => wpAny (model prog w) A (assign target env v) (λ_ s₂=>
     wpAny (model prog w) A (forIn ifs true fun c r => if r = true then do let ok ← isTrue c env (eval c env); pure (ForInStep.yield ok) else pure (ForInStep.yield r)) (λok s₃=>
      if ok = true then wpAny (model prog w) A (eval elt env) (λx s₄=>
       wpAny (model prog w) A (call (.builtin "list.append") [acc,x]) (λ_ s₅=>∃m,m < n/\I m s₅) (λ_ _=>False) s₄) (λ_ _=>False) s₃
      else ∃m,m < n/\I m s₃) (λ_ _=>False) s₂) (λ_ _=>False) s₂) (λ_ _=>False) s₁) (λ_ _=>False) s)
  (n:Nat)(h:I n s):
  codeAny (model prog w) A (.compLoop (.ListComp elt [⟨target,iter,ifs,0⟩] scope pos) 0 it acc env) R s:=by
 have no:∀{E:Value->Shared->Prop} (e:Value) (s':Shared),(λ_ _=>False:Value->Shared->Prop) e s'->E e s':=λ_ _ z=>False.elim z;refine codeAny_loop rfl I (λn s hI=>?_) n h;show wpAny _ A ((compTurn (.ListComp elt [⟨target,iter,ifs,0⟩] scope pos) 0 it acc env).onRaise (λx=>do noteFrame x env;theTreesLotGoes x)) _ _ s;refine wpAny_noted ?_;rw[compTurn_list];refine wpAny_bind (wpAny_standAt (wpAny_bind (wpAny_mono (turn n s hI) (λr s₁ h₁=>?_) no)));cases r with
 |none=>exact wpAny_pure h₁
 |some v=>
  refine wpAny_bind (wpAny_mono h₁ (λ_ s₂ h₂=>?_) no);refine wpAny_bind (wpAny_mono h₂ (λ_ s₂ h₂=>wpAny_bind (wpAny_mono h₂ (λok s₃ h₃=>?_) no)) no);cases ok with
  |false=>exact wpAny_pure ⟨rfl,h₃⟩
  |true=>
   exact wpAny_bind (wpAny_bind (wpAny_mono h₃ (λx s₄ h₄=>wpAny_bind (wpAny_mono h₄ (λ_ s₅ h₅=>wpAny_pure (wpAny_pure ⟨rfl,h₅⟩)) no)) no))
end
def nfLe (k:Nat)(fr:List Nat)(σ σ2:St):Prop:=σ2.length=(nfS k fr σ).length/\∀(i:Nat) (v:V),(nfS k fr σ)[i]? = some (some v)->σ2[i]? = some (some v)
def nfLe.refl (k:Nat)(fr:List Nat)(σ:St):nfLe k fr σ (nfS k fr σ):=⟨rfl,λ_ _ h=>h⟩
def nfLe.set {k:Nat}{fr:List Nat}{σ σ2:St}{i:Nat}(h:nfLe k fr σ σ2)(hi:i < k)(x:Option V):nfLe k fr σ (σ2.set i x):=by
 refine⟨by rw[l78];exact h.1,λj v e=>?_⟩;by_cases hj:i=j
 ·subst hj;unfold nfS at e;rw[List.getElem?_append_left (by simpa using hi),List.getElem?_replicate,if_pos hi] at e;cases e
 ·rw[List.getElem?_set_ne hj];exact h.2 j v e
def rLC (k:Nat)(fr:List Nat)(g:TG)(tt:TT)(te:TE)(σ:St)(J:It)(H1:Hp)(Q:Addr->Hp->Prop):Prop:=
 ∀D,H1 D=none->∃W:Nat->Nat->List V->Hp->Prop,(∃m,W 0 m [] (upd H1 D (.lst [])))/\∀i m acc H,W i m acc H->H D=some (.lst acc) ∧
  ((J.stop i H /\ Q D H) ∨ (J.go i H/\∀x H',J.yld i H x H'->g x (nfS k fr σ) H' λσ2 H2=>nfLe k fr σ σ2/\tt σ2 H2 λb H3=>
   if b=true then te σ2 H3 λy H4=>H4 D=some (.lst acc)/\acc.length < sizeLine/\∃m',m' < m/\W (i+1) m' (acc++[y]) (upd H4 D (.lst (acc++[y])))
   else ∃m',m' < m/\W (i+1) m' acc H3))
def tLC (wi:TI)(k:Nat)(fr:List Nat)(g:TG)(tt:TT)(te:TE):TE:=λσ H Q=>wi σ H λJ H1=>rLC k fr g tt te σ J H1 λD H'=>Q (.ref D) H'
section
variable {X:Cx}{scope:Scope}{cl:List (Str×Addr)}{own:List Str}{fr:List Nat}{N':List Str}{tg iter elt:Expr}{ifs:List Expr}{wi:TI}{g:TG}{tt:TT}{te:TE}{pos:Pos}
structure TurnP (Cm:Cx->Prop)(P:Program)(w:World)(K:Frag)(tg:Expr)(J:It)(fp:List Addr)(it:Addr)(tn:Nat->Heap->Prop):Prop where
 obj:∀i h,tn i h->∀b∈fp,∃o,h.get? b=some o/\∀v,o.data ≠ .cell v
 keep:∀i h h',tn i h->(∀b∈fp,∀o,h.get? b=some o->h'.get? b=some o)->tn i h'
 item:∀(X:Cx),X.prog=P->X.w=w->X.K=K->Cm X->∀(i:Nat) (w9:List (Addr×Obj)) (s:Shared) (σ:St) (H:Hp) (E:Value->Shared->Prop),Inv X w9 σ H s->(∀b∈fp,FpOk X w9 H b)->tn i s.heap->J.go i H →
  wpAny (model P w) X.A (pyNext (.ref it)) (λr s1=>∃u,r=some u ∧
   wpAny (model P w) X.A (letOwnedTupleGo tg (.ref it) u) (λ_ s2=>∃x H',Inv X w9 σ H' s2/\RelV x u/\J.yld i H x H'/\tn (i+1) s2.heap/\∀b∈fp,H' b=none) E s1) E s
 done:∀(X:Cx),X.prog=P->X.w=w->X.K=K->Cm X->∀(i:Nat) (w9:List (Addr×Obj)) (s:Shared) (σ:St) (H:Hp) (E:Value->Shared->Prop),Inv X w9 σ H s->(∀b∈fp,FpOk X w9 H b)->tn i s.heap->J.stop i H →
  wpAny (model P w) X.A (pyNext (.ref it)) (λr s1=>r=none/\Inv X w9 σ H s1) E s
 self:∀(A:Around) (i:Nat) (s:Shared) (Q:Value->Shared->Prop) (E:Value->Shared->Prop),tn i s.heap->Q (.ref it) s->wpAny (model P w) A (pyIter (.ref it)) Q E s
def Turn.toP {P:Program}{w:World}{K:Frag}{tg:Expr}{J:It}{fp:List Addr}{it:Addr}{tn:Nat->Heap->Prop}(T:Turn P w K tg J fp it tn):TurnP (λX=>X.calm=true) P w K tg J fp it tn:=⟨T.obj,T.keep,T.item,T.done,T.self⟩
def iC {w9:List (Addr×Obj)}{σ:St}{H:Hp}{s:Shared}{it:Addr}{fp:List Addr}{tn:Nat->Heap->Prop}{J:It}{Q:Addr->Hp->Prop}{RR:Value->Addr->Result->Shared->Prop}{E:Value->Shared->Prop}
  {Cm:Cx->Prop}(hc:∀C,Cm (aU X scope cl C N' fp s H))(Z:CompN X scope cl own fr N')(w5:∀y∈scope.names,y.2 ≠ .cell)
  (hg:∀C,PG (aU X scope cl C N' fp s H) tg g)(ht:∀C,PTs (aU X scope cl C N' fp s H) ifs tt)(he:∀C,PE (aU X scope cl C N' fp s H) elt te)
  (I:Inv X w9 σ H s)(T:TurnP Cm X.prog X.w X.K tg J fp it tn)(st:tn 0 s.heap)(hf:∀b∈fp,FpOk X w9 H b)(q:rLC own.length fr g tt te σ J H Q)
  (hRR:∀D C s' H' ,s.heap.objs.size<=C->(∃m,s'.heap.Ns C m)->H' C=none->Inv X w9 σ H' s'->Q D H'->RR (.ref D) C (.ok .next) s'):
  wpAny (model X.prog X.w) X.A (newList []) (fun acc s₃ => wpAny (model X.prog X.w) X.A (newFunctionEnv scope X.env.globals cl [] X.env.qual none .none (some X.env)) (λcenv s₄=>
   codeAny (model X.prog X.w) X.A (.compStart (.ListComp elt [⟨tg,iter,ifs,0⟩] scope pos) 0 (.ref it) acc { cenv with scope:=relabel scope X.env }) (RR acc cenv.locals) s₄) E s₃) E s:=by
 refine wpAny_newObj_type (wpAny_newFunctionEnv w5 (by intro y hy;simp at hy) (λh₁ hns₁ hsb₁=>?_) Z.kind);dsimp only at hns₁ hsb₁ ⊢;generalize hH2:s.heap.push { cls := .type "list",dict:=none,data := .seq ([]:List Value).toArray }=H2 at hns₁ hsb₁ ⊢;have hC:H2.objs.size=s.heap.objs.size+1:=by rw[<- hH2,Heap.size_push]
 have hCle:s.heap.objs.size<=H2.objs.size:=by rw[hC];exact Nat.le_succ _
 have hDC:s.heap.objs.size≠H2.objs.size:=by rw[hC];exact l26 (l71 _)
 have old:∀b o,s.heap.get? b=some o->h₁.get? b=some o:=λb o e=>
  hsb₁.extBut b o (l26 (l19 (Heap.lt_size e) hCle)) (Heap.get?_push_of_some _ (hH2▸Heap.get?_push_of_some _ e))
 have hD:h₁.get? s.heap.objs.size=some { cls := .type "list",dict:=none,data := .seq ([]:List Value).toArray }:=
  hsb₁.extBut _ _ hDC (Heap.get?_push_of_some _ (hH2▸Heap.get?_push_size _ rfl))
 have ho:=T.obj _ _ st;have frD:H s.heap.objs.size=none:=I.hok.fresh (l7 _);have frC:H H2.objs.size=none:=I.hok.fresh hCle;obtain⟨W,⟨m0,w0⟩,turn⟩:=q s.heap.objs.size frD;have hok1:HOk X.prog X.w (upd H s.heap.objs.size (.lst [])) h₁:=I.hok.laid old (l7 _) ⟨l16 _,[],0, .nil,hD⟩;have un1:Un (frs X.stack) fp H (upd H s.heap.objs.size (.lst [])) s.heap h₁:=Un.laid old (l7 _) frD;have C1:upd H s.heap.objs.size (.lst []) H2.objs.size=none:=by rw[ad (Ne.symm hDC)];exact frC
 have fpD:∀b∈fp,b≠s.heap.objs.size:=λb hb z=>by
  obtain⟨o,e,_⟩:=ho b hb;exact absurd (Heap.lt_size e) (by rw[z];exact l46 _)
 have J0:∀t,0 < t->Inv (aU X scope cl H2.objs.size N' fp s H) [] (nfS own.length fr σ) (upd H s.heap.objs.size (.lst [])) { s with heap:=h₁,toks:=t }:=λt ht=>
  rL I Z hCle hf ho rfl I.bare un1 ⟨_,hns₁⟩ (λx c v e ⟨o,e1,e2⟩=>⟨o,old c o e1,e2⟩) C1 hok1 ht
 have st1:tn 0 h₁:=T.keep _ _ _ st λb _ o e=>old b o e;have loop:∀s₃:Shared,s₃={ s with heap:=h₁,toks:=s.toks+([]:List (Str×Value)).length } →
   codeAny (model X.prog X.w) X.A (.compLoop (.ListComp elt [⟨tg,iter,ifs,0⟩] scope pos) 0 (.ref it) (.ref s.heap.objs.size) (compEnvC scope cl H2.objs.size X.env)) (RR (.ref s.heap.objs.size) H2.objs.size) s₃:=by
  rintro s₃ rfl;generalize hX:aU X scope cl H2.objs.size N' fp s H=X' at J0;have hg':PG X' tg g:=by rw[<- hX];exact hg _
  have ht':PTs X' ifs tt:=by rw[<- hX];exact ht _
  have he':PE X' elt te:=by rw[<- hX];exact he _
  have eP:X'.prog=X.prog:=by rw[<- hX]
  have eW:X'.w=X.w:=by rw[<- hX]
  have eK:X'.K=X.K:=by rw[<- hX]
  have eA:X'.A=X.A:=by rw[<- hX]
  have eE:X'.env=compEnvC scope cl H2.objs.size X.env:=by rw[<- hX]
  have eX:X'.xe=λ_ _=>False:=by rw[<- hX]
  have eC:Cm X':=by rw[<- hX];exact hc _
  have fpX:∀{H':Hp},(∀b∈fp,H' b=none)->∀b∈fp,FpOk X' [] H' b:=λhn b hb=>by
   rw[<- hX];have ok:=oX I Z hCle hf ho;refine⟨hn b hb,(ok.exf b hb).1,ok.exfs b hb, .inl hb,(ok.exf b hb).2,λp hp=>absurd (show p∈([]:List (Addr×Obj)) from hp) (by simp)⟩
  refine jS (λn s'=>∃i acc H',Inv X' [] (nfS own.length fr σ) H' s'/\tn i s'.heap/\(∀b∈fp,H' b=none)/\W i n acc H') ?_ m0 ⟨0,[],_,J0 _ (by have:=I.tk;omega),st1,λb hb=>by rw[ad (fpD b hb)];exact(hf b hb).1,w0⟩;rintro n s3 ⟨i,acc,H3,I3,st3,fr3,w3⟩;obtain⟨hDa,turn3⟩:=turn i n acc H3 w3;rcases turn3 with ⟨stop,qn⟩ |⟨go,step⟩
  ·have:=T.done X' eP eW eK eC i [] s3 _ H3 (λ_ _=>False) I3 (fpX fr3) st3 stop;rw[eA] at this;refine thn this λr s4 ⟨hr,I4⟩=>?_;subst hr;show RR _ _ _ _;have I4':Inv (aU X scope cl H2.objs.size N' fp s H) [] (nfS own.length fr σ) H3 s4:=by rw[hX];exact I4
   obtain⟨m,hm,_⟩:=I4'.loc;exact hRR _ _ s4 H3 hCle ⟨m,hm⟩ I4'.free (rM I hf I4') qn
  ·have:=T.item X' eP eW eK eC i [] s3 _ H3 (λ_ _=>False) I3 (fpX fr3) st3 go;rw[eA] at this;refine thn this λr s4 ⟨u,hr,h4⟩=>?_;subst hr;show wpAny _ _ (letOwnedTupleGo tg (.ref it) u) _ _ s4;refine thn h4 λ_ s5 ⟨x,H5,I5,r5,y5,st5,fr5⟩=>?_;have I5':=I5.pinned (fpX fr5) (T.obj _ _ st5);have back:∀{σ7:St} {H7:Hp} {s7:Shared},Inv X' ([]++iz fp s5.heap) σ7 H7 s7->tn (i+1) s7.heap/\∀b∈fp,H7 b=none:=λ{σ7 H7 s7} I7=>by
    refine⟨T.keep _ _ _ st5 λb hb o e=>(I7.pin (b,o) (l31 _ (l31 _ (dg hb e)))).1,λb hb=>?_⟩;obtain⟨o,e,d⟩:=T.obj _ _ st5 b hb;exact(I7.pin (b,o) (l31 _ (l31 _ (dg hb e)))).2.1
   have g5:=hg' _ s5 _ H5 x u _ I5' r5 (step x H5 y5);rw[eP,eW,eA,eE,eX] at g5;refine thn g5 λ_ s6 ⟨σ6,H6,I6,nf6,q6⟩=>?_;have t6:=ht' _ s6 σ6 H6 _ I6 q6;rw[eP,eW,eA,eE,eX] at t6;refine thn t6 λok s7 ⟨H7,I7,q7⟩=>?_;have again:∀{H8:Hp} {s8:Shared} {acc8:List V},Inv X' ([]++iz fp s5.heap) σ6 H8 s8->(∃m',m' < n/\W (i+1) m' acc8 H8) →
     ∃m,m < n/\∃i acc H',Inv X' [] (nfS own.length fr σ) H' s8/\tn i s8.heap/\(∀b∈fp,H' b=none)/\W i m acc H':=λ{H8 s8 acc8} I8 ⟨m',hm,w8⟩=>
    ⟨m',hm,i+1,acc8,H8,I8.unpinned.weak nf6.1.symm nf6.2,(back I8).1,(back I8).2,w8⟩
   cases ok with
   |false=>
    have q7':∃m',m' < n/\W (i+1) m' acc H7:=by rw[if_neg Bool.false_ne_true] at q7;exact q7
    show if false=true then _ else _
    rw[if_neg Bool.false_ne_true];exact again I7 q7'
   |true=>
    rw[if_pos rfl] at q7;show if true=true then _ else _
    rw[if_pos rfl];have e7:=he' _ s7 σ6 H7 _ I7 q7;rw[eP,eW,eA,eE,eX] at e7;refine thn e7 λyv s8 ⟨y,H8,I8,r8,hD8,hz8,m',hm,w8⟩=>?_;have a8:=jP _ s8 σ6 H8 (.ref s.heap.objs.size) [y] (.ref s.heap.objs.size) [yv] (λ_ H9=>H9=upd H8 s.heap.objs.size (.lst (acc++[y]))) I8 rfl (.cons r8 .nil) ⟨_,acc,y,rfl,rfl,hD8,hz8,rfl⟩;rw[eP,eW,eA,eX] at a8;refine thn a8 λ_ s9 ⟨_,H9,I9,_,e9⟩=>?_;subst e9;exact again I9 ⟨m',hm,w8⟩
 exact codeAny_compStart_list (loop _ rfl) (T.self _ 0 _ _ _ st1 (loop _ rfl))
def zm (hc:X.calm=true)(Z:CompN X scope cl own fr N')(w5:∀y∈scope.names,y.2 ≠ .cell)(v9:∀x∈scope.names,x.2 = .local->scope.names.lookup x.1=some .local)(j9:closureFor scope X.env=pure cl)
  (hi:PI X tg iter wi)(hg:∀C fp s H,PG (aU X scope cl C N' fp s H) tg g)(ht:∀C fp s H,PTs (aU X scope cl C N' fp s H) ifs tt)(he:∀C fp s H,PE (aU X scope cl C N' fp s H) elt te)
  (hs:∀x,foldedSetIterable iter X.env x=pure x:=by intro _;rfl):PE X (.ListComp elt [⟨tg,iter,ifs,0⟩] scope pos) (tLC wi own.length fr g tt te):=by
 intro w9 s σ H Q I h;rw[eval_ListComp];refine wpAny_comprehension_free (use:=none) rfl hs j9 Z.kind v9 (thn (hi w9 s σ H _ I h) λv s1 h1=>thn h1 λitv s2 h2=>?_);obtain⟨it,fp,tn,J,H2,e,I2,T,st2,f2,q2⟩:=h2;subst e;refine iC (Cm:=λX=>X.calm=true) (λ_=>hc) Z w5 (λC=>hg C _ _ _) (λC=>ht C _ _ _) (λC=>he C _ _ _) I2 T.toP st2 f2 q2 (RR:=λacc C=>compPost (model X.prog X.w) X.A X.xe none (EP X w9 σ Q) acc C) λD C s' H' hC ⟨m,hm⟩ fC I' q'=>?_;exact⟨m,hm,λh' hs'=>⟨.ref D,H',jR I2 hC I' fC hs',rfl,q'⟩⟩
def oY (i:Nat)(wi:TI)(k:Nat)(fr:List Nat)(g:TG)(tt:TT)(te:TE):TS:=λD σ H=>wi σ H λJ H1=>rLC k fr g tt te σ J H1 λa H'=>D.nx (σ.set i (some (.ref a))) H'
def rN {i:Nat}{x:Str}{pos' spos:Pos}(hN:X.N.Nodup)(hix:X.N[i]? = some x)(hx:X.env.scope.names.lookup x=some .local)(hc:X.calm=true)(Z:CompN X scope cl own fr N')(w5:∀y∈scope.names,y.2 ≠ .cell)
  (v9:∀x∈scope.names,x.2 = .local->scope.names.lookup x.1=some .local)(j9:closureFor scope X.env=pure cl)
  (hi:PI X tg iter wi)(hg:∀C fp s H,PG (aU X scope cl C N' fp s H) tg g)(ht:∀C fp s H,PTs (aU X scope cl C N' fp s H) ifs tt)(he:∀C fp s H,PE (aU X scope cl C N' fp s H) elt te)
  (hs:∀x,foldedSetIterable iter X.env x=pure x:=by intro _;rfl) (hsw:swapsWith (.ListComp elt [⟨tg,iter,ifs,0⟩] scope pos) (some (.Name x pos')) spos.line X.env=pure true:=by rfl):
  PS X (.Assign [.Name x pos'] (.ListComp elt [⟨tg,iter,ifs,0⟩] scope pos) spos) (oY i wi own.length fr g tt te):=by
 intro w9 s σ H D I h;rw[exec_Assign_Name_used _ _ _ _ hsw];refine wpAny_bind (wpAny_standAt (wpAny_bind ?_));show wpAny _ X.A (do let _ ← comprehension (.ListComp elt [⟨tg,iter,ifs,0⟩] scope pos) scope X.env _ (newList []) false (eval iter X.env) (some (assign (.Name x pos') X.env))) _ _ s;refine wpAny_bind (wpAny_mono (wpAny_comprehension_free (use:=some (assign (.Name x pos') X.env)) (Q:=λ_ s'=>SP X w9 D .next s') rfl hs j9 Z.kind v9
  (thn (hi w9 s σ H _ I h) λv s1 h1=>thn h1 λitv s2 h2=>?_)) (λ_ s' hq=>wpAny_pure (wpAny_pure hq)) λ_ _ e=>e)
 obtain⟨it,fp,tn,J,H2,e,I2,T,st2,f2,q2⟩:=h2;subst e;refine iC (Cm:=λX=>X.calm=true) (λ_=>hc) Z w5 (λC=>hg C _ _ _) (λC=>ht C _ _ _) (λC=>he C _ _ _) I2 T.toP st2 f2 q2 (RR:=λacc C=>compPost (model X.prog X.w) X.A X.xe (some (assign (.Name x pos') X.env)) (λ_ s'=>SP X w9 D .next s') acc C) λa C s' H' hC ⟨m,hm⟩ fC I' q'=>?_;show wpAny _ _ (assign (.Name x pos') X.env (.ref a)) _ _ s';have neC:∀b,b=X.env.locals ∨ X.env.cells.lookup x=some b->C≠b:=λb hb z=>by
  subst z;rcases hb with e |e
  ·exact l42 (l19 I2.lt hC) e
  ·obtain⟨v,q⟩:=I2.cell x C e;exact absurd (l19 q.lt hC) (l46 _)
 refine wpAny_assign_Name (jE I' hN hix (.inl hx) (v := .ref a) rfl (λs'' I'' ⟨b,sb,eb⟩=>?_) (.inr hx));refine⟨m,hm.sameBut sb (neC b eb),λh' hs'=>⟨_,H',jR I2 hC I'' fC hs',q'⟩⟩
end
open PySem PySem.Spec PyProof.Rows
open Builtin Builtin.Str
section
variable {X:Cx}
theorem mE:∀{ys:List Str} {us:List Value},Vals (ys.map V.str) us->∃l:List (Str×Tok),us=strValues l/\l.map (·.1)=ys
 | [],us,r=>by
  rw[l73] at r;cases r;exact⟨[],rfl,rfl⟩
 |y::ys,us,r=>by
  rw[l20] at r;cases r with
  |cons r1 r2=>
   obtain⟨t,e⟩:=r1;obtain⟨l,e1,e2⟩:=mE r2;subst e;subst e1;exact⟨(y,t)::l,rfl,by rw[l20,e2]⟩
theorem mF:∀(l:List (Str×Tok)),Vals ((l.map (·.1)).map V.str) (strValues l)
 | [] => .nil
 |(y,t)::l => .cons ⟨t,rfl⟩ (mF l)
inductive rSplit (x:V)(vs:List V)(H:Hp)(Q:VK):Prop
 |mk (z y)(_:x = .str z)(_:vs=[.str y])(_:(y.length==0)=false)(_:z.length<=1000000)(_:∀p,H p=none->Q (.ref p) (upd H p (.lst ((Txt.split z y).map V.str))))
def oZ (z y:Str)(hz:z.length<=1000000):(partsBetween z (occurrences z y 0 z.length (z.length+1)) y.length).length<=sizeLine:=by
 have h1:=StrLaws.occ_length_le z y 0 z.length (z.length+1);have h2:sizeLine=16777216:=sizeLine_eq;unfold partsBetween;simp only[l5,List.length_zip,l9,l6,l32];omega
def rO:MtR X "str.split" rSplit:=by
 intro w9 s σ H x vs v us Q I rx rv h;obtain⟨z,y,rfl,rfl,hy,hz,q⟩:=h;obtain⟨t,rfl⟩:=rx;obtain⟨u,rfl,t2,rfl⟩:=rv.one;have hl:=oZ z y hz;have hs:=sizeLine_eq;have fin:∀(l:List (Str×Tok)) (k:Nat),0 < k->l.map (·.1)=Txt.split z y->l.length<=sizeLine->EP X w9 σ Q (.ref s.heap.objs.size) { s with heap:=s.heap.push { cls := .type "list",data := .seq (strValues l).toArray },toks:=k }:=λl k hk e hn=>by
  have r:=mF l;rw[e] at r;have w6:((Txt.split z y).map V.str).length<=sizeLine:=by rw[l5,<- e,l5];exact hn
  exact⟨.ref _,_,I.lnew (t':=k) r w6 hk,rfl,q _ I.fresh⟩
 cases h1:(decide (z.length < y.length)||decide (strKind z < strKind y))
 ·cases hf:(occurrences z y 0 z.length (z.length+1)).isEmpty
  ·refine call_meets F.slot_str_split (typeIs_str _ _ _) F.entry_str_split (F.args_str_split_2 _ _) (meets_str_split_sep z y t t2 h1 hy hf nofun hl) ?_;show wants (EP X w9 σ Q) X.xe _ { s with toks:=_,heap:=s.heap.push { cls := .type "list",data := .seq (strsFrom s.toks (partsBetween z (occurrences z y 0 z.length (z.length+1)) y.length)).toArray } };rw[strsFrom_eq];refine fin (numbered s.toks _) _ (by have:=I.tk;omega) ((numbered_texts _ _).trans ((if_neg (ne_true_of_eq_false h1)).trans (if_neg (ne_true_of_eq_false hf))).symm) ?_;have e:=congrArg List.length (numbered_texts s.toks (partsBetween z (occurrences z y 0 z.length (z.length+1)) y.length));rw[l5] at e;rw[e];exact hl
  ·exact call_meets F.slot_str_split (typeIs_str _ _ _) F.entry_str_split (F.args_str_split_2 _ _) (meets_str_split_not_found z y t t2 h1 hy hf)
    (fin [(z,t)] s.toks I.tk ((if_neg (ne_true_of_eq_false h1)).trans (if_pos hf)).symm (by show 1<=sizeLine;decide))
 ·exact call_meets F.slot_str_split (typeIs_str _ _ _) F.entry_str_split (F.args_str_split_2 _ _) (meets_str_split_cannot_occur z y t t2 h1)
   (fin [(z,t)] s.toks I.tk (if_pos h1).symm (by show 1<=sizeLine;decide))
inductive rJoin (K:Frag)(x:V)(vs:List V)(H:Hp)(Q:VK):Prop
 |mk (z a ys)(_:x = .str z)(_:vs=[.ref a])(_:SqL K H a (ys.map V.str))(_:(ys.map (·.length)).sum+ys.length * z.length<=sizeLine)(_:Q (.str (Txt.join z ys)) H)
theorem jT (z:Str):∀(ys:List Str) (n:Nat),ys.foldl (λ(n:Nat) (s:Str)=>n+s.length+z.length) n=n+((ys.map (·.length)).sum+ys.length * z.length)
 | [],n=>by simp
 |y::ys,n=>by
  rw[List.foldl_cons,jT z ys,l20,l35,l9,l58];omega
def eY:MtR X "str.join" (rJoin X.K):=by
 intro w9 s σ H x vs v us Q I rx rv h;obtain⟨z,a,ys,rfl,rfl,hq,hz,q⟩:=h;obtain⟨t,rfl⟩:=rx;obtain⟨u,rfl,ru⟩:=rv.one;cases ru;obtain⟨its,r,pl,hn⟩:=I.list hq;obtain⟨l,rfl,e⟩:=mE r;refine wpAny_with_toks (n:=1) I.tk (SC.join (texts:=ys) pl.isList e ?_ λt' k htk=>⟨.str (Txt.join z ys),H,I.tok _ htk,⟨_,rfl⟩,q⟩);unfold JoinOk tooLong;rw[<- Array.foldl_toList,List.toList_toArray,jT,Nat.zero_add];simpa using hz
inductive rS2 (f:Str->Str->V)(x:V)(vs:List V)(H:Hp)(Q:VK):Prop
 |mk (z y)(_:x = .str z)(_:vs=[.str y])(_:z.length<=sizeLine)(_:Q (f z y) H)
def jU:MtR X "str.rstrip" (rS2 λz y => .str (Txt.rstripChars z y)):=by
 intro w9 s σ H x vs v us Q I rx rv h;obtain⟨z,y,rfl,rfl,hz,q⟩:=h;obtain⟨t,rfl⟩:=rx;obtain⟨u,rfl,t2,rfl⟩:=rv.one;exact wpAny_with_toks (n:=1) I.tk (SC.rstripChars (λt' k htk=>⟨.str _,H,I.tok _ htk,⟨_,rfl⟩,q⟩) hz)
def ga:MtR X "str.lstrip" (rS2 λz y => .str (Txt.lstripChars z y)):=by
 intro w9 s σ H x vs v us Q I rx rv h;obtain⟨z,y,rfl,rfl,hz,q⟩:=h;obtain⟨t,rfl⟩:=rx;obtain⟨u,rfl,t2,rfl⟩:=rv.one;exact wpAny_with_toks (n:=1) I.tk (SC.lstripChars (λt' k htk=>⟨.str _,H,I.tok _ htk,⟨_,rfl⟩,q⟩) hz)
def rP:MtR X "str.strip" (rS2 λz y => .str (Txt.stripChars z y)):=by
 intro w9 s σ H x vs v us Q I rx rv h;obtain⟨z,y,rfl,rfl,hz,q⟩:=h;obtain⟨t,rfl⟩:=rx;obtain⟨u,rfl,t2,rfl⟩:=rv.one;exact wpAny_with_toks (n:=1) I.tk (SC.stripChars (λt' k htk=>⟨.str _,H,I.tok _ htk,⟨_,rfl⟩,q⟩) hz)
def aH:MtR X "str.startswith" (rS2 λz y => .bl (Txt.startswith z y)):=by
 intro w9 s σ H x vs v us Q I rx rv h;obtain⟨z,y,rfl,rfl,hz,q⟩:=h;obtain⟨t,rfl⟩:=rx;obtain⟨u,rfl,t2,rfl⟩:=rv.one;exact SC.startswith ⟨.bl _,H,I,rfl,q⟩
def lA:MtR X "str.endswith" (rS2 λz y => .bl (Txt.endswith z y)):=by
 intro w9 s σ H x vs v us Q I rx rv h;obtain⟨z,y,rfl,rfl,hz,q⟩:=h;obtain⟨t,rfl⟩:=rx;obtain⟨u,rfl,t2,rfl⟩:=rv.one;exact SC.endswith ⟨.bl _,H,I,rfl,q⟩
def vc:MtR X "str.find" (rS2 λz y => .int (Txt.find z y)):=by
 intro w9 s σ H x vs v us Q I rx rv h;obtain⟨z,y,rfl,rfl,hz,q⟩:=h;obtain⟨t,rfl⟩:=rx;obtain⟨u,rfl,t2,rfl⟩:=rv.one;exact SC.find ⟨.int _,H,I.tok _,⟨_,rfl⟩,q⟩
inductive R_mt_lower (x:V)(vs:List V)(H:Hp)(Q:VK):Prop
 |mk (z)(_:x = .str z)(_:vs=[])(_:z.length<=1000000)(_:Q (.str (Txt.lower z)) H)
def rQ:MtR X "str.lower" R_mt_lower:=by
 intro w9 s σ H x vs v us Q I rx rv h;obtain⟨z,rfl,rfl,hz,q⟩:=h;obtain⟨t,rfl⟩:=rx;cases rv.zero;exact SCL.lower nofun λ_=>⟨.str _,H,I.tok _,⟨_,rfl⟩,q⟩
def nR {o:Expr}{to:TE}{y z:Str}{jy jz:Nat}{py pz w4 y9:Pos}(ho:PE X o to)(hyz:(y==z)=false)(hzl:z.length<=14)
  (j6:attributeBase o "replace" X.env (eval o X.env)=eval o X.env:=by rfl) (v8:(w4.endLine==y9.line)=true:=by rfl):
  PE X (.Call (.Attribute o "replace" w4) [.Constant (.str y) jy py, .Constant (.str z) jz pz] [] y9) (λσ H Q=>to σ H λx H1=>∃w,x = .str w/\w.length<=1000000/\Q (.str (Txt.replace w y z)) H1):=by
 intro w9 s σ H Q I h;refine wpAny_Call_method_late j6 (by rfl) v8 rfl (thn (ho w9 s σ H _ I h) λv s1 ⟨x,H1,I1,r1,q1⟩=>?_);obtain⟨w,rfl,hw,q⟩:=q1;obtain⟨t,rfl⟩:=r1;refine⟨"str","str.replace",plainAttrs_str,F.slot_str_replace,F.type_str_replace,typeIs_str _ _ _,(λ_ e=>nomatch e),?_⟩;refine Calls.callWith_builtin (by rfl) (Calls.evalArgs_plain ?_);refine Calls.spliced_cons (Calls.Constant_str (k:=jy) (pos:=py) ?_);refine Calls.spliced_cons (Calls.Constant_str (k:=jz) (pos:=pz) ?_);refine Calls.spliced_nil ?_;have h0:=I1.tk;refine wpAny_with_toks (n:=1) (by show 1<=s1.toks+1+1;omega) (SC.replaceW (Nat.pos_iff_ne_zero.mp h0) (Nat.succ_ne_zero _) (l26 (l71 _)) hyz nofun hzl λt' k htk=>?_);exact⟨.str (Txt.replace w y z),H1,(I1.tok _ htk),⟨_,rfl⟩,q⟩
inductive R_op_mul_str (x y:V)(H:Hp)(Q:VK):Prop
 |mk (z n)(_:x = .str z)(_:y = .int n)(_:z.length=1)(_:0<=n)(_:n<=1000)(_:Q (.str (Txt.mul z n)) H)
def nS:OpR X (binaryOp .Mult) R_op_mul_str:=by
 intro w9 s σ H x y v u Q I rx ry h;obtain⟨z,n,rfl,rfl,hz,h0,h1,q⟩:=h;obtain⟨t,rfl⟩:=rx;obtain⟨t',rfl⟩:=ry;refine wpAny_with_toks (n:=1) I.tk (SB.mul ?_ λt' k htk=>⟨.str (Txt.mul z n),H,I.tok _ htk,⟨_,rfl⟩,q⟩);have hs:=sizeLine_eq;refine⟨?_,λ_ _=>?_,λ_ _=>?_⟩
 ·have e1:decide (n < -(2 ^ 63:Int))=false:=decide_eq_false nofun;have e2:decide (n ≥ 2 ^ 63)=false:=decide_eq_false nofun;rw[e1,e2];rfl
 ·rw[hz];have hn:n=0 ∨ 0 < n:=by omega
  intro q;have h9:(2 ^ 63 - 1:Int) / n ≥ 1:=by
   rename_i a _;have hp:0 < n:=by omega
   exact(Int.le_ediv_iff_mul_le hp).mpr nofun
  omega
 ·unfold tooLong;rw[hz];exact decide_eq_false nofun
inductive rSlS (x:V)(lo hi:Option Int)(H:Hp)(Q:VK):Prop
 |mk (z)(_:x = .str z)(_:z.length<=sizeLine)(_:Q (.str (Txt.slice z lo hi)) H)
def bR:SlR X rSlS:=by
 intro w9 s σ H x v vl vu lo hi sl Q I rx hs pl pu h;obtain⟨z,rfl,hz,q⟩:=h;obtain⟨t,rfl⟩:=rx;refine⟨"str",_,F.slot_str_getitem.lookup,typeIs_str _ _ _,?_⟩;have fin:∀(l u:Option (Int×Tok)),l.map (·.1)=lo->u.map (·.1)=hi->(sliceMade z t l u none).post (EP X w9 σ Q) s:=by
  intro l u el eu;subst el eu;unfold sliceMade;unfold Txt.slice at q;have e:slicePicked z l u none=strSliceIndices (l.map (·.1)) (u.map (·.1)) 1 z.length:=rfl;rw[e];show (if ((1:Int)==1&&(strSliceIndices (l.map (·.1)) (u.map (·.1)) 1 z.length).length==z.length)=true then Made.val (.str z t) else Made.str ⟨((strSliceIndices (l.map (·.1)) (u.map (·.1)) 1 z.length).filterMap (z.cps[·]?)).toArray⟩).post (EP X w9 σ Q) s;by_cases c:(((1:Int)==1&&(strSliceIndices (l.map (·.1)) (u.map (·.1)) 1 z.length).length==z.length))=true
  ·rw[if_pos c];rw[if_pos c] at q;exact⟨.str z,H,I,⟨_,rfl⟩,q⟩
  ·rw[if_neg c];rw[if_neg c] at q;have hl:=Txt.slice_le z (l.map (·.1)) (u.map (·.1));unfold Txt.slice at hl;rw[if_neg c] at hl;exact⟨l13 hl hz, .str _,H,I.tok _,⟨_,rfl⟩,q⟩
 have go:∀(l u:Option (Int×Tok)),vl=partValue l->vu=partValue u->l.map (·.1)=lo->u.map (·.1)=hi->wpAny (model X.prog X.w) X.A (getItem (.str z t) (.ref sl)) (EP X w9 σ Q) X.xe s:=by
  intro l u e1 e2 e3 e4;subst e1 e2;exact wpAny_getItem_str_slice (l:=l) (u:=u) (st:=none) hs rfl (fin l u e3 e4)
 cases pl with
 |none=>cases pu with
  |none=>exact go none none rfl rfl rfl rfl
  |int j tj=>exact go none (some (j,tj)) rfl rfl rfl rfl
 |int i ti=>cases pu with
  |none=>exact go (some (i,ti)) none rfl rfl rfl rfl
  |int j tj=>exact go (some (i,ti)) (some (j,tj)) rfl rfl rfl rfl
def Its (z:Str):It:=⟨λi _=>i < z.length,λi H x H'=>H'=H/\∃c,z.cps[i]? = some c/\x = .str ⟨#[c]⟩,λi _=>z.length<=i⟩
inductive iStr.I (R:(It->Hp->Prop))(x:V)(H1:Hp):Prop
 |mk (z)(_:x = .str z)(_:R (Its z) H1)
def iStr (tl:TE):TI:=λσ H R=>tl σ H (iStr.I R)
def rR {P:Program}{w:World}{K:Frag}{x:Str}{px:Pos}(z:Str)(it:Addr)(ty:String)(t:Tok)(hty:ty="str_ascii_iterator" ∨ ty="str_iterator"):
  Turn P w K (.Name x px) (Its z) [it] it (λi h=>h.IsStrIter it ty z t i) where
 mem:=by simp
 obj:=λi h st b hb=>by
  have e:b=it:=by simpa using hb
  subst e;obtain⟨o,ho,_,hd⟩:=st;exact⟨o,ho,λv z=>by rw[hd] at z;cases z⟩
 keep:=λi h h' st k=>by
  obtain⟨o,ho,r⟩:=st;exact⟨o,k it (by simp) o ho,r⟩
 item:=by
  intro X hP hw hK hc i w9 s σ H E I hf st hg;subst hP hw hK;obtain⟨f0,f1,f2,f3,f4,f5⟩:=hf it (by simp);have hi:i < z.cps.size:=hg;have hx:z.cps[i]? = some z.cps[i]:=by simp[hi]
  have fin:∀h',h'.IsStrIter it ty z t (i+1)->Heap.SameBut it s.heap h'->∃u,(some (Value.str ⟨#[z.cps[i]]⟩ s.toks):Option Value)=some u ∧
    wpAny (model X.prog X.w) X.A (letOwnedTupleGo (.Name x px) (.ref it) u) (λ_ s2=>∃x H',Inv X w9 σ H' s2/\RelV x u/\(Its z).yld i H x H'/\s2.heap.IsStrIter it ty z t (i+1)/\∀b∈[it],H' b=none) E { s with heap:=h',toks:=s.toks+1 }:=
   λh' st' sb=>⟨_,rfl,wpAny_pure ⟨.str ⟨#[z.cps[i]]⟩,H,I.turned (λb o hb e=>(sb.2 b hb).trans e) f0 f1 f3 f4 f5,⟨_,rfl⟩,⟨rfl,_,hx,rfl⟩,st',λb hb=>(hf b hb).1⟩⟩
  rcases hty with rfl |rfl
  ·exact wpAny_pyNext_ascii_item st hx fin
  ·exact wpAny_pyNext_wide_item st hx fin
 done:=by
  intro X hP hw hK hc i w9 s σ H E I hf st hg;subst hP hw hK;obtain⟨f0,f1,f2,f3,f4,f5⟩:=hf it (by simp);have hx:z.cps[i]? = none:=by
   have:z.cps.size<=i:=hg;simp[this]
  rcases hty with rfl |rfl
  ·exact wpAny_pyNext_ascii_end (I.ok.hd hc) st hx λh' eb=>⟨rfl,I.turned (t':=s.toks) (λb o hb e=>eb b o hb e) f0 f1 f3 f4 f5⟩
  ·exact wpAny_pyNext_wide_end (I.ok.hd hc) st hx λh' eb=>⟨rfl,I.turned (t':=s.toks) (λb o hb e=>eb b o hb e) f0 f1 f3 f4 f5⟩
 self:=by
  intro A i s Q E st h;rcases hty with rfl |rfl
  ·exact wpAny_pyIter_striter_ascii st h
  ·exact wpAny_pyIter_striter_wide st h
def xI {l:Expr}{tl:TE}{x:Str}{px:Pos}(hl:PE X l tl):PI X (.Name x px) l (iStr tl):=by
 intro w9 s σ H R I h;refine thn (hl w9 s σ H _ I h) λv s1 ⟨y,H1,I1,r1,q1⟩=>?_;obtain⟨z,rfl,q⟩:=q1;obtain⟨t,rfl⟩:=r1;have fin:∀ty,(ty="str_ascii_iterator" ∨ ty="str_iterator")->PIE X w9 σ (.Name x px) R (.ref s1.heap.objs.size) { s1 with heap:=s1.heap.push { cls := .type ty,data := .fields #[.str z t, .int 0 0] } }:=λty hty=>by
  refine⟨s1.heap.objs.size,[s1.heap.objs.size],_,_,H1,rfl,I1.kept (t':=s1.toks) λb o e=>Heap.get?_push_of_some _ e,rR z _ ty t hty,⟨_,Heap.get?_push_size _ rfl,rfl,rfl⟩,λb hb=>?_,q⟩;have e:b=s1.heap.objs.size:=by simpa using hb
  subst e;exact I1.fpOk (l7 _) (I1.hok.fresh (l7 _))
 cases ha:z.cps.all (· < 128)
 ·exact wpAny_pyIter_wide ha (fin _ (.inr rfl))
 ·exact wpAny_pyIter_ascii ha (fin _ (.inl rfl))
theorem ge:∀{bs:List Bool} {us:List Value} {i:Nat} {v:Value},Vals (bs.map V.bl) us->us[i]? = some v->∃b,bs[i]? = some b/\v = .bool b
 | [],_,_,_,r,e=>by
  rw[l73] at r;cases r;simp at e
 |b::bs,us,i,v,r,e=>by
  rw[l20] at r;cases r with
  |cons r1 r2=>
   cases i with
   |zero=>
    simp at e;subst e;exact⟨b,rfl,r1⟩
   |succ i=>
    obtain⟨c,h1,h2⟩:=ge (i:=i) r2 (by simpa using e);exact⟨c,by simpa using h1,h2⟩
def o0 (bs:List Bool):((List.range bs.length).all λi=>bs.getD i true)=bs.all id:=by
 rw[Bool.eq_iff_iff,l49,l49];constructor
 ·intro h b hb;obtain⟨i,hi,rfl⟩:=List.getElem_of_mem hb;have:=h i (l57.mpr hi);rw[l33,List.getElem?_eq_getElem hi] at this;exact this
 ·intro h i hi;have hi':=l57.mp hi;rw[l33,List.getElem?_eq_getElem hi'];exact h _ (l59 hi')
inductive R_call_all (K:Frag)(xs:List V)(H:Hp)(Q:VK):Prop
 |mk (a:Addr)(bs:List Bool)(_:xs=[.ref a])(_:SqL K H a (bs.map V.bl))(_:Q (.bl (bs.all id)) H)
def fR (hc:X.calm=true):dl X (.builtin "all") (R_call_all X.K):=by
 intro w9 s σ H xs us Q I r h;obtain⟨a,bs,rfl,hq,q⟩:=h;obtain⟨u,rfl,rx⟩:=ly r;cases rx;obtain⟨its,r',pl,hz⟩:=I.list hq;have w6:its.toArray.size=bs.length:=by
  have:=r'.length;rw[l5] at this;rw[l27,this]
 have lt:a < s.heap.objs.size:=by
  obtain⟨o,n,e,_⟩:=pl;exact Heap.lt_size e
 refine wpAny_with_toks (n:=1) I.tk (call_all_walk ?_);refine wpAny_pyIter_list pl.isList ?_;refine⟨s.heap.objs.size,_,_,_,_,_,λi=>bs.getD i true,rfl,Walks.list (A:=X.A.in1) (I.ok.hd hc) s.heap.objs.size a (l26 lt) its.toArray,⟨⟨_,Heap.get?_push_size _ rfl,rfl,rfl⟩,?_⟩,?_,λh' tk kp htk=>?_⟩
 ·obtain⟨o,n,e,c,_,d⟩:=pl;exact⟨o,Heap.get?_push_of_some _ e,c,n,d⟩
 ·intro i v s' Q' E' hP hQ;have hP':its[i]? = some v:=by simpa using hP
  obtain⟨b,hb,rfl⟩:=ge r' hP';have hQ':Q' (bs.getD i true) s':=hQ;rw[l33,hb] at hQ';exact wpAny_truthy_bool hQ'
 ·rw[w6,o0];refine⟨.bl _,H,I.kept (λb o e=>kp b o ?_ (Heap.get?_push_of_some _ e)) htk,rfl,q⟩;simp only[l14];exact l26 (Heap.lt_size e)
end
def ac {H:Hp}{p:Addr}(h:H p=none)(o:HO):Same H (upd H p o):=λb u q=>by rw[ad (aB q h)];exact q
def aj {H H':Hp}{D:Addr}{o:HO}(hD:H D=none)(e:Same H H'):Same H (upd H' D o):=λb u q=>by
 rw[ad (aB q hD)];exact e b u q
def o7 {J:It}{xs:List V}{k:Nat}{fr:List Nat}{g:TG}{tt:TT}{te:TE}{σ:St}{H0:Hp}{Q:Addr->Hp->Prop}(p:V->Bool)(f:V->V)(hl:xs.length<=sizeLine)
  (hgo:∀i H,Same H0 H->i < xs.length->J.go i H)(hyl:∀i H x H',i < xs.length->Same H0 H->J.yld i H x H'->H'=H/\xs[i]? = some x)(hst:∀i H,Same H0 H->xs.length<=i->J.stop i H)
  (ht:∀x∈xs,∀H',Same H0 H'->∀(C:V->Hp->Prop)(N:Hp->Prop),(∀H4,Same H' H4->p x=true->C (f x) H4)->(∀H3,Same H' H3->p x=false->N H3) →
   g x (nfS k fr σ) H' λσ2 H2=>nfLe k fr σ σ2/\tt σ2 H2 λb H3=>if b=true then te σ2 H3 C else N H3)
  (hq:∀D H',H0 D=none->Same H0 H'->H' D=some (.lst ((xs.filter p).map f))->Q D H'):rLC k fr g tt te σ J H0 Q:=by
 intro D hD;refine⟨λi m acc H=>m=xs.length - i/\i<=xs.length/\acc=((xs.take i).filter p).map f/\H D=some (.lst acc)/\Same H0 H,⟨xs.length,by simp,l16 _,by simp,aa,ac hD _⟩,?_⟩;rintro i m acc H ⟨rfl,hi,rfl,hDa,sm⟩;refine⟨hDa,?_⟩;by_cases hlt:i < xs.length
 ·refine .inr ⟨hgo i H sm hlt,λx H' y=>?_⟩;obtain⟨e,hxi⟩:=hyl i H x H' hlt sm y;subst e;have hmem:x∈xs:=l18 hxi;have htk:=take_succ_filter p xs i x hxi;refine ht x hmem H' sm _ _ (λH4 s4 hp=>?_) (λH3 s3 hp=>?_)
  ·refine⟨s4 _ _ hDa,?_,xs.length - (i+1),by omega,rfl,hlt,?_,aa,?_⟩
   ·rw[l5];have:=List.length_filter_le p (xs.take i);rw[l34] at this;omega
   ·rw[htk,hp];simp
   ·exact aj hD (sm.trans s4)
  ·refine⟨xs.length - (i+1),by omega,rfl,hlt,?_,s3 _ _ hDa,sm.trans s3⟩;rw[htk,hp];simp
 ·have e:i=xs.length:=by omega
  subst e;rw[l38] at hDa ⊢;exact .inl ⟨hst _ H sm (l7 _),hq D H hD sm hDa⟩
def vd {K:Frag}{a:Addr}{xs:List V}{k:Nat}{fr:List Nat}{g:TG}{tt:TT}{te:TE}{σ:St}{H0:Hp}{Q:Addr->Hp->Prop}(p:V->Bool)(f:V->V)(hx:SqL K H0 a xs)(hl:xs.length<=sizeLine)
  (ht:∀x∈xs,∀H',Same H0 H'->∀(C:V->Hp->Prop)(N:Hp->Prop),(∀H4,Same H' H4->p x=true->C (f x) H4)->(∀H3,Same H' H3->p x=false->N H3) →
   g x (nfS k fr σ) H' λσ2 H2=>nfLe k fr σ σ2/\tt σ2 H2 λb H3=>if b=true then te σ2 H3 C else N H3)
  (hq:∀D H',H0 D=none->Same H0 H'->H' D=some (.lst ((xs.filter p).map f))->Q D H'):rLC k fr g tt te σ (Itl K a) H0 Q:=
 o7 p f hl (λi H sm hi=>⟨xs,xs[i],sm.seq hx,by simp[hi]⟩) (λi H x H' _ sm y=>⟨y.1,by obtain⟨e,y⟩:=y;exact y xs (sm.seq hx)⟩) (λi H sm hi=>⟨xs,sm.seq hx,hi⟩) ht hq
def tW {z:Str}{k:Nat}{fr:List Nat}{g:TG}{tt:TT}{te:TE}{σ:St}{H0:Hp}{Q:Addr->Hp->Prop}(p:V->Bool)(f:V->V)(hl:z.length<=sizeLine)
  (ht:∀c∈z.cps.toList,∀H',Same H0 H'->∀(C:V->Hp->Prop)(N:Hp->Prop),(∀H4,Same H' H4->p (.str ⟨#[c]⟩)=true->C (f (.str ⟨#[c]⟩)) H4)->(∀H3,Same H' H3->p (.str ⟨#[c]⟩)=false->N H3) →
   g (.str ⟨#[c]⟩) (nfS k fr σ) H' λσ2 H2=>nfLe k fr σ σ2/\tt σ2 H2 λb H3=>if b=true then te σ2 H3 C else N H3)
  (hq:∀D H',H0 D=none->Same H0 H'->H' D=some (.lst (((z.cps.toList.map λc=>V.str ⟨#[c]⟩).filter p).map f))->Q D H'):rLC k fr g tt te σ (Its z) H0 Q:=by
 have hz:(z.cps.toList.map λc=>V.str ⟨#[c]⟩).length=z.length:=by rw[l5];simp[Str.length]
 refine o7 p f (by rw[hz];exact hl) (λi H sm hi=>by rw[hz] at hi;exact hi) (λi H x H' hi sm y=>?_) (λi H sm hi=>by rw[hz] at hi;exact hi) (λx hx=>?_) hq
 ·obtain⟨e,c,h1,h2⟩:=y;refine⟨e,?_⟩;rw[List.getElem?_map,h2];have:z.cps.toList[i]? = some c:=by simpa using h1
  rw[this];rfl
 ·obtain⟨c,hc,rfl⟩:=l23.mp hx;exact ht c hc
def rS {n:Nat}{k:Nat}{fr:List Nat}{g:TG}{tt:TT}{te:TE}{σ:St}{H0:Hp}{Q:Addr->Hp->Prop}(lo:Int)(p:V->Bool)(f:V->V)(hl:n<=sizeLine)
  (ht:∀i,i < n->∀H',Same H0 H'->∀(C:V->Hp->Prop)(N:Hp->Prop),(∀H4,Same H' H4->p (.int (lo+(i:Nat)))=true->C (f (.int (lo+(i:Nat)))) H4)->(∀H3,Same H' H3->p (.int (lo+(i:Nat)))=false->N H3) →
   g (.int (lo+(i:Nat))) (nfS k fr σ) H' λσ2 H2=>nfLe k fr σ σ2/\tt σ2 H2 λb H3=>if b=true then te σ2 H3 C else N H3)
  (hq:∀D H',H0 D=none->Same H0 H'->H' D=some (.lst ((((List.range n).map λ(i:Nat)=>V.int (lo+i)).filter p).map f))->Q D H'):rLC k fr g tt te σ (Itr lo n) H0 Q:=by
 have hz:((List.range n).map λ(i:Nat)=>V.int (lo+i)).length=n:=by rw[l5,l50]
 refine o7 p f (by rw[hz];exact hl) (λi H sm hi=>by rw[hz] at hi;exact hi) (λi H x H' hi sm y=>?_) (λi H sm hi=>by rw[hz] at hi;exact hi) (λx hx=>?_) hq
 ·obtain⟨e,h2⟩:=y;rw[hz] at hi;refine⟨e,?_⟩;rw[List.getElem?_map,List.getElem?_range hi,h2];rfl
 ·obtain⟨i,hi,rfl⟩:=l23.mp hx;exact ht i (l57.mp hi)
def FreeOk (X:Cx)(scope:Scope)(N':List Str):Nat->List Nat->List Str->Prop
 |_,[],[]=>True
 |k,j::fr,x::xs=>X.N[j]? = some x/\N'[k]? = some x/\(X.env.kindOf x=some .cell ∨ X.env.kindOf x=some .free) ∧
   ((relabel scope X.env).names.lookup x=some .cell ∨ (relabel scope X.env).names.lookup x=some .free)/\FreeOk X scope N' (k+1) fr xs
 |_,_,_=>False
def FreeOk.get {X:Cx}{scope:Scope}{N':List Str}:∀{k:Nat} {fr:List Nat} {xs:List Str},FreeOk X scope N' k fr xs->∀(i j:Nat),fr[i]? = some j->∃x,X.N[j]? = some x/\N'[k+i]? = some x ∧
  (X.env.kindOf x=some .cell ∨ X.env.kindOf x=some .free)/\((relabel scope X.env).names.lookup x=some .cell ∨ (relabel scope X.env).names.lookup x=some .free)
 |_,[],[],_,i,j,e=>by simp at e
 |_,[],_::_,h,_,_,_=>h.elim
 |_,_::_,[],h,_,_,_=>h.elim
 |k,j0::fr,x::xs,h,i,j,e=>by
  obtain⟨h1,h2,h3,h4,h5⟩:=h;cases i with
  |zero=>
   simp at e;subst e;exact⟨x,h1,h2,h3,h4⟩
  |succ i=>
   have:=h5.get i j (by simpa using e);have e2:k+1+i=k+(i+1):=by omega
   rw[e2] at this;exact this
def eZ {X:Cx}{scope:Scope}{cl:List (Str×Addr)}{own:List Str}{fr:List Nat}{xs N':List Str}(cells:CellsIn X.env cl)(free:FreeOk X scope N' own.length fr xs)
  (nd:N'.Nodup)(all:((relabel scope X.env).names.all λy=>y.2 == .local||y.2 == .globalImplicit||(cl.lookup y.1).isSome)=true:=by rfl)
  (kind:scope.kind = .function:=by rfl) (len:N'.length=own.length+fr.length:=by rfl):CompN X scope cl own fr N':=by
 refine⟨kind,cells,λx hx=>?_,nd,len,λi j e=>free.get i j e⟩;have key:∀k,(relabel scope X.env).names.lookup x=some k->(k = .cell ∨ k = .free)->∃c,cl.lookup x=some c:=λk e hk=>by
  have hm:=PySem.mem_of_lookup e;have:=l49.mp all _ hm;rcases hk with rfl |rfl
  ·simp only[Bool.or_eq_true] at this;rcases this with (z |z) |z
   ·exact absurd z ∅
   ·exact absurd z ∅
   ·exact l88.mp z
  ·simp only[Bool.or_eq_true] at this;rcases this with (z |z) |z
   ·exact absurd z ∅
   ·exact absurd z ∅
   ·exact l88.mp z
 rcases hx with e |e
 ·exact key _ e (.inl rfl)
 ·exact key _ e (.inr rfl)
structure Def (P:Program)(w:World)(K:Frag)(mg:Str->Option Value)(base:Heap)(k:Nat)(x:Str)(ps:List Str)(sp:Sp):Prop where
 ex:∃f fd,FnOk P w K mg base CX0 k f fd ps sp/\mg x=some (.ref f)/\keepIn K (.ref f)=true/\Binds K fd ps []
section
variable {X:Cx}{k:Nat}{x:Str}{ps:List Str}{sp:Sp}{e:Expr}{es:List Expr}{te:TE}{t:TA}{p pos:Pos}
def rT (D:Def X.prog X.w X.K X.mg X.base k x ps sp)(hr:Room k X.A)(ha:PA X (e::es) t)(hg:Gl X x:=by exact rfl) (hdb:(x==("__debug__":Str))=false:=by decide)
  (he:starEach (e::es) X.env=(false,eval e X.env)::starEach es X.env:=by rfl) (hpl:(backTo pos (starEach es X.env)).any (·.1)=false:=by rfl):
  PE X (.Call (.Name x p) (e::es) [] pos) (tCall sp [] E0 t):=by
 obtain⟨f,fd,G,hm,hk,hb⟩:=D.ex;exact u4 G hr hg hm hk hb .nil oW ha hdb he hpl
def bY:Expr->Bool
 | .Starred .. => true
 |_=>false
def aK {e:Expr}{es:List Expr}{env:Env}(h:bY e=false):starEach (e::es) env=(false,eval e env)::starEach es env:=by
 cases e <;> first |rfl |cases h
def aC:List Expr->Bool
 | []=>true
 |e::es => !bY e&&aC es
theorem bE {pos:Pos}{env:Env}:∀{es:List Expr},aC es=true->(backTo pos (starEach es env)).any (·.1)=false
 | [],_=>rfl
 |e::es,h=>by
  unfold aC at h;rw[Bool.and_eq_true,Bool.not_eq_true'] at h;rw[aK h.1];exact(show (false||(backTo pos (starEach es env)).any (·.1))=false by rw[bE h.2];rfl)
theorem jV {pos:Pos}{env:Env}:∀{es:List Expr},aC es=true->(backTo pos (starEach es env)).all (λx => !x.1)=true
 | [],_=>rfl
 |e::es,h=>by
  unfold aC at h;rw[Bool.and_eq_true,Bool.not_eq_true'] at h;rw[aK h.1];exact(show (true&&(backTo pos (starEach es env)).all (λx => !x.1))=true by rw[jV h.2];rfl)
def pa (ha:PE X e te)(hr:PA X es t)(h:bY e=false:=by rfl):PA X (e::es) (tCons te t):=uZ ha hr (aK h)
def few {y9:Pos}{env:Env}{es:List Expr}(h:aC es=true)(hl:decide (es.length+([]:List Keyword).length+(if ([]:List Keyword).isEmpty then 0 else 1) < 30)=true):
  ((backTo y9 (starEach es env)).all (λx => !x.1)&&(backToKw y9 (keywordEach [] env)).all (λx=>x.1.isSome)
   && decide (es.length+([]:List Keyword).length+(if ([]:List Keyword).isEmpty then 0 else 1) < 30))=true:=by
 rw[jV h,hl];rfl
def pm {o e:Expr}{es:List Expr}{to:TE}{t:TA}{name:Str}{w4 y9:Pos}{T id:String}{r:V->List V->Hp->VK->Prop}(pa:PlainAttrs T)(slot:Slot T name id)(hty:typeOf (.builtin id)=pure (.type "method_descriptor"))(hm:MtR X id r)(ho:PE X o to)(ha:PA X (e::es) t)
  (j6:attributeBase o name X.env (eval o X.env)=eval o X.env)(hst:aC (e::es)=true:=by rfl) (hl:decide ((e::es).length+([]:List Keyword).length+(if ([]:List Keyword).isEmpty then 0 else 1) < 30)=true:=by rfl)
  (v8:(w4.endLine==y9.line)=true:=by rfl):PE X (.Call (.Attribute o name w4) (e::es) [] y9) (tBM X.K T r to t):=by
 have h2:aC es=true:=by
  unfold aC at hst;rw[Bool.and_eq_true] at hst;exact hst.2
 have h1:bY e=false:=by
  unfold aC at hst;rw[Bool.and_eq_true,Bool.not_eq_true'] at hst;exact hst.1
 exact zl pa slot hty hm ho ha j6 (few hst hl) v8 (aK h1) (bE h2)
def cH:Expr->Bool
 | .Call (.Name x _) [] [] _=>x != Str.ofString "super"
 |_=>true
def base_of {o:Expr}{name:Str}{env:Env}{w:Sem Value}(h:cH o=true):attributeBase o name env w=w:=by
 unfold attributeBase;split
 ·rename_i id _ _;have h:(id != Str.ofString "super")=true:=h;rw[h];rfl
 ·rfl
def cD {k:Nat}{x:Str}{ps:List Str}{sp:Sp}(D:Def X.prog X.w X.K X.mg X.base k x ps sp)(hr:Room k X.A)(ha:PA X (e::es) t)(hg:Gl X x:=by exact rfl) (hdb:(x==("__debug__":Str))=false:=by decide)
  (hst:aC (e::es)=true:=by rfl):PE X (.Call (.Name x p) (e::es) [] pos) (tCall sp [] E0 t):=by
 have h2:aC es=true:=by
  unfold aC at hst;rw[Bool.and_eq_true] at hst;exact hst.2
 have h1:bY e=false:=by
  unfold aC at hst;rw[Bool.and_eq_true,Bool.not_eq_true'] at hst;exact hst.1
 exact rT D hr ha hg hdb (aK h1) (bE h2)
def cB {id:String}{r:List V->Hp->VK->Prop}(hc:dl X (.builtin id) r)(hg:Gl X x)(hm:X.mg x=none)(hv:bootBuiltins x=some (.builtin id))(ha:PA X (e::es) t)(hn:x≠"__name__":=by decide) (hdb:(x==("__debug__":Str))=false:=by decide)
  (hst:aC (e::es)=true:=by rfl):PE X (.Call (.Name x p) (e::es) [] pos) (tCB r t):=by
 have h2:aC es=true:=by
  unfold aC at hst;rw[Bool.and_eq_true] at hst;exact hst.2
 have h1:bY e=false:=by
  unfold aC at hst;rw[Bool.and_eq_true,Bool.not_eq_true'] at hst;exact hst.1
 exact rF hc hg hm hv ha hn hdb (aK h1) (bE h2)
inductive rIsT (K:Frag)(xs:List V)(H:Hp)(Q:VK):Prop
 |mk (x t T b)(_:xs=[x, .ty T])(_:TyOf K H x t)(_:kitOne K t (.type T)=some b)(_:Q (.bl b) H)
def cx:dl X (.builtin "isinstance") (rIsT X.K):=by
 intro w9 s σ H xs us Q I r h;obtain⟨x,t,T,b,rfl,ty,e,q⟩:=h;obtain⟨u,v,rfl,rx,rv⟩:=r.two;cases rv;exact wpAny_with_toks (n:=1) I.tk (jI I rx ty e λtk htk=>⟨.bl b,H,I.tok _ htk,rfl,q⟩)
def rV (K:Frag)(t:Value):kitOne K t t=some true:=by
 unfold kitOne;rw[if_pos (beq_self_eq_true t)]
def rW {x y:Str}{pos:Pos}(h:∃t,X.mg x=some (.str y t))(hg:Gl X x:=by exact rfl) (hd:(x==("__debug__":Str))=false:=by decide):PE X (.Name x pos) (tC (.str y)):=by
 obtain⟨t,e⟩:=h;exact lu hg e ⟨t,rfl⟩ hd
def rX {x:Str}{y:Int}{pos:Pos}(h:∃t,X.mg x=some (.int y t))(hg:Gl X x:=by exact rfl) (hd:(x==("__debug__":Str))=false:=by decide):PE X (.Name x pos) (tC (.int y)):=by
 obtain⟨t,e⟩:=h;exact lu hg e ⟨t,rfl⟩ hd
end
structure XE (X:Cx)(e:Expr)(t:TE):Prop where
 h:PE X e t
structure XT (X:Cx)(e:Expr)(t:TT):Prop where
 h:PT X e t
structure XW (X:Cx)(e:Expr)(t:TT):Prop where
 h:PW X e t
structure XA (X:Cx)(e:List Expr)(t:TA):Prop where
 h:PA X e t
structure XS (X:Cx)(st:Stmt)(t:TS):Prop where
 h:PS X st t
structure XB (X:Cx)(st:List Stmt)(t:TS):Prop where
 h:PSs X st t
structure XG (X:Cx)(e:Expr)(t:TG):Prop where
 h:PG X e t
structure XGs (X:Cx)(e:List Expr)(t:TGs):Prop where
 h:PGs X e t
structure XI (X:Cx)(tg it:Expr)(t:TI):Prop where
 h:PI X tg it t
structure XO (X:Cx)(e:Option Expr)(t:TO):Prop where
 h:PO X e t
structure XQ (X:Cx)(ifs:List Expr)(t:TT):Prop where
 h:PTs X ifs t
def ak {X:Cx}{st:List Stmt}{t:TS}{D:Ends}{σ:St}{H:Hp}(h:XB X st t)(q:t D σ H):∃t,PSs X st t/\t D σ H:=⟨t,h.h,q⟩
section
variable {X:Cx}{a b c o e:Expr}{ta tb tc te to:TE}{tA tB':TT}{es:List Expr}{t:TA}{pos p p2 w4 y9:Pos}{x:Str}
def xb0:XB X [] aY:=⟨uN⟩
def xb1 {st:Stmt}{u:TS}(h:XS X st u):XB X [st] u:=⟨uO h.h⟩
def xbc {st:Stmt}{sts:List Stmt}{u v:TS}(h:XS X st u)(r:XB X sts v):XB X (st::sts) (tSeq u v):=⟨rp h.h r.h⟩
def xret (h:XE X e te):XS X (.Return (some e) pos) (tRet te):=⟨wZ h.h⟩
def xif {f g:List Stmt}{tf tg:TS}(h:XT X c tA)(h1:XB X f tf)(h2:XB X g tg):XS X (.If c f g pos) (tIfS tA tf tg):=⟨yU h.h h1.h h2.h⟩
def xJ {st:Stmt}:XS X st tR:=⟨rq⟩
def bo (h:XE X e te)(hs:swapsWith e none pos.line X.env=pure false:=by rfl):XS X (.Expr e pos) (tDrop te):=⟨uP h.h hs⟩
def xset {i:Nat}{pos':Pos}(hN:X.N.Nodup)(hi:X.N[i]? = some x)(hx:Loc X.env.scope x)(he:XE X e te)(hs:swapsWith e (some (.Name x pos')) pos.line X.env=pure false:=by rfl) (hf:X.fn x=true ∨ X.env.scope.names.lookup x=some .local:=by first |exact .inl rfl |exact .inr rfl):
  XS X (.Assign [.Name x pos'] e pos) (tAsg te (al i)):=⟨xo hN hi hx he.h hs hf⟩
def xgn {i:Nat}(hN:X.N.Nodup)(hi:X.N[i]? = some x)(hx:Loc X.env.scope x)(hf:X.fn x=true ∨ X.env.scope.names.lookup x=some .local:=by first |exact .inl rfl |exact .inr rfl):XG X (.Name x pos) (al i):=⟨uQ hN hi hx hf⟩
def xst {i:Nat}{pos':Pos}(hN:X.N.Nodup)(he:XE X e te)(hi:X.N[i]? = some x:=by rfl) (hx:Loc X.env.scope x:=by exact Or.inl rfl) (hs:swapsWith e (some (.Name x pos')) pos.line X.env=pure false:=by rfl) (hf:X.fn x=true ∨ X.env.scope.names.lookup x=some .local:=by first |exact .inl rfl |exact .inr rfl):XS X (.Assign [.Name x pos'] e pos) (tAsg te (al i)):=xset hN hi hx he hs hf
def xgm {i:Nat}(hN:X.N.Nodup)(hi:X.N[i]? = some x:=by rfl) (hx:Loc X.env.scope x:=by exact Or.inl rfl) (hf:X.fn x=true ∨ X.env.scope.names.lookup x=some .local:=by first |exact .inl rfl |exact .inr rfl):XG X (.Name x pos) (al i):=xgn hN hi hx hf
def xgs0:XGs X [] gNil:=⟨uR⟩
def xgsc {tg:TG}{tgs:TGs}(h1:XG X e tg)(h2:XGs X es tgs)(hs:(assignEach (e::es) X.env).map (·.2)=assign e X.env::(assignEach es X.env).map (·.2):=by rfl):XGs X (e::es) (gCons tg tgs):=⟨rz h1.h h2.h hs⟩
def xgt {k n:Nat}{tgs:TGs}(hc:X.calm=true)(h:XGs X es tgs)(hn:(assignEach es X.env).length=n:=by rfl) (hst:(assignEach es X.env).findIdx? (·.1)=none:=by rfl):XG X (.Tuple es k pos) (gTup X.K n tgs):=⟨tT hc h.h hn hst⟩
def xasg {tg:Expr}{g:TG}(he:XE X e te)(hg:XG X tg g)(hs:swapsWithSole [tg] e pos.line X.env=pure false:=by rfl) (hw:swappedStores [tg] e X.env=pure none:=by rfl)
  (h1:(assignEach [tg] X.env).map (·.2)=[assign tg X.env]:=by rfl):XS X (.Assign [tg] e pos) (tAsg te g):=⟨xn he.h hg.h hs hw h1⟩
def xfor {tg it:Expr}{body:List Stmt}{wi:TI}{g:TG}{tb:TS}(hp:PassesOwn (model X.prog X.w) X.A X.env X.xe)(hc:X.calm=true)(hi:XI X tg it wi)(hg:XG X tg g)(hb:XB X body tb)
  (hs:∀x,foldedSetIterable it X.env x=pure x:=by intro _;rfl):XS X (.For tg it body [] pos) (tFor wi g tb):=⟨xr hp hc hi.h hg.h hb.h hs⟩
def ve {i:Expr}{ti:TE}{t:TSet}(ho:XE X o to)(hi:XE X i ti)(hs:PSet X t)
  (ha : ∀ v, assign (.Subscript o i pos) X.env v = (do
   let ov ← holding [v] (eval o X.env)
   let iv ← holding [v,ov] (eval i X.env)
   standAt pos
   holding [v,ov,iv] (setItem ov iv v)
   release [v,ov,iv] []):=by intro _;rfl):XG X (.Subscript o i pos) (gSub to ti t):=⟨xj ho.h hi.h hs ha⟩
def xir1 {tg:Expr}(hg:Gl X "range")(hm:X.mg "range"=none)(ha:XA X [a] t)(h:bY a=false:=by rfl):XI X tg (.Call (.Name "range" p) [a] [] pos) (iRng1 t):=⟨oI hg hm ha.h (aK h)⟩
def xil {tg l:Expr}{tl:TE}(h:XE X l tl):XI X tg l (iList X.K tl):=⟨uS h.h⟩
def xis {l:Expr}{tl:TE}{px:Pos}(h:XE X l tl):XI X (.Name x px) l (iStr tl):=⟨xI h.h⟩
def aA {op:CmpOp}{r:R2}(ho:OpR X (compareOp op) r)(ha:XE X a ta)(hb:XE X b tb)(hm:behindInMarks op b=false):XT X (.Compare a [op] [b] pos) (tTest (tOp r ta tb)):=⟨uV ho ha.h hb.h hm⟩
def dY (h:XT X a tA):XT X (.UnaryOp .Not a pos) (tNot tA):=⟨wW h.h⟩
def bq (h:XE X e te)(he:∀whole,isTrue e X.env whole=(do let v ← whole;standAt e.pos;holding [v] (truthy v)):=by intro _;rfl):XT X e (tB te):=⟨wT h.h he⟩
def ie (h:XT X a tA):XW X (.BoolOp .And [a] pos) tA:=⟨uM h.h⟩
def xor1 (h:XT X a tA):XW X (.BoolOp .Or [a] pos) tA:=⟨wU h.h⟩
def xand {rest:List Expr}(h:XT X a tA)(h2:XW X (.BoolOp .And (b::rest) pos) tB'):XW X (.BoolOp .And (a::b::rest) pos) (tAnd tA tB'):=⟨wV h.h h2.h⟩
def xor {rest:List Expr}(h:XT X a tA)(h2:XW X (.BoolOp .Or (b::rest) pos) tB'):XW X (.BoolOp .Or (a::b::rest) pos) (tOr tA tB'):=⟨yS h.h h2.h⟩
def XW.xt (h:XW X e tA):XT X e tA:=⟨h.h.pt⟩
def xnon {j:Nat}:XE X (.Constant .none j pos) (tC .non):=⟨wR⟩
def xbl {k:Bool}{j:Nat}:XE X (.Constant (.bool k) j pos) (tC (.bl k)):=⟨yR⟩
def xint {i:Int}{j:Nat}:XE X (.Constant (.int i) j pos) (tC (.int i)):=⟨wQ⟩
def xstr {y:Str}{j:Nat}:XE X (.Constant (.str y) j pos) (tC (.str y)):=⟨wS⟩
def xv (i:Nat)(hN:X.N[i]? = some x:=by rfl) (hv:Vis X.env.scope x:=by first |exact Or.inl rfl |exact Or.inr (Or.inl rfl) |exact Or.inr (Or.inr rfl)) (hd:(x==("__debug__":Str))=false:=by decide)
  (hcd:(x==("__classdict__":Str))=false:=by decide):XE X (.Name x pos) (tVar i):=⟨pv i hN hv hd hcd⟩
def xgS {y:Str}(h:∃t,X.mg x=some (.str y t))(hg:Gl X x:=by exact rfl) (hd:(x==("__debug__":Str))=false:=by decide):XE X (.Name x pos) (tC (.str y)):=⟨rW h hg hd⟩
def xgI {y:Int}(h:∃t,X.mg x=some (.int y t))(hg:Gl X x:=by exact rfl) (hd:(x==("__debug__":Str))=false:=by decide):XE X (.Name x pos) (tC (.int y)):=⟨rX h hg hd⟩
def xty {T:String}(hm:X.mg x=none)(hv:bootBuiltins x=some (.type T))(hg:Gl X x:=by exact rfl) (hn:x≠"__name__":=by decide) (hd:(x==("__debug__":Str))=false:=by decide):XE X (.Name x pos) (tC (.ty T)):=⟨uL hg hm hv rfl hn hd⟩
def xop {op:Operator}{r:R2}(ho:OpR X (binaryOp op) r)(ha:XE X a ta)(hb:XE X b tb):XE X (.BinOp a op b pos) (tOp r ta tb):=⟨yV ho ha.h hb.h⟩
def xun {op:UnaryOp}{r:V->Hp->VK->Prop}(ho:UnR X (unaryOp op) r)(ha:XE X a ta):XE X (.UnaryOp op a pos) (tUn r ta):=⟨yW ho ha.h⟩
def xcmp {op:CmpOp}{r:R2}(ho:OpR X (compareOp op) r)(ha:XE X a ta)(hb:XE X b tb)(hm:behindInMarks op b=false):XE X (.Compare a [op] [b] pos) (tOp r ta tb):=⟨uU ho ha.h hb.h hm⟩
def xone {op}(h:XE X a ta):XE X (.BoolOp op [a] pos) ta:=⟨wX h.h⟩
def o8 {rest:List Expr}(h:XE X a ta)(h2:XE X (.BoolOp .And (b::rest) pos) tb):XE X (.BoolOp .And (a::b::rest) pos) (tAndV ta tb):=⟨wY h.h h2.h⟩
def xorV {rest:List Expr}(h:XE X a ta)(h2:XE X (.BoolOp .Or (b::rest) pos) tb):XE X (.BoolOp .Or (a::b::rest) pos) (tOrV ta tb):=⟨yT h.h h2.h⟩
def xifE (h:XT X c tA)(ha:XE X a ta)(hb:XE X b tb):XE X (.IfExp c a b pos) (tIf tA ta tb):=⟨rn h.h ha.h hb.h⟩
def xo0:XO X none iT:=⟨u7⟩
def xo1 (h:XE X e te):XO X (some e) (tPart te):=⟨u8 h.h⟩
def xsl {r:V->Option Int->Option Int->Hp->VK->Prop}{lo hi:Option Expr}{tl th:TO}(hr:SlR X r)(he:XE X e te)(hl:XO X lo tl)(hu:XO X hi th):XE X (.Subscript e (.Slice lo hi none p2) pos) (tSl r te tl th):=⟨rG hr he.h hl.h hu.h⟩
def xix {r:R2}(hr:IxR X r)(ha:XE X a ta)(hb:XE X b tb)(hs:oV b):XE X (.Subscript a b pos) (tOp r ta tb):=⟨zk hr ha.h hb.h hs⟩
def xa0:XA X [] tNil:=⟨xy⟩
def xac (ha:XE X e te)(hr:XA X es t)(h:bY e=false:=by rfl):XA X (e::es) (tCons te t):=⟨pa ha.h hr.h h⟩
def xlst (h:XA X es t):XE X (.List es pos) (tLst t):=⟨xA h.h⟩
def xtup {k}(h:XA X es t):XE X (.Tuple es k pos) (tTup t):=⟨xz h.h⟩
def xcD {k:Nat}{ps:List Str}{sp:Sp}(D:Def X.prog X.w X.K X.mg X.base k x ps sp)(hr:Room k X.A)(ha:XA X (e::es) t)(hg:Gl X x:=by exact rfl) (hdb:(x==("__debug__":Str))=false:=by decide) (hst:aC (e::es)=true:=by rfl):
  XE X (.Call (.Name x p) (e::es) [] pos) (tCall sp [] E0 t):=⟨cD D hr ha.h hg hdb hst⟩
def xcd {j k:Nat}{ps:List Str}{sp:Sp}(D:Def X.prog X.w X.K X.mg X.base k x ps sp)(hr:Room j X.A)(ha:XA X (e::es) t)(hg:Gl X x:=by exact rfl) (hdb:(x==("__debug__":Str))=false:=by decide) (hst:aC (e::es)=true:=by rfl) (hk:k<=j:=by omega):
  XE X (.Call (.Name x p) (e::es) [] pos) (tCall sp [] E0 t):=xcD D (hr.mono hk) ha hg hdb hst
def xcB {id:String}{r:List V->Hp->VK->Prop}(hc:dl X (.builtin id) r)(hm:X.mg x=none)(hv:bootBuiltins x=some (.builtin id))(ha:XA X (e::es) t)(hg:Gl X x:=by exact rfl) (hn:x≠"__name__":=by decide) (hdb:(x==("__debug__":Str))=false:=by decide)
  (hst:aC (e::es)=true:=by rfl):XE X (.Call (.Name x p) (e::es) [] pos) (tCB r t):=⟨cB hc hg hm hv ha.h hn hdb hst⟩
def xcTy {T:String}{r:List V->Hp->VK->Prop}(hc:dl X (.type T) r)(hm:X.mg x=none)(hv:bootBuiltins x=some (.type T))(ha:XA X (e::es) t)(hg:Gl X x:=by exact rfl) (hn:x≠"__name__":=by decide) (hdb:(x==("__debug__":Str))=false:=by decide)
  (hst:aC (e::es)=true:=by rfl):XE X (.Call (.Name x p) (e::es) [] pos) (tCB r t):=by
 have h1:bY e=false:=by
  have:=hst;unfold aC at this;rw[Bool.and_eq_true,Bool.not_eq_true'] at this;exact this.1
 have h2:aC es=true:=by
  have:=hst;unfold aC at this;rw[Bool.and_eq_true] at this;exact this.2
 exact⟨oT hc hg hm hv ha.h hn hdb (aK h1) (bE h2)⟩
def xm {name:Str}{T id:String}{r:V->List V->Hp->VK->Prop}(pa:PlainAttrs T)(slot:Slot T name id)(hty:typeOf (.builtin id)=pure (.type "method_descriptor"))(hm:MtR X id r)(ho:XE X o to)(ha:XA X (e::es) t)
  (hb:cH o=true:=by rfl) (hst:aC (e::es)=true:=by rfl) (hl:decide ((e::es).length+([]:List Keyword).length+(if ([]:List Keyword).isEmpty then 0 else 1) < 30)=true:=by rfl)
  (v8:(w4.endLine==y9.line)=true:=by rfl):XE X (.Call (.Attribute o name w4) (e::es) [] y9) (tBM X.K T r to t):=⟨pm pa slot hty hm ho.h ha.h (base_of hb) hst hl v8⟩
def xmA (ho:XE X o to)(ha:XA X (e::es) t)(hb:cH o=true:=by rfl) (hst:aC (e::es)=true:=by rfl) (hl:decide ((e::es).length+([]:List Keyword).length+(if ([]:List Keyword).isEmpty then 0 else 1) < 30)=true:=by rfl) (v8:(w4.endLine==y9.line)=true:=by rfl):XE X (.Call (.Attribute o "append" w4) (e::es) [] y9) (tBM X.K "list" rAppend to t):=xm plainAttrs_list PySem.F.slot_list_append PySem.F.type_list_append jP ho ha hb hst hl v8
def xm0 {name:Str}{T id:String}{r:V->List V->Hp->VK->Prop}(pa:PlainAttrs T)(slot:Slot T name id)(hty:typeOf (.builtin id)=pure (.type "method_descriptor"))(hm:MtR X id r)(ho:XE X o to)
  (hb:cH o=true:=by rfl) (v8:(w4.endLine==y9.line)=true:=by rfl):XE X (.Call (.Attribute o name w4) [] [] y9) (tBM0 X.K T r to):=⟨xH pa slot hty hm ho.h (base_of hb) v8⟩
def o9 {y z:Str}{jy jz:Nat}{py pz:Pos}(ho:XE X o to)(hyz:(y==z)=false)(hzl:z.length<=14)(hb:cH o=true:=by rfl) (v8:(w4.endLine==y9.line)=true:=by rfl):
  XE X (.Call (.Attribute o "replace" w4) [.Constant (.str y) jy py, .Constant (.str z) jz pz] [] y9) (λσ H Q=>to σ H λx H1=>∃w,x = .str w/\w.length<=1000000/\Q (.str (Txt.replace w y z)) H1):=⟨nR ho.h hyz hzl (base_of hb) v8⟩
def xq0:XQ X [] tYes:=⟨va⟩
def xq1 (h:XT X c tA):XQ X [c] tA:=⟨vb h.h⟩
section
variable {scope:Scope}{cl:List (Str×Addr)}{own:List Str}{fr:List Nat}{N':List Str}{tg iter elt:Expr}{ifs:List Expr}{wi:TI}{g:TG}{tt:TT}
def xlc (hc:X.calm=true)(Z:CompN X scope cl own fr N')(w5:∀y∈scope.names,y.2 ≠ .cell)(v9:∀x∈scope.names,x.2 = .local->scope.names.lookup x.1=some .local)(j9:closureFor scope X.env=pure cl)
  (hi:XI X tg iter wi)(hg:∀C fp s H,XG (aU X scope cl C N' fp s H) tg g)(ht:∀C fp s H,XQ (aU X scope cl C N' fp s H) ifs tt)(he:∀C fp s H,XE (aU X scope cl C N' fp s H) elt te)
  (hs:∀x,foldedSetIterable iter X.env x=pure x:=by intro _;rfl):XE X (.ListComp elt [⟨tg,iter,ifs,0⟩] scope pos) (tLC wi own.length fr g tt te):=
 ⟨zm hc Z w5 v9 j9 hi.h (λC fp s H=>(hg C fp s H).h) (λC fp s H=>(ht C fp s H).h) (λC fp s H=>(he C fp s H).h) hs⟩
def xslc {i:Nat}{pos' spos:Pos}(hN:X.N.Nodup)(hix:X.N[i]? = some x)(hx:X.env.scope.names.lookup x=some .local)(hc:X.calm=true)(Z:CompN X scope cl own fr N')(w5:∀y∈scope.names,y.2 ≠ .cell)
  (v9:∀x∈scope.names,x.2 = .local->scope.names.lookup x.1=some .local)(j9:closureFor scope X.env=pure cl)
  (hi:XI X tg iter wi)(hg:∀C fp s H,XG (aU X scope cl C N' fp s H) tg g)(ht:∀C fp s H,XQ (aU X scope cl C N' fp s H) ifs tt)(he:∀C fp s H,XE (aU X scope cl C N' fp s H) elt te)
  (hs:∀x,foldedSetIterable iter X.env x=pure x:=by intro _;rfl) (hsw:swapsWith (.ListComp elt [⟨tg,iter,ifs,0⟩] scope pos) (some (.Name x pos')) spos.line X.env=pure true:=by rfl):
  XS X (.Assign [.Name x pos'] (.ListComp elt [⟨tg,iter,ifs,0⟩] scope pos) spos) (oY i wi own.length fr g tt te):=
 ⟨rN hN hix hx hc Z w5 v9 j9 hi.h (λC fp s H=>(hg C fp s H).h) (λC fp s H=>(ht C fp s H).h) (λC fp s H=>(he C fp s H).h) hs hsw⟩
def xlc0 (hi:XI X tg iter wi)(hg:∀C fp s H,XG (aU X scope [] C own fp s H) tg g)(ht:∀C fp s H,XQ (aU X scope [] C own fp s H) ifs tt)(he:∀C fp s H,XE (aU X scope [] C own fp s H) elt te)(hs:∀x,foldedSetIterable iter X.env x=pure x:=by intro _;rfl) (hc:X.calm=true:=by rfl) (Z:CompN X scope [] own [] own:=by exact eZ (xs:=[]) trivial trivial ∅) (w5:∀y∈scope.names,y.2 ≠ .cell:=by decide) (v9:∀x∈scope.names,x.2 = .local->scope.names.lookup x.1=some .local:=by decide) (j9:closureFor scope X.env=pure []:=by with_unfolding_all rfl):XE X (.ListComp elt [⟨tg,iter,ifs,0⟩] scope pos) (tLC wi own.length [] g tt te):=xlc hc Z w5 v9 j9 hi hg ht he hs
def pb {i:Nat}{pos' spos:Pos}(hN:X.N.Nodup)(hi:XI X tg iter wi)(hg:∀C fp s H,XG (aU X scope [] C own fp s H) tg g)(ht:∀C fp s H,XQ (aU X scope [] C own fp s H) ifs tt)(he:∀C fp s H,XE (aU X scope [] C own fp s H) elt te)(hs:∀x,foldedSetIterable iter X.env x=pure x:=by intro _;rfl) (hc:X.calm=true:=by rfl) (Z:CompN X scope [] own [] own:=by exact eZ (xs:=[]) trivial trivial ∅) (w5:∀y∈scope.names,y.2 ≠ .cell:=by decide) (v9:∀x∈scope.names,x.2 = .local->scope.names.lookup x.1=some .local:=by decide) (j9:closureFor scope X.env=pure []:=by with_unfolding_all rfl) (hix:X.N[i]? = some x:=by rfl) (hx:X.env.scope.names.lookup x=some .local:=by rfl) (hsw:swapsWith (.ListComp elt [⟨tg,iter,ifs,0⟩] scope pos) (some (.Name x pos')) spos.line X.env=pure true:=by rfl):XS X (.Assign [.Name x pos'] (.ListComp elt [⟨tg,iter,ifs,0⟩] scope pos) spos) (oY i wi own.length [] g tt te):=xslc hN hix hx hc Z w5 v9 j9 hi hg ht he hs hsw
end
end
section
variable {X:Cx}{w9:List (Addr×Obj)}{σ:St}{H:Hp}{s:Shared}{h':Heap}
def Inv.turned2 {t':Nat}{e it T:Addr}{o:HO}(I:Inv X w9 σ H s)(k:∀b ob,b≠e->b≠it->s.heap.get? b=some ob->h'.get? b=some ob)(fe:FpOk X w9 H e)(fi:FpOk X w9 H it)(hT:s.heap.objs.size<=T)
  (new:ObjOk X.prog X.w (upd H T o) h' T o)(ht:0 < t'):Inv X w9 σ (upd H T o) { s with heap:=h',toks:=t' }:=by
 have hn:H T=none:=I.hok.fresh hT;have ne1:∀b u,H b=some u->b≠e:=λb u q z=>by rw[z,fe.1] at q;cases q
 have ne2:∀b u,H b=some u->b≠it:=λb u q z=>by rw[z,fi.1] at q;cases q
 have kk:∀b ob,b∉[e,it]->s.heap.get? b=some ob->h'.get? b=some ob:=λb ob hb q=>k b ob (λz=>hb (by simp[z])) (λz=>hb (by simp[z])) q;refine I.step (g':=s.gens) (d':=s.drawn) (ch:=[e,it]) (λb hb=>?_) (λb ob _ _ hc q _=>kk b ob hc q) (λb ob _ _ hc q _=>⟨ob.slots,kk b ob hc q⟩) (λb ob _ q n=>?_)
  (λb ob hc q=>⟨ob,kk b ob hc q⟩) (λb xs q=>?_) (λb ob u q=>?_) (λb ps q=>⟨#[],?_⟩) (λm hm=>?_) (λb u q=>?_) I.bare
 ·rcases l8.mp hb with rfl |hb
  ·exact⟨fe.2.2.2.1,fe.2.1,fe.2.2.2.2.1,fe.2.2.2.2.2⟩
  ·have z:b=it:=by simpa using hb
   subst z;exact⟨fi.2.2.2.1,fi.2.1,fi.2.2.2.2.1,fi.2.2.2.2.2⟩
 ·rw[ad (l26 (l19 (Heap.lt_size q) hT))];exact n
 ·rw[ad (aB q hn)];exact q
 ·rw[ad (aB q hn)];exact q
 ·rw[ad (aB q hn),q];simp
 ·obtain⟨ob,es,ep,ho,r⟩:=hm;exact⟨ob,es,ep,k _ ob (Ne.symm fe.2.1) (Ne.symm fi.2.1) ho,r⟩
 ·by_cases hb:b=T
  ·subst hb;rw[aa] at q;cases q;exact new
  ·rw[ad hb] at q;refine(I.hok b u q).stay (λc v hc q2=>?_) (λc q2=>by rw[ad (aB q2 hn)];exact q2) λc xs q2=>by rw[ad (aB q2 hn)];exact q2
   rcases hc with z |z
   ·subst z;exact k _ v (ne1 _ u q) (ne2 _ u q) q2
   ·exact k c v (ne1 c _ z) (ne2 c _ z) q2
def Ite (K:Frag)(a:Addr):It:=
 ⟨λi H=>∃xs x,SqL K H a xs/\xs[i]? = some x,λi H x H'=>∃T y,(∀xs,SqL K H a xs->xs[i]? = some y)/\H T=none/\x = .ref T/\H'=upd H T (.tup [.int i,y]),λi H=>∃xs,SqL K H a xs/\xs.length<=i⟩
def pc {P:Program}{w:World}{K:Frag}{elts:List Expr}{k:Nat}{pos:Pos}(a e it:Addr)(hne:e≠it):
  Turn P w K (.Tuple elts k pos) (Ite K a) [e,it] e (λi h=>(∃old,IsEnum h e it i old)/\h.IsListIter it a i) where
 mem:=by simp
 obj:=λi h st b hb=>by
  obtain⟨⟨old,h1⟩,o,h2,h3,h4⟩:=st;rcases l8.mp hb with rfl |hb
  ·exact⟨_,h1,λv z=>by cases z⟩
  ·have z:b=it:=by simpa using hb
   subst z;exact⟨o,h2,λv z=>by rw[h4] at z;cases z⟩
 keep:=λi h h' st kk=>by
  obtain⟨⟨old,h1⟩,o,h2,h3⟩:=st;exact⟨⟨old,kk e (by simp) _ h1⟩,o,kk it (by simp) o h2,h3⟩
 item:=by
  intro X hP hw hK hc i w9 s σ H E I hf st hg;subst hP hw hK;obtain⟨xs,x,hq,hx⟩:=hg;obtain⟨its,rv,p,hz⟩:=I.list hq;obtain⟨u,hu,ru⟩:=rv.get hx;obtain⟨⟨old,h1⟩,h2⟩:=st;have fe:=hf e (by simp);have fi:=hf it (by simp);have hL:=p.isList;have hae:a≠e:=λz=>by
   obtain⟨o,q1,q2,_⟩:=hL;rw[z,h1] at q1;cases q1;exact absurd (Value.type.inj q2) ∅
  have hai:a≠it:=λz=>by
   obtain⟨o,q1,q2,_⟩:=hL;obtain⟨o',q3,q4,_⟩:=h2;rw[z,q3] at q1;cases q1;rw[q4] at q2;exact absurd (Value.type.inj q2) ∅
  refine wpAny_pyNext_enum_item h1 h2 hL (x:=u) (by simpa using hu) hne λh' g1 g2 g3 g4 g5=>⟨_,rfl,?_⟩;have hle:e < s.heap.objs.size:=Heap.lt_size h1;obtain⟨oi,hoi,_⟩:=id h2;have hli:it < s.heap.objs.size:=Heap.lt_size hoi;have hTe:s.heap.objs.size≠e:=l42 hle;have hTi:s.heap.objs.size≠it:=l42 hli;have hL':h'.IsList a its.toArray:=by
   obtain⟨o,q1,q2,q3⟩:=hL;exact⟨o,g5 a o hae hai q1,q2,q3⟩
  refine(WalksT.enumerate (I.ok.hd hc) e it a hne hae hai its.toArray).go elts k pos i s.heap.objs.size _ _ _ ⟨⟨_,g1⟩,g2,hL',hTe,hTi⟩ λh2 st2 kp=>?_;have hT:h2.get? s.heap.objs.size=some { cls := .type "tuple",data := .seq #[.int i s.toks,u] }:=kp _ _ (by simp[hTe,hTi]) g3;refine⟨.ref s.heap.objs.size,upd H s.heap.objs.size (.tup [.int i,x]),?_,rfl,⟨s.heap.objs.size,x,λys hy=>by rw[I.list_inj hy hq];exact hx,I.hok.fresh (l7 _),rfl,rfl⟩,⟨?_,?_⟩,?_⟩
  ·refine I.turned2 (t':=s.toks+1) (λb ob n1 n2 q=>kp b ob (by simp[n1,n2]) (g5 b ob n1 n2 q)) fe fi (l7 _) ?_ (l36 _);refine⟨by show 2<=sizeLine;rw[sizeLine_eq];decide,[.int i s.toks,u], .cons ⟨_,rfl⟩ (.cons ru .nil),?_⟩;exact⟨_,hT,rfl,0,rfl⟩
  ·obtain⟨old2,q⟩:=st2.1;exact⟨old2,by simpa using q⟩
  ·exact st2.2.1
  ·intro b hb;rcases l8.mp hb with rfl |hb
   ·rw[ad (Ne.symm hTe)];exact fe.1
   ·have z:b=it:=by simpa using hb
    subst z;rw[ad (Ne.symm hTi)];exact fi.1
 done:=by
  intro X hP hw hK hc i w9 s σ H E I hf st hg;subst hP hw hK;obtain⟨xs,hq,hx⟩:=hg;obtain⟨its,rv,p,hz⟩:=I.list hq;obtain⟨⟨old,h1⟩,h2⟩:=st;obtain⟨f0,f1,f2,f3,f4,f5⟩:=hf it (by simp);have hl:=rv.length;exact wpAny_pyNext_enum_end (I.ok.hd hc) h1 h2 p.isList (by simp;omega) λh' eb=>⟨rfl,I.turned (t':=s.toks) (λb o hb e=>eb b o hb e) f0 f1 f3 f4 f5⟩
 self:=λ_ _ _ _ _ st h=>by
  obtain⟨⟨old,h1⟩,_⟩:=st;exact wpAny_pyIter_enum h1 h
inductive iEnum.I (K:Frag)(R:(It->Hp->Prop))(vs:List V)(H1:Hp):Prop
 |mk (a xs)(_:vs=[.ref a])(_:H1 a=some (.lst xs))(_:R (Ite K a) H1)
def iEnum (K:Frag)(ta:TA):TI:=λσ H R=>ta σ H (iEnum.I K R)
def vf {l:Expr}{ta:TA}{p pos:Pos}{elts:List Expr}{k:Nat}{pos':Pos}(hg:Gl X "enumerate")(hm:X.mg "enumerate"=none)(ha:PA X [l] ta)(hs:starEach [l] X.env=[(false,eval l X.env)]:=by rfl):
  PI X (.Tuple elts k pos') (.Call (.Name "enumerate" p) [l] [] pos) (iEnum X.K ta):=by
 intro w9 s σ H R I h;refine Call_ (fY I hg hm boot_enumerate (callWith_type1 (thn (ha pos w9 s σ H _ I h) λus s1 ⟨vs,H1,I1,r1,q1⟩=>?_) hs rfl));obtain⟨a,xs,e,hq,q⟩:=q1;subst e;obtain⟨u,rfl,ru⟩:=r1.one;cases ru;obtain⟨z,its,n,r,hl,e⟩:=I1.lstM hq;refine call_enumerate_1 e λh' g1 g2 g3 g4=>?_;have hne:s1.heap.objs.size+1≠s1.heap.objs.size:=by omega
 refine wpAny_pyIter_enum g1 ?_;refine⟨s1.heap.objs.size+1,[s1.heap.objs.size+1,s1.heap.objs.size],_,_,H1,rfl,I1.kept (t':=s1.toks) g4,pc a _ _ hne,⟨⟨_,g1⟩,g2⟩,λb hb=>?_,q⟩;have hb':s1.heap.objs.size<=b:=by
  rcases l8.mp hb with rfl |hb
  ·omega
  ·have z:b=s1.heap.objs.size:=by simpa using hb
   exact Nat.le_of_eq z.symm
 exact I1.fpOk hb' (I1.hok.fresh hb')
end
inductive Flt (H:Hp):V->Value->Prop where
 |int (i:Int):Flt H (.int i) (.type "int")
 |str (x:Str):Flt H (.str x) (.type "str")
 |lst {a:Addr} {xs:List V}:H a=some (.lst xs)->Flt H (.ref a) (.type "list")
theorem gf:∀{Ts:List String} {us:List Value},Vals (Ts.map V.ty) us->us=Ts.map Value.type
 | [],_, .nil=>rfl
 |T::Ts,_, .cons r t=>by
  cases r;rw[gf t];rfl
inductive rIsTs (K:Frag)(xs:List V)(H:Hp)(Q:VK):Prop
 |mk (x:V)(t:Value)(p:Addr)(Ts:List String)(b:Bool)(_:xs=[x, .ref p])(_:Flt H x t)(_:H p=some (.tup (Ts.map V.ty)))(_:kitAny K t (Ts.map Value.type)=some b)(_:Q (.bl b) H)
def pd {X:Cx}:dl X (.builtin "isinstance") (rIsTs X.K):=by
 intro w9 s σ H xs us Q I r h;obtain⟨x,t,p,Ts,b,rfl,ty,hp,e,q⟩:=h;obtain⟨u,v,rfl,rx,rv⟩:=r.two;cases rv;obtain⟨hz,its,rt,o,h1,h2,n,h3⟩:=(show ObjOk X.prog X.w H s.heap p (.tup (Ts.map V.ty)) from I.hok p _ hp);obtain⟨oc,od,oda,osl⟩:=o;cases h2;have h3:oda = .seq its.toArray n:=h3;subst h3;rw[gf rt] at h1;cases ty with
 |int i=>
  obtain⟨t,z⟩:=(show ∃t,u=Value.int i t from rx);cases z;exact wpAny_with_toks (n:=1) I.tk (kia_tup kitx_int I.kIn True.intro h1 e (λz=>nomatch z) λtk htk=>⟨.bl b,H,I.tok _ htk,rfl,q⟩)
 |str y=>
  obtain⟨t,z⟩:=(show ∃t,u=Value.str y t from rx);cases z;exact wpAny_with_toks (n:=1) I.tk (kia_tup kitx_str I.kIn True.intro h1 e (λz=>nomatch z) λtk htk=>⟨.bl b,H,I.tok _ htk,rfl,q⟩)
 | @lst a xs ea=>
  cases (show u=Value.ref a from rx);obtain⟨_,_,n,_,h4⟩:=(show ObjOk X.prog X.w H s.heap a (.lst xs) from I.hok a _ ea);exact wpAny_with_toks (n:=1) I.tk (kia_tup kitx_list I.kIn ⟨_,h4,rfl⟩ h1 e (λz=>nomatch z) λtk htk=>⟨.bl b,H,I.tok _ htk,rfl,q⟩)
section
variable {X:Cx}{e l:Expr}{te:TE}{t:TA}{pos p p1 p2 p3:Pos}
def xie {elts:List Expr}{k:Nat}{pos':Pos}(hm:X.mg "enumerate"=none)(ha:XA X [l] t)(hg:Gl X "enumerate":=by exact rfl) (h:bY l=false:=by rfl):XI X (.Tuple elts k pos') (.Call (.Name "enumerate" p) [l] [] pos) (iEnum X.K t):=⟨vf hg hm ha.h (aK h)⟩
def xgtC {scope:Scope}{cl:List (Str×Addr)}{C:Addr}{N':List Str}{fp:List Addr}{s:Shared}{H:Hp}{es:List Expr}{k n:Nat}{tgs:TGs}(hc:X.calm=true)(h:XGs (aU X scope cl C N' fp s H) es tgs)
  (hn:(assignEach es (aU X scope cl C N' fp s H).env).length=n:=by rfl) (hst:(assignEach es (aU X scope cl C N' fp s H).env).findIdx? (·.1)=none:=by rfl):XG (aU X scope cl C N' fp s H) (.Tuple es k pos) (gTup X.K n tgs):=⟨tT hc h.h hn hst⟩
section
variable {scope:Scope}{cl:List (Str×Addr)}{C:Addr}{N':List Str}{fp:List Addr}{s:Shared}{H:Hp}
def rY:IxR (aU X scope cl C N' fp s H) (rIxL X.K):=aO (X:=aU X scope cl C N' fp s H)
end
end
section
variable {X:Cx}{w9:List (Addr×Obj)}{σ:St}{H:Hp}{s:Shared}{h':Heap}
def Inv.turnedL {t':Nat}{ch:List Addr}{T:Addr}{o:HO}(I:Inv X w9 σ H s)(k:∀b ob,b∉ch->s.heap.get? b=some ob->h'.get? b=some ob)(f:∀b∈ch,FpOk X w9 H b)(hT:s.heap.objs.size<=T)
  (new:ObjOk X.prog X.w (upd H T o) h' T o)(ht:0 < t'):Inv X w9 σ (upd H T o) { s with heap:=h',toks:=t' }:=by
 have hn:H T=none:=I.hok.fresh hT;have ne:∀b u,H b=some u->b∉ch:=λb u q z=>by rw[(f b z).1] at q;cases q
 have nl:X.env.locals∉ch:=λz=>(f _ z).2.1 rfl;refine I.step (g':=s.gens) (d':=s.drawn) (ch:=ch) (λb hb=>⟨(f b hb).2.2.2.1,(f b hb).2.1,(f b hb).2.2.2.2.1,(f b hb).2.2.2.2.2⟩) (λb ob _ _ hc q _=>k b ob hc q) (λb ob _ _ hc q _=>⟨ob.slots,k b ob hc q⟩) (λb ob _ q n=>?_)
  (λb ob hc q=>⟨ob,k b ob hc q⟩) (λb xs q=>?_) (λb ob u q=>?_) (λb ps q=>⟨#[],?_⟩) (λm hm=>?_) (λb u q=>?_) I.bare
 ·rw[ad (l26 (l19 (Heap.lt_size q) hT))];exact n
 ·rw[ad (aB q hn)];exact q
 ·rw[ad (aB q hn)];exact q
 ·rw[ad (aB q hn),q];simp
 ·obtain⟨ob,es,ep,ho,r⟩:=hm;exact⟨ob,es,ep,k _ ob nl ho,r⟩
 ·by_cases hb:b=T
  ·subst hb;rw[aa] at q;cases q;exact new
  ·rw[ad hb] at q;refine(I.hok b u q).stay (λc v hc q2=>?_) (λc q2=>by rw[ad (aB q2 hn)];exact q2) λc xs q2=>by rw[ad (aB q2 hn)];exact q2
   rcases hc with z |z
   ·subst z;exact k _ v (ne _ u q) q2
   ·exact k c v (ne c _ z) q2
def Inv.turnedL0 {t':Nat}{ch:List Addr}(I:Inv X w9 σ H s)(k:∀b ob,b∉ch->s.heap.get? b=some ob->h'.get? b=some ob)(f:∀b∈ch,FpOk X w9 H b)(ht:0 < t'):Inv X w9 σ H { s with heap:=h',toks:=t' }:=by
 have ne:∀b u,H b=some u->b∉ch:=λb u q z=>by rw[(f b z).1] at q;cases q
 have nl:X.env.locals∉ch:=λz=>(f _ z).2.1 rfl;refine I.step (g':=s.gens) (d':=s.drawn) (ch:=ch) (λb hb=>⟨(f b hb).2.2.2.1,(f b hb).2.1,(f b hb).2.2.2.2.1,(f b hb).2.2.2.2.2⟩) (λb ob _ _ hc q _=>k b ob hc q) (λb ob _ _ hc q _=>⟨ob.slots,k b ob hc q⟩) (λ_ _ _ _ n=>n)
  (λb ob hc q=>⟨ob,k b ob hc q⟩) (λ_ _ q=>q) (λ_ _ _ q=>q) (λb ps q=>⟨#[],by rw[q];simp⟩) (λm hm=>?_) (λb u q=>?_) I.bare
 ·obtain⟨ob,es,ep,ho,r⟩:=hm;exact⟨ob,es,ep,k _ ob nl ho,r⟩
 ·refine(I.hok b u q).stay (λc v hc q2=>?_) (λc q2=>q2) λc xs q2=>q2;rcases hc with z |z
  ·subst z;exact k _ v (ne _ u q) q2
  ·exact k c v (ne c _ z) q2
def Itz (K:Frag)(a b:Addr):It:=
 ⟨λi H=>∃xs ys x y,SqL K H a xs/\SqL K H b ys/\xs[i]? = some x/\ys[i]? = some y,λi H x H'=>∃T u v,(∀xs,SqL K H a xs->xs[i]? = some u)/\(∀ys,SqL K H b ys->ys[i]? = some v)/\H T=none/\x = .ref T/\H'=upd H T (.tup [u,v]),
  λi H=>∃xs ys,SqL K H a xs/\SqL K H b ys/\(xs.length<=i ∨ ys.length<=i)⟩
def bZ {h:Heap}{a b:Addr}{its:Array Value}{o:Obj}{T:String}(hL:h.IsList a its)(e:h.get? b=some o)(c:o.cls = .type T)(hT:"list"≠T):a≠b:=λz=>by
 obtain⟨o',q1,q2,_⟩:=hL;rw[z,e] at q1;cases q1;rw[c] at q2;exact hT (Value.type.inj q2).symm
def mG {P:Program}{w:World}{K:Frag}{elts:List Expr}{k:Nat}{pos:Pos}(a b z TI TO i1 i2:Addr)
  (n1:TI≠z)(n2:TO≠z)(n3:i1≠z)(n4:i2≠z)(n5:TI≠TO)(n6:TI≠i1)(n7:TI≠i2)(n8:TO≠i1)(n9:TO≠i2)(n0:i1≠i2):
  Turn P w K (.Tuple elts k pos) (Itz K a b) [z,TI,TO,i1,i2] z (λi h=>IsZip h z TI TO .none/\IsPair h TI (.ref i1) (.ref i2)/\(∃u v,IsPair h TO u v)/\h.IsListIter i1 a i/\h.IsListIter i2 b i) where
 mem:=by simp
 obj:=λi h st c hc=>by
  obtain⟨h1,h2,⟨u,v,h3⟩,⟨o4,h4,h4c,h4d⟩,⟨o5,h5,h5c,h5d⟩⟩:=st;rcases l8.mp hc with rfl |hc
  ·exact⟨_,h1,λv z=>by cases z⟩
  rcases l8.mp hc with rfl |hc
  ·exact⟨_,h2,λv z=>by cases z⟩
  rcases l8.mp hc with rfl |hc
  ·exact⟨_,h3,λv z=>by cases z⟩
  rcases l8.mp hc with rfl |hc
  ·exact⟨o4,h4,λv z=>by rw[h4d] at z;cases z⟩
  ·have e:c=i2:=by simpa using hc
   subst e;exact⟨o5,h5,λv z=>by rw[h5d] at z;cases z⟩
 keep:=λi h h' st kk=>by
  obtain⟨h1,h2,⟨u,v,h3⟩,⟨o4,h4,h4r⟩,⟨o5,h5,h5r⟩⟩:=st;exact⟨kk z (by simp) _ h1,kk TI (by simp) _ h2,⟨u,v,kk TO (by simp) _ h3⟩,⟨o4,kk i1 (by simp) _ h4,h4r⟩,⟨o5,kk i2 (by simp) _ h5,h5r⟩⟩
 item:=by
  intro X hP hw hK hc i w9 s σ H E I hf st hg;subst hP hw hK;obtain⟨xs,ys,x,y,hqx,hqy,hx,hy⟩:=hg;obtain⟨its,rv,p,hz⟩:=I.list hqx;obtain⟨v5,rv2,p2,hz2⟩:=I.list hqy;obtain⟨u,hu,ru⟩:=rv.get hx;obtain⟨v,hv,rw'⟩:=rv2.get hy;obtain⟨h1,h2,⟨u0,v0,h3⟩,h4,h5⟩:=st;obtain⟨o4,g4,c4,_⟩:=id h4;obtain⟨o5,g5,c5,_⟩:=id h5;have hL:=p.isList;have hL2:=p2.isList;have az:=bZ hL h1 rfl ∅;have aTO:=bZ hL h3 rfl ∅;have ai1:=bZ hL g4 c4 ∅;have ai2:=bZ hL g5 c5 ∅;have bz:=bZ hL2 h1 rfl ∅;have bTO:=bZ hL2 h3 rfl ∅;have bi1:=bZ hL2 g4 c4 ∅;have bi2:=bZ hL2 g5 c5 ∅;have ap:ZipApart z TI TO i1 i2 a b:=⟨n1,n2,n3,n4,n5,n6,n7,n8,n9,n0,az,aTO,ai1,ai2,bz,bTO,bi1,bi2⟩;refine wpAny_pyNext_zip_item ap h1 h2 h3 h4 h5 hL hL2 (x:=u) (y:=v) (by simpa using hu) (by simpa using hv) λh' k1 k2 k3 k4 k5 k6 k7=>⟨_,rfl,?_⟩;have hlz:z < s.heap.objs.size:=Heap.lt_size h1;have hlTO:TO < s.heap.objs.size:=Heap.lt_size h3;have hlTI:TI < s.heap.objs.size:=Heap.lt_size h2;have hl1:i1 < s.heap.objs.size:=Heap.lt_size g4;have hl2:i2 < s.heap.objs.size:=Heap.lt_size g5;refine wpAny_letOwnedTupleGo_zip k1 λh2' q1 sb=>?_;have keep:∀c o,c≠z->h'.get? c=some o->h2'.get? c=some o:=λc o hc e=>(sb.2 c hc).trans e;refine⟨.ref s.heap.objs.size,upd H s.heap.objs.size (.tup [x,y]),?_,rfl,⟨s.heap.objs.size,x,y,λys' hy'=>by rw[I.list_inj hy' hqx];exact hx,λys' hy'=>by rw[I.list_inj hy' hqy];exact hy,I.hok.fresh (l7 _),rfl,rfl⟩,⟨q1,?_,⟨u,v,keep _ _ n2 k2⟩,?_,?_⟩,?_⟩
  ·refine I.turnedL (t':=s.toks) (ch:=[z,TI,TO,i1,i2]) (λc ob hc q=>?_) hf (l7 _) ?_ I.tk
   ·simp only[l8,l39,or_false,not_or] at hc;exact keep _ _ hc.1 (k7 c ob hc.1 hc.2.2.1 hc.2.2.2.1 hc.2.2.2.2 q)
   ·refine⟨by show 2<=sizeLine;rw[sizeLine_eq];decide,[u,v], .cons ru (.cons rw' .nil),?_⟩;exact⟨_,keep _ _ (l42 hlz) k5,rfl,0,rfl⟩
  ·exact keep _ _ n1 (k7 TI _ n1 n5 n6 n7 h2)
  ·obtain⟨o,e,r⟩:=k3;exact⟨o,keep _ _ n3 e,r⟩
  ·obtain⟨o,e,r⟩:=k4;exact⟨o,keep _ _ n4 e,r⟩
  ·intro c hc;have hlt:c < s.heap.objs.size:=by
    rcases l8.mp hc with rfl |hc
    ·exact hlz
    rcases l8.mp hc with rfl |hc
    ·exact hlTI
    rcases l8.mp hc with rfl |hc
    ·exact hlTO
    rcases l8.mp hc with rfl |hc
    ·exact hl1
    ·have e:c=i2:=by simpa using hc
     subst e;exact hl2
   rw[ad (l26 hlt)];exact(hf c hc).1
 done:=by
  intro X hP hw hK hc i w9 s σ H E I hf st hg;subst hP hw hK;obtain⟨xs,ys,hqx,hqy,hx⟩:=hg;obtain⟨its,rv,p,hz⟩:=I.list hqx;obtain⟨v5,rv2,p2,hz2⟩:=I.list hqy;obtain⟨h1,h2,⟨u0,v0,h3⟩,h4,h5⟩:=st;obtain⟨o4,g4,c4,_⟩:=id h4;obtain⟨o5,g5,c5,_⟩:=id h5;have hL:=p.isList;have hL2:=p2.isList;have ap:ZipApart z TI TO i1 i2 a b:=⟨n1,n2,n3,n4,n5,n6,n7,n8,n9,n0,bZ hL h1 rfl ∅,bZ hL h3 rfl ∅,bZ hL g4 c4 ∅,bZ hL g5 c5 ∅,bZ hL2 h1 rfl ∅,bZ hL2 h3 rfl ∅,bZ hL2 g4 c4 ∅,bZ hL2 g5 c5 ∅⟩;have e1:=rv.length;have e2:=rv2.length;refine wpAny_pyNext_zip_end (I.ok.hd hc) ap h1 h2 h3 h4 h5 hL hL2 ?_ λh' kp=>⟨rfl,I.turnedL0 (t':=s.toks) (ch:=[z,TI,TO,i1,i2]) (λc ob hc q=>?_) hf I.tk⟩
  ·rcases hx with hx |hx
   ·exact .inl (by simp;omega)
   ·exact .inr (by simp;omega)
  ·simp only[l8,l39,or_false,not_or] at hc;exact kp c ob hc.1 hc.2.2.1 hc.2.2.2.1 hc.2.2.2.2 q
 self:=λ_ _ _ _ _ st h=>wpAny_pyIter_zip st.1 h
inductive iZip.I (K:Frag)(R:(It->Hp->Prop))(vs:List V)(H1:Hp):Prop
 |mk (a b)(_:vs=[.ref a, .ref b])(_:∃xs,SqL K H1 a xs)(_:∃ys,SqL K H1 b ys)(_:R (Itz K a b) H1)
def iZip (K:Frag)(ta:TA):TI:=λσ H R=>ta σ H (iZip.I K R)
def xK {l l2:Expr}{ta:TA}{p pos:Pos}{elts:List Expr}{k:Nat}{pos':Pos}(hg:Gl X "zip")(hm:X.mg "zip"=none)(ha:PA X [l,l2] ta)(hs:starEach [l,l2] X.env=(false,eval l X.env)::starEach [l2] X.env)(hs2:(backTo pos (starEach [l2] X.env)).any (·.1)=false):
  PI X (.Tuple elts k pos') (.Call (.Name "zip" p) [l,l2] [] pos) (iZip X.K ta):=by
 intro w9 s σ H R I h;refine Call_ (fY I hg hm boot_zip (callWith_type1 (thn (ha pos w9 s σ H _ I h) λus s1 ⟨vs,H1,I1,r1,q1⟩=>?_) hs hs2));obtain⟨a,b,e,⟨xs,hqa⟩,⟨ys,hqb⟩,q⟩:=q1;subst e;obtain⟨u,v,rfl,ru,rv⟩:=r1.two;cases ru;cases rv;obtain⟨its,_,pl,_⟩:=I1.list hqa;obtain⟨v5,_,pl2,_⟩:=I1.list hqb;refine call_zip_2 pl.isList pl2.isList λh' g1 g2 g3 g4 g5 g6 g7=>?_;refine wpAny_pyIter_zip g1 ?_;refine ⟨s1.heap.objs.size+4,[s1.heap.objs.size+4,s1.heap.objs.size+2,s1.heap.objs.size+3,s1.heap.objs.size,s1.heap.objs.size+1],_,_,H1,rfl,I1.kept (t':=s1.toks) g7,
  mG a b _ (s1.heap.objs.size+2) (s1.heap.objs.size+3) s1.heap.objs.size (s1.heap.objs.size+1) (show (s1.heap.objs.size+2:Nat)≠s1.heap.objs.size+4 by omega) (show (s1.heap.objs.size+3:Nat)≠s1.heap.objs.size+4 by omega) (show (s1.heap.objs.size:Nat)≠s1.heap.objs.size+4 by omega) (show (s1.heap.objs.size+1:Nat)≠s1.heap.objs.size+4 by omega) (show (s1.heap.objs.size+2:Nat)≠s1.heap.objs.size+3 by omega) (show (s1.heap.objs.size+2:Nat)≠s1.heap.objs.size by omega) (show (s1.heap.objs.size+2:Nat)≠s1.heap.objs.size+1 by omega) (show (s1.heap.objs.size+3:Nat)≠s1.heap.objs.size by omega) (show (s1.heap.objs.size+3:Nat)≠s1.heap.objs.size+1 by omega) (show (s1.heap.objs.size:Nat)≠s1.heap.objs.size+1 by omega),⟨g1,g2,⟨_,_,g3⟩,g4,g5⟩,λc hc=>?_,q⟩
 have hb':s1.heap.objs.size<=c:=by
  rcases l8.mp hc with rfl |hc
  ·exact l66 _ _
  rcases l8.mp hc with rfl |hc
  ·exact l66 _ _
  rcases l8.mp hc with rfl |hc
  ·exact l66 _ _
  rcases l8.mp hc with rfl |hc
  ·exact l7 _
  ·rw[show c=s1.heap.objs.size+1 by simpa using hc];exact l66 _ _
 exact I1.fpOk hb' (I1.hok.fresh hb')
def xiz {l l2:Expr}{t:TA}{p pos:Pos}{elts:List Expr}{k:Nat}{pos':Pos}(hm:X.mg "zip"=none)(ha:XA X [l,l2] t)(hg:Gl X "zip":=by exact rfl) (h:bY l=false:=by rfl) (h2:bY l2=false:=by rfl):XI X (.Tuple elts k pos') (.Call (.Name "zip" p) [l,l2] [] pos) (iZip X.K t):=
 ⟨xK hg hm ha.h (aK h) (by rw[aK h2];rfl)⟩
end
structure OwnX (K:Frag)(C:Addr):Prop where
 ex:∃(bmB:List Value) (newId initId B:String),excIn K C bmB newId=true/\ExcBaseFacts B newId initId bmB
open PySem PySem.Spec PySem.Calls PyProof.Rows PySem.W PySem.Builtin PySem.Builtin.Str PySem.Builtin.ObjectAttr PySem.Builtin.Getset_descriptor
section
variable {X:Cx}{x:Str}{pos p:Pos}
def xgC {C:Addr}(hm:X.mg x=some (.ref C))(hg:Gl X x:=by exact rfl) (hd:(x==("__debug__":Str))=false:=by decide):XE X (.Name x pos) (tC (.ref C)):=⟨lu hg hm rfl hd⟩
end
open PySem PySem.Spec PyProof.Rows
structure CloScope (N ps fr:List Str)(sc:Scope):Prop where
 kind:sc.kind = .function
 co:sc.isCoroutine=false
 gen:sc.isGenerator=false
 nd:N.Nodup
 pre:N.take (ps.length+fr.length)=ps++fr
 par:∀x∈ps,sc.names.lookup x=some .local
 nocell:∀y∈sc.names,y.2 ≠ .cell
structure CloCells (base:Heap)(cl:List (Str×Addr))(sc:Scope)(fr:List Str)(fvs:List V):Prop where
 cell:∀x c,cl.lookup x=some c->∃v,base.IsCell c v
 inj:∀x y c,cl.lookup x=some c->cl.lookup y=some c->x=y
 has:∀x,sc.names.lookup x=some .free->∃c,cl.lookup x=some c
 len:fvs.length=fr.length
 val:∀(i:Nat) x v,fr[i]? = some x->fvs[i]? = some v->sc.names.lookup x=some .free/\∃u c,RelV v u/\cl.lookup x=some c/\base.IsCell c (some u)
def cxC (CX:CXT)(P:Program)(w:World)(K:Frag)(mg:Str->Option Value)(base:Heap)(N:List Str)(qual:Str)(scope:Scope)(f:Addr)(cd:Value)(cl:List (Str×Addr))(A:Around)(outer:List Env)(s:Shared)(H:Hp)(E:XK):Cx where
 prog:=P
 w:=w
 K:=K
 mg:=mg
 base:=base
 A:=A.deeper (envX qual scope s.heap.objs.size f cd cl)
 N:=N
 s₀:=s
 H₀:=H
 env:=envX qual scope s.heap.objs.size f cd cl
 outer:=outer
 stack:=envX qual scope s.heap.objs.size f cd cl::outer
 ex:=[]
 calm:=true
 fn:=λ_=>false
 pn:=[]
 xe:=λe s'=>wpAny (model P w) (A.deeper (envX qual scope s.heap.objs.size f cd cl)) (leaving (envX qual scope s.heap.objs.size f cd cl) e) (λ_ s''=>CX outer H s E e s'') (λe' s''=>CX outer H s E e' s'') s'
def ig {x:Str}{u:Value}:∀{ps:List Str} {us:List Value} {i:Nat},ps.Nodup->ps[i]? = some x->us[i]? = some u->(ps.zip us).reverse.lookup x=some u:=by
 have out:∀(l:List (Str×Value)) (r:List (Str×Value)),(∀v,(x,v)∉l)->(l++r).lookup x=r.lookup x:=by
  intro l
  induction l with
  |nil=>intro r _;rfl
  |cons a l ih=>
   intro r h;obtain⟨y,v⟩:=a;have hy:(x==y)=false:=by
    apply Bool.eq_false_iff.mpr;intro z;have z':=eq_of_beq z;subst z';exact h v l10
   rw[l74,l48,hy];exact ih r λv hv=>h v (l15 _ hv)
 intro ps
 induction ps with
 |nil=>intro us i _ h;simp at h
 |cons p ps ih=>
  intro us i nd h1 h2;cases us with
  |nil=>simp at h2
  |cons w us=>
   rw[List.zip_cons_cons,List.reverse_cons];cases i with
   |zero=>
    simp at h1 h2;subst h1;subst h2;rw[out _ _ λv hv=>(l45.mp nd).1 (l65 (List.mem_reverse.mp hv)).1];rw[l48];simp
   |succ i=>
    have q:=ih (us:=us) (i:=i) (l45.mp nd).2 (by simpa using h1) (by simpa using h2);have app:∀(l r:List (Str×Value)) (v:Value),l.lookup x=some v->(l++r).lookup x=some v:=by
     intro l
     induction l with
     |nil=>intro r v h;cases h
     |cons a l ih=>
      intro r v h;obtain⟨y,z⟩:=a;rw[l74,l48] at *;cases hb:x==y with
      |true=>rw[hb] at h;exact h
      |false=>rw[hb] at h;exact ih r v h
    exact app _ _ _ q
def nT {CX:CXT}{P:Program}{w:World}{K:Frag}{mg:Str->Option Value}{base:Heap}{N ps fr:List Str}{qual:Str}{scope:Scope}{f:Addr}{cd:Value}{cl:List (Str×Addr)}{A:Around}{outer:List Env}{s:Shared}{h₁:Heap}{tk:Nat}{H:Hp}{E:XK}{us:List Value}{vs fvs:List V}
  (S:CloScope N ps fr scope)(C:CloCells base cl scope fr fvs)(hd:A.handled=none)(e0:Env0 P w K mg base A outer s H)(hl:vs.length=ps.length)(r:Vals vs us)(htk:0 < tk)
  (hns:h₁.Ns s.heap.objs.size (λx=>(ps.zip us).reverse.lookup x))(hk:∀b o,s.heap.get? b=some o->h₁.get? b=some o):
  Inv (cxC CX P w K mg base N qual scope f cd cl A outer s H E) [] (aT N (vs++fvs)) H { s with heap:=h₁,toks:=tk }:=by
 have hpl:ps.length+fr.length<=N.length:=by have:=congrArg List.length S.pre;rw[l34,l6] at this;omega
 have noA:∀b:Addr,b∉(cxC CX P w K mg base N qual scope f cd cl A outer s H E).ex:=λb z=>absurd (show b∈([]:List Addr) from z) (by simp);have hkb:∀b o,base.get? b=some o->h₁.get? b=some o:=λb o e=>hk b o (e0.bs b o e).1;refine ⟨⟨e0.mod,S.kind,rfl,rfl,l7 _,C.inj,λy hy=>?_,λy c z _=>absurd (show false=true from z) Bool.false_ne_true,λ_=>hd,Around.frames_deeper e0.frames, .inr ⟨rfl,rfl⟩,λb z=>absurd z (noA b),e0.bs,e0.bsz,λb _ _=>noA b,λb z=>absurd z (noA b),e0.funs,e0.frf⟩,
  rfl,e0.bare,Un.kept hk,⟨_,hns,λi y v h1 h2 h3=>?_⟩,λy c h=>?_,e0.hok.fresh (l7 _),λy c h=>?_,λp hp=>absurd (show p∈([]:List (Addr×Obj)) from hp) (by simp),e0.hok.kept hk,?_,htk⟩
 ·have hy:scope.names.lookup y=some .cell ∨ scope.names.lookup y=some .free:=hy;rcases hy with hy |hy
  ·exact absurd rfl (S.nocell _ (PySem.mem_of_lookup hy))
  ·exact C.has y hy
 ·have hi:i < (vs++fvs).length:=by
   unfold aT at h2;by_cases hi:i < (vs++fvs).length
   ·exact hi
   ·rw[List.getElem?_append_right (by simpa using hi)] at h2;rw[List.getElem?_replicate] at h2;split at h2 <;> cases h2
  have ha:(vs++fvs)[i]? = some v:=by
   unfold aT at h2;rw[List.getElem?_append_left (by simpa using hi),List.getElem?_map] at h2;cases e:(vs++fvs)[i]? with
   |none=>rw[e] at h2;cases h2
   |some a=>rw[e] at h2;cases h2;rfl
  have w6:(vs++fvs).length=ps.length+fr.length:=by rw[l6,hl,C.len]
  have hp:(ps++fr)[i]? = some y:=by
   rw[<- S.pre,List.getElem?_take_of_lt nofun];exact h1
  have ndP:(ps++fr).Nodup:=by rw[<- S.pre];exact S.nd.sublist (List.take_sublist _ _)
  by_cases hip:i < ps.length
  ·rw[List.getElem?_append_left hip] at hp;rw[List.getElem?_append_left nofun] at ha;obtain⟨u,hu,rv⟩:=r.get ha;exact⟨u,rv, .inl ⟨S.par y (l18 hp),ig (List.nodup_append.mp ndP).1 hp hu⟩⟩
  ·rw[List.getElem?_append_right nofun] at hp;rw[List.getElem?_append_right nofun,hl] at ha;obtain⟨hf,u,c,rv,hc,z⟩:=C.val _ y v hp ha;exact⟨u,rv, .inr ⟨.inr hf,c,hc,z.keeps hkb⟩⟩
 ·obtain⟨v,z⟩:=C.cell y c h;exact⟨v,z.keeps hkb⟩
 ·obtain⟨v,o,z,_⟩:=C.cell y c h;exact(e0.bs _ _ z).2
 ·unfold aT;show _=N.length;have w6:(vs++fvs).length=ps.length+fr.length:=by rw[l6,hl,C.len]
  rw[l6,l5,l72];omega
def xL {CX:CXT}{P:Program}{w:World}{K:Frag}{mg:Str->Option Value}{base:Heap}{k:Nat}{f:Addr}{name qual:Str}{params:Arguments}{body:List Stmt}{scope:Scope}{cl:List (Str×Addr)}{dV kV doc pm cdv ct oc:Value}{an od:Option Addr}
  {osl:Array (Option Value)}{N ps fr:List Str}{fvs:List V}{sp:Sp}(lk:base.get? f=some ⟨oc,od, .func (fnX name qual params body scope cl dV kV doc pm an cdv ct),osl⟩)(hcd:base.CodeRec cdv qual)(S:CloScope N ps fr scope)(C:CloCells base cl scope fr fvs)
  (len:∀vs H Q E,sp vs H Q E->vs.length=ps.length)
  (v7:∀(A:Around)(outer:List Env)(s:Shared)(H:Hp)(vs:List V)(Q:VK)(E:XK),Room k (A.deeper (envX qual scope s.heap.objs.size f cdv cl))->sp vs H Q E →
   ∃t,PSs (cxC CX P w K mg base N qual scope f cdv cl A outer s H E) body t/\t { nx:=λ_ H'=>Q .non H',rt:=Q } (aT N (vs++fvs)) H):
  FnOk P w K mg base CX (k+1) f (fnX name qual params body scope cl dV kV doc pm an cdv ct) ps sp:=by
 refine⟨len,λA outer s H args us vs Q E hr e0 hb r hsp=>?_⟩;have hl:=len _ _ _ _ hsp;have hkb:∀b o,base.get? b=some o->s.heap.get? b=some o:=λb o e=>(e0.bs b o e).1;have lim:s.heap.NoLimit:=e0.mod.nolimit.keeps hkb;refine codeAny_call_def (fd:=fnX name qual params body scope cl dV kV doc pm an cdv ct) (body:=body) (binds:=ps.zip us) hr.depth (hkb _ _ lk) rfl lim (hcd.keeps hkb) rfl hb S.nocell (λx hx=>S.par _ (l65 hx).1) (λh₁ hns hk₁=>?_) S.co S.gen S.kind;obtain⟨t,ht,hq⟩:=v7 A outer s H vs Q E (hr.deeper _) hsp;have I:Inv (cxC CX P w K mg base N qual scope f cdv cl A outer s H E) [] (aT N (vs++fvs)) H { s with heap:=h₁,toks:=s.toks+(ps.zip us).length }:=
  nT S C hr.hd e0 hl r (l19 e0.tk (l66 _ _)) hns hk₁
 refine wpAny_mono (ht [] _ (aT N (vs++fvs)) H _ I hq) (λfl s' hs=>?_) λe s' hs=>hs;have fin:∀{σ':St} {H':Hp} {v:V} {u:Value},Inv (cxC CX P w K mg base N qual scope f cdv cl A outer s H E) [] σ' H' s'->RelV v u->Q v H'->CE outer P w H s Q u s':=
  λ{σ' H' v u} J rv q=>⟨v,H',J.os,J.bare,J.base,J.hok,J.tk,rv,q⟩
 cases fl with
 |ret u=>
  obtain⟨v,σ',H',J,rv,q⟩:=hs;exact fin J rv q
 |next=>
  obtain⟨σ',H',J,q⟩:=hs;exact fin (v:=V.non) (u:=Value.none) J rfl q
 |brk=>
  obtain⟨_,_,_,q⟩:=hs;exact False.elim q
 |cont=>
  obtain⟨_,_,_,q⟩:=hs;exact False.elim q
def bK (env:Env):List (Str×NameKind)->List (Str×Addr)->List (Str×Addr)
 | [],acc=>acc
 |(n,k)::r,acc=>if k == .free then (match env.cells.lookup n with |some c=>bK env r ((n,c)::acc) |none=>bK env r acc) else bK env r acc
def dZ {env:Env}{sc:Scope}(h:∀n,(n,NameKind.free)∈sc.names->∃c,env.cells.lookup n=some c):closureFor sc env=pure (bK env sc.names []):=by
 have go:∀(l:List (Str×NameKind)) (acc:List (Str×Addr)),(∀n,(n,NameKind.free)∈l->∃c,env.cells.lookup n=some c) →
   (forIn l acc λ(x:Str×NameKind) (cs:List (Str×Addr))=>(if (x.2 == .free)=true then do let __do_lift ← cellOf env x.1;pure (ForInStep.yield ((x.1,__do_lift)::cs)) else pure (ForInStep.yield cs):Sem (ForInStep (List (Str×Addr)))))=pure (bK env l acc):=by
  intro l
  induction l with
  |nil=>intro acc _;rfl
  |cons a l ih=>
   intro acc hl;obtain⟨n,k⟩:=a;rw[List.forIn_cons];unfold bK;by_cases hk:(k==NameKind.free)=true
   ·have hk':k=NameKind.free:=eq_of_beq hk;subst hk';obtain⟨c,hc⟩:=hl n l10;simp only[hk,if_true,cellOf,hc,pure_bind];exact ih _ λm hm=>hl m (l15 _ hm)
   ·simp only[hk,if_false,pure_bind,Bool.false_eq_true];exact ih _ λm hm=>hl m (l15 _ hm)
 unfold closureFor;show (forIn sc.names [] _ >>= pure)=_;rw[bind_pure];exact go sc.names [] h
theorem d7 {env:Env}{x:Str}{c:Addr}:∀{l:List (Str×NameKind)} {acc:List (Str×Addr)},acc.lookup x=some c->env.cells.lookup x=some c->(bK env l acc).lookup x=some c
 | [],acc,h,_=>h
 |(n,k)::r,acc,h,he=>by
  unfold bK;split
  ·split
   ·rename_i c' hc;refine d7 ?_ he;rw[l48];cases hb:x==n with
    |true=>
     have:=eq_of_beq hb;subst this;rw[he] at hc;cases hc;rfl
    |false=>exact h
   ·exact d7 h he
  ·exact d7 h he
theorem d8 {env:Env}{x:Str}{c:Addr}(he:env.cells.lookup x=some c):∀{l:List (Str×NameKind)} {acc:List (Str×Addr)},(x,NameKind.free)∈l->(bK env l acc).lookup x=some c
 | [],_,h=>by cases h
 |(n,k)::r,acc,h=>by
  unfold bK;rcases l8.mp h with z |z
  ·cases z;rw[if_pos (by rfl),he];refine d7 ?_ he;rw[l48];simp
  ·split
   ·split
    ·exact d8 he z
    ·exact d8 he z
   ·exact d8 he z
abbrev cK (c:Addr)(q:Str):HO := .ext λh=>h.CodeRec (.ref c) q
abbrev jW (g:Addr)(o:Obj):HO := .ext λh=>h.get? g=some o
def nU {P:Program}{w:World}{H:Hp}{h:Heap}{c:Addr}{q:Str}(x:h.CodeRec (.ref c) q):ObjOk P w H h c (cK c q):=by
 refine⟨x,?_,λh1 h2 y k=>?_⟩
 ·obtain⟨c',o,vs,t,e,g,_⟩:=x;cases e;exact⟨o,g⟩
 ·obtain⟨c',o,vs,t,e,g,r⟩:=y;cases e;exact⟨c,o,vs,t,rfl,k o g,r⟩
def mH {P:Program}{w:World}{H:Hp}{h:Heap}{g:Addr}{o:Obj}(x:h.get? g=some o):ObjOk P w H h g (jW g o):=⟨x,⟨o,x⟩,λh1 h2 y k=>k o y⟩
def Tab (P:Addr)(qs:List (Pos×Str))(H:Hp):Prop:=
 ∃ps,H P=some (.tbl ps)/\TriplesOk ps.toList/\∀q∈qs,codeAmong q.1 ps.toList=none ∨ ∃c,codeAmong q.1 ps.toList=some (.ref c)/\H c=some (cK c q.2)
def Tab.new {P:Addr}{qs:List (Pos×Str)}{H:Hp}(h:H P=some (.tbl #[])):Tab P qs H:=⟨#[],h,trivial,λ_ _ => .inl rfl⟩
def Tab.keep {P:Addr}{qs:List (Pos×Str)}{H H':Hp}(t:Tab P qs H)(k:∀b o,H b=some o->H' b=some o):Tab P qs H':=by
 obtain⟨ps,a,b,c⟩:=t;refine⟨ps,k _ _ a,b,λq hq=>(c q hq).imp id λ⟨d,e,f⟩=>⟨d,e,k _ _ f⟩⟩
def Tab.keepW {P:Addr}{qs:List (Pos×Str)}{H H':Hp}(t:Tab P qs H)(k:∀b o,(∀xs,o ≠ .lst xs)->H b=some o->H' b=some o):Tab P qs H':=by
 obtain⟨ps,a,b,c⟩:=t;refine⟨ps,k _ _ (λ_ z=>nomatch z) a,b,λq hq=>(c q hq).imp id λ⟨d,e,f⟩=>⟨d,e,k _ _ (λ_ z=>nomatch z) f⟩⟩
def iV {pos:Pos}{a b:Int}{c:Value}(l:List Value)(h:TriplesOk l):
  codeAmong pos (l++[rawInt a,rawInt b,c])=match codeAmong pos l with |some v=>some v |none=>if (a==pos.line&&b==pos.col)=true then some c else none:=by
 fun_induction TriplesOk l with
 |case1=>simp[codeAmong,rawInt]
 |case2 a' t b' u x rest ih=>
  simp only[l74,codeAmong];split
  ·rfl
  ·exact ih h
 |case3 l h1 h2=>exact h.elim
abbrev gg (c:Addr)(v:V):HO := .ext λh=>∃u,RelV v u/\h.IsCell c (some u)
def nV {P:Program}{w:World}{H:Hp}{h:Heap}{c:Addr}{v:V}{u:Value}(r:RelV v u)(x:h.IsCell c (some u)):ObjOk P w H h c (gg c v):=by
 refine⟨⟨u,r,x⟩,?_,λh1 h2 ⟨u',r',o,e,q⟩ k=>⟨u',r',o,k o e,q⟩⟩;obtain⟨o,e,_⟩:=x;exact⟨o,e⟩
structure Clo where
 g:Addr
 c:Addr
 obj:Obj
 qual:Str
 cs:List (Addr×V)
structure Made (P:Addr)(qs:List (Pos×Str))(H H':Hp)(d:Clo):Prop where
 fn:H' d.g=some (jW d.g d.obj)
 cd:H' d.c=some (cK d.c d.qual)
 tab:Tab P qs H'
 new:H d.g=none
 ne:d.g≠d.c
 keep:∀b o,b≠P->H b=some o->H' b=some o
 only:∀b,H b=none->b≠d.g->b≠d.c->H' b=none
inductive tDef (P:Addr)(qs:List (Pos×Str))(i:Nat)(mk:Clo->Prop)(D:Ends)(σ:St)(H:Hp):Prop
 |mk (_:Tab P qs H)(_:∀d H',Made P qs H H' d->mk d->D.nx (σ.set i (some (.ref d.g))) H')
structure DefAt (X:Cx)(c P:Addr):Prop where
 code:X.env.code = .ref c
 hd:CodeHd X.base c P
 bi:X.base.BuiltinsAt X.mg P
def BuiltinsAt.keeps' {h h':Heap}{mg:Str->Option Value}{P:Addr}(x:h.BuiltinsAt mg P)(k:∀b o,h.get? b=some o->h'.get? b=some o):h'.BuiltinsAt mg P:=
 let ⟨bm,o,a1,a2,a3,a4,a5,r⟩:=x;⟨bm,o,a1,a2,a3,a4,k _ _ a5,r⟩
def tX (X:Cx)(name:Str)(params:Arguments)(body:List Stmt)(scope:Scope)(d:Clo):Prop:=
 ∃doc ct,d.obj=fnMade name (qualnameIn X.env name name) params body scope (bK X.env scope.names []) doc ((X.mg "__name__").getD .none) d.c ct/\d.qual=qualnameIn X.env name name/\d.cs=[]
section
variable {X:Cx}{c P:Addr}{name:Str}{params:Arguments}{body:List Stmt}{scope:Scope}{pos:Pos}{qs:List (Pos×Str)}{i:Nat}
def xM (T:DefAt X c P)(hcl:∀n,(n,NameKind.free)∈scope.names->∃c,X.env.cells.lookup n=some c)(hq:(pos,qualnameIn X.env name name)∈qs)(hqs:∀q∈qs,q.1.line=pos.line->q.1.col=pos.col->q.2=qualnameIn X.env name name)
  (hN:X.N.Nodup)(hi:X.N[i]? = some name)(hx:Loc X.env.scope name)(hf:X.fn name=true ∨ X.env.scope.names.lookup name=some .local)
  (hd0:params.defaults=[])(hk0:params.kw_defaults=[])(ha:annTrees params none X.env=[]):
  PS X (.FunctionDef name params body [] none [] scope none name pos) (tDef P qs i (tX X name params body scope)):=by
 intro w9 s σ H D I hw;obtain⟨tab,hw⟩:=hw;obtain⟨ps,hP,hT,hC⟩:=id tab;have tk0:=I.tk;have ePs:s.heap.get? P=some (tabObj ps):=I.hok P _ hP;have hgs:s.heap.Ns mainGlobals X.mg:=I.mod.glob.keeps I.bk;have hgP:mainGlobals≠P:=by
  obtain⟨o,es,ep,e,_⟩:=I.mod.glob;exact λz=>by have:=(I.bs _ _ e).2;rw[z,hP] at this;cases this
 have hhd:=T.hd.keeps I.bk;have hbi:=BuiltinsAt.keeps' T.bi I.bk;have big:∀b o,H b=some o->b < s.heap.objs.size:=λb o e=>I.hok.lt e;refine PySem.W.nestDef_K hd0 hk0 ha ?_;rcases hC _ hq with hnf |⟨c0,hf0,hc0⟩
 ·refine wpAny_with_toks (n:=1) tk0 ?_;refine PySem.W.makeFunction_K (dZ hcl) I.ok.glob hgs T.code hhd ePs hT hnf hgP hbi λc' ctv doc h' tk hx' hge hlt hrec htb htk=>?_;have hgt:s.heap.objs.size<=h'.objs.size:=l13 hge (l70 hlt);have cP:c'≠P:=l42 (l19 (big P _ hP) hge);have gP:h'.objs.size≠P:=l42 (l19 (big P _ hP) hgt);have gc:h'.objs.size≠c':=l42 hlt;have old:∀b o,H b=some o->b≠c'/\b≠h'.objs.size:=λb o e=>⟨l26 (l19 (big b o e) hge),l26 (l19 (big b o e) hgt)⟩;have H'g : ∀ b, (upd (upd (upd H P (.tbl (ps ++ #[rawInt pos.line,rawInt pos.col, .ref c']))) c' (cK c' (qualnameIn X.env name name))) h'.objs.size
   (jW h'.objs.size (fnMade name (qualnameIn X.env name name) params body scope (bK X.env scope.names []) doc ((X.mg "__name__").getD .none) c' ctv))) b=
   if b=h'.objs.size then some (jW h'.objs.size (fnMade name (qualnameIn X.env name name) params body scope (bK X.env scope.names []) doc ((X.mg "__name__").getD .none) c' ctv)) else
   if b=c' then some (cK c' (qualnameIn X.env name name)) else if b=P then some (.tbl (ps ++ #[rawInt pos.line,rawInt pos.col, .ref c'])) else H b:=λb=>rfl
  generalize (upd (upd (upd H P (.tbl (ps ++ #[rawInt pos.line,rawInt pos.col, .ref c']))) c' (cK c' (qualnameIn X.env name name))) h'.objs.size
   (jW h'.objs.size (fnMade name (qualnameIn X.env name name) params body scope (bK X.env scope.names []) doc ((X.mg "__name__").getD .none) c' ctv)))=H' at H'g
  have kp:∀b o,b≠P->H b=some o->H' b=some o:=λb o nP e=>by
   rw[H'g,if_neg (old b o e).2,if_neg (old b o e).1,if_neg nP];exact e
  have none':∀b,H b=none->b≠h'.objs.size->b≠c'->H' b=none:=λb e n1 n2=>by
   rw[H'g,if_neg n1,if_neg n2,if_neg (nq hP e)];exact e
  have kH:∀b o,b≠P->s.heap.get? b=some o->(h'.push (fnMade name (qualnameIn X.env name name) params body scope (bK X.env scope.names []) doc ((X.mg "__name__").getD .none) c' ctv)).get? b=some o:=
   λb o nP e=>Heap.get?_push_of_some _ (hx' b o nP e)
  have nP':∀b,H b=none->b≠P:=λb e z=>by rw[z,hP] at e;cases e
  have J:Inv X w9 σ H' { s with heap:=h'.push (fnMade name (qualnameIn X.env name name) params body scope (bK X.env scope.names []) doc ((X.mg "__name__").getD .none) c' ctv),toks:=tk }:=by
   refine I.un ⟨λb o e n _ _=>kH b o (nP' b n) e,λb o e n _ _=>⟨o.slots,kH b o (nP' b n) e⟩,λb o e n _=>?_,λb o e _=>?_,λb xs e=>?_,λb o u e=>?_,λb qs' e=>?_⟩ (λb o e=>?_) htk
   ·have:=Heap.lt_size e;exact none' b n (l26 (l19 this hgt)) (l26 (l19 this hge))
   ·by_cases z:b=P
    ·subst z;exact⟨_,Heap.get?_push_of_some _ htb⟩
    ·exact⟨o,kH b o z e⟩
   ·exact kp b _ (nq hP e) e
   ·exact kp b _ (nq hP e) e
   ·by_cases z:b=P
    ·subst z;rw[hP] at e;cases e;exact⟨#[rawInt pos.line,rawInt pos.col, .ref c'],by rw[H'g,if_neg gP.symm,if_neg cP.symm,if_pos rfl]⟩
    ·exact⟨#[],by rw[kp b _ z e];simp⟩
   ·rw[H'g] at e;split at e
    ·rename_i z;cases e;subst z;exact mH (Heap.get?_push_size _ rfl)
    ·split at e
     ·rename_i z;cases e;subst z;exact nU (hrec.push _)
     ·split at e
      ·rename_i z;cases e;subst z;exact Heap.get?_push_of_some _ htb
      ·rename_i z;refine(I.hok b o e).stay (λd u hd q=>kH d u ?_ q) (λd q=>kp d _ (nq hP q) q) λd xs q=>kp d _ (nq hP q) q;rcases hd with hd |hd
       ·rw[hd];exact z
       ·exact(nq hP hd)
  refine fQ J hN hi hx (v := .ref h'.objs.size) rfl (λs2 J2=>?_) hf;refine⟨_,H',J2,hw ⟨h'.objs.size,c',fnMade name (qualnameIn X.env name name) params body scope (bK X.env scope.names []) doc ((X.mg "__name__").getD .none) c' ctv,qualnameIn X.env name name,[]⟩ H' ⟨?_,?_,⟨ps ++ #[rawInt pos.line,rawInt pos.col, .ref c'],?_,?_,λq hq'=>?_⟩,I.hok.fresh hgt,gc,kp,none'⟩ ⟨doc,ctv,rfl,rfl,rfl⟩⟩
  ·rw[H'g,if_pos rfl]
  ·rw[H'g,if_neg gc.symm,if_pos rfl]
  ·rw[H'g,if_neg gP.symm,if_neg cP.symm,if_pos rfl]
  ·rw[Array.toList_append];exact TriplesOk_snoc _ _ _ _ hT
  ·rw[show (ps ++ #[rawInt pos.line,rawInt pos.col, .ref c']).toList=ps.toList++[rawInt pos.line,rawInt pos.col, .ref c'] from Array.toList_append];rw[iV _ hT];rcases hC q hq' with z |⟨d,z,zd⟩
   ·rw[z];by_cases hb:((pos.line:Int)==(q.1.line:Int)&&(pos.col:Int)==(q.1.col:Int))=true
    ·refine .inr ⟨c',by simp only[hb,if_true],?_⟩;rw[Bool.and_eq_true,beq_iff_eq,beq_iff_eq] at hb;rw[hqs q hq' nofun nofun,H'g,if_neg gc.symm,if_pos rfl]
    ·exact .inl (by simp only[hb,if_false,Bool.false_eq_true])
   ·rw[z];exact .inr ⟨d,rfl,kp d _ (nq hP zd) zd⟩
 ·refine wpAny_with_toks (n:=1) tk0 ?_;refine PySem.W.makeFunction_hit (dZ hcl) I.ok.glob hgs T.code hhd ePs hT hf0 hbi λctv doc h' tk hk hsz htk=>?_;have J:=I.laid (a:=h'.objs.size) (o:=jW h'.objs.size (fnMade name (qualnameIn X.env name name) params body scope (bK X.env scope.names []) doc ((X.mg "__name__").getD .none) c0 ctv))
   (t':=tk) (h':=h'.push (fnMade name (qualnameIn X.env name name) params body scope (bK X.env scope.names []) doc ((X.mg "__name__").getD .none) c0 ctv))
   (λb u e=>Heap.get?_push_of_some _ (hk b u e)) hsz (mH (Heap.get?_push_size _ rfl)) htk
  have fr:H h'.objs.size=none:=I.hok.fresh hsz;have kp:∀b o,H b=some o->upd H h'.objs.size (jW h'.objs.size (fnMade name (qualnameIn X.env name name) params body scope (bK X.env scope.names []) doc ((X.mg "__name__").getD .none) c0 ctv)) b=some o:=λb o e=>by
   rw[ad (aB e fr)];exact e
  refine fQ J hN hi hx (v := .ref h'.objs.size) rfl (λs2 J2=>?_) hf;exact⟨_,_,J2,hw ⟨h'.objs.size,c0,fnMade name (qualnameIn X.env name name) params body scope (bK X.env scope.names []) doc ((X.mg "__name__").getD .none) c0 ctv,qualnameIn X.env name name,[]⟩ _ ⟨aa,kp _ _ hc0,tab.keep kp,fr,(aB hc0 fr).symm,λb o _ e=>kp b o e,λb e n1 _=>by rw[ad n1];exact e⟩ ⟨doc,ctv,rfl,rfl,rfl⟩⟩
end
def adrs (D:List Clo):List Addr:=D.flatMap λd=>d.g::d.c::d.cs.map (·.1)
def mem_adrs {D:List Clo}{b:Addr}:b∈adrs D ↔ ∃d∈D,b=d.g ∨ b=d.c ∨ b∈d.cs.map (·.1):=by
 unfold adrs;rw[l51];constructor
 ·rintro⟨d,hd,hb⟩;exact⟨d,hd,by simpa using hb⟩
 ·rintro⟨d,hd,hb⟩;exact⟨d,hd,by simpa using hb⟩
def drop (H:Hp)(D:List Clo):Hp:=λb=>if b∈adrs D then none else H b
def back (H:Hp)(D:List Clo)(H2:Hp):Hp:=λb=>if b∈adrs D then H b else H2 b
def aR {H:Hp}{D:List Clo}{b:Addr}(h:b∉adrs D):drop H D b=H b:=if_neg h
def cb {H H2:Hp}{D:List Clo}{b:Addr}(h:b∉adrs D):back H D H2 b=H2 b:=if_neg h
def fb {H:Hp}{D:List Clo}{b:Addr}(h:b∈adrs D):drop H D b=none:=if_pos h
def gh {H H2:Hp}{D:List Clo}{b:Addr}(h:b∈adrs D):back H D H2 b=H b:=if_pos h
def dF (H:Hp)(d:Clo):Prop:=H d.g=some (jW d.g d.obj)/\H d.c=some (cK d.c d.qual)/\∀q∈d.cs,H q.1=some (gg q.1 q.2)
def iW {H:Hp}{D:List Clo}(h:∀d∈D,dF H d){b:Addr}(hb:b∈adrs D):∃φ,H b=some (.ext φ):=by
 obtain⟨d,hd,e⟩:=mem_adrs.mp hb;rcases e with e |e |e
 ·exact⟨_,e▸(h d hd).1⟩
 ·exact⟨_,e▸(h d hd).2.1⟩
 ·obtain⟨q,hq,rfl⟩:=l23.mp e;exact⟨_,(h d hd).2.2 q hq⟩
def bV {H:Hp}{D:List Clo}(h:∀d∈D,dF H d){b:Addr}{o:HO}(e:H b=some o)(ho:∀φ,o ≠ .ext φ):b∉adrs D:=λz=>by
 obtain⟨φ,q⟩:=iW h z;rw[e] at q;cases q;exact ho φ rfl
section
variable {X:Cx}{w9:List (Addr×Obj)}{σ:St}{H:Hp}{s:Shared}{D:List Clo}
def Inv.afterX {Q:VK}{u:Value}{s':Shared}(I:Inv X w9 σ H s)(hD:∀d∈D,dF H d)(h:CE X.stack X.prog X.w (drop H D) s (λv H2=>(∀b∈adrs D,H2 b=none)->Q v (back H D H2)) u s'):EP X w9 σ Q u s':=by
 obtain⟨v,H2,os,bare,un,hok,tk',r,q⟩:=h;have dn:∀b,H b=none->drop H D b=none:=λb e=>by unfold drop;split;rfl;exact e
 have inD:∀b,b∈adrs D->H2 b=none:=λb hb=>by
  obtain⟨φ,z⟩:=iW hD hb;obtain⟨_,⟨o,e⟩,_⟩:=I.hok b _ z;exact un.free b o e (fb hb) (by simp)
 refine I.after ⟨v,back H D H2,os,bare,⟨λb o e n=>un.keep b o e (dn b n),λb o e n=>un.slot b o e (dn b n),λb o e n hx=>?_,un.there,λb xs e=>?_,λb o u e=>?_,λb ps e=>?_⟩,λb o e=>?_,tk',r,q inD⟩
 ·by_cases hb:b∈adrs D
  ·rw[gh hb];exact n
  ·rw[cb hb];exact un.free b o e (dn b n) hx
 ·have hb:=bV hD e λφ z=>by cases z
  rw[cb hb];exact un.tups b xs (by rw[aR hb];exact e)
 ·have hb:=bV hD e λφ z=>by cases z
  rw[cb hb];exact un.frzs b o u (by rw[aR hb];exact e)
 ·have hb:=bV hD e λφ z=>by cases z
  obtain⟨more,z⟩:=un.tbls b ps (by rw[aR hb];exact e);exact⟨more,by rw[cb hb];exact z⟩
 ·by_cases hb:b∈adrs D
  ·rw[gh hb] at e;obtain⟨φ,z⟩:=iW hD hb;rw[e] at z;cases z;obtain⟨p,⟨ob,eo⟩,st⟩:=I.hok b _ e;have nf:b∉frs X.stack:=λz=>by rw[I.stkFree b z] at e;cases e
   have k:∀o,s.heap.get? b=some o->s'.heap.get? b=some o:=λo e=>un.keep b o e (fb hb) nf (by simp);exact⟨st _ _ p k,⟨ob,k ob eo⟩,st⟩
  ·rw[cb hb] at e;refine(hok b o e).stay (λ_ _ _ q=>q) (λc q=>?_) λc xs q=>?_
   ·rw[cb λz=>by rw[inD c z] at q;cases q];exact q
   ·rw[cb λz=>by rw[inD c z] at q;cases q];exact q
end
section
variable {X:Cx}{k i:Nat}{x:Str}{ps:List Str}{sp:Sp}{e:Expr}{es:List Expr}{te:TE}{t:TA}{p pos:Pos}
structure FnV (P:Program)(w:World)(K:Frag)(mg:Str->Option Value)(base:Heap)(k:Nat)(g:Addr)(ps:List Str)(sp:Sp):Prop where
 ex:∃fd,FnOk P w K mg base CX0 k g fd ps sp/\Binds K fd ps []/\PySem.W.FnAt g base
def tY (X:Cx)(k i:Nat)(t:TA):TE:=λσ H Q=>∃g ps sp,σ[i]? = some (some (.ref g))/\FnV X.prog X.w X.K X.mg X.base k g ps sp/\t σ H λvs H1=>sp vs H1 Q E0
def FnAt.keeps' {h h':Heap}{q:Addr}(x:PySem.W.FnAt q h)(k:∀b o,h.get? b=some o->h'.get? b=some o):PySem.W.FnAt q h':=let ⟨a,b,c,d,e⟩:=x;⟨a,b,c,d,k _ _ e⟩
def rZ (hN:X.N[i]? = some x)(hv:Vis X.env.scope x)(hr:Room k X.A)(ha:PA X (e::es) t)(hd:(x==("__debug__":Str))=false:=by decide) (hcd:(x==("__classdict__":Str))=false:=by decide)
  (he:starEach (e::es) X.env=(false,eval e X.env)::starEach es X.env:=by rfl) (hpl:(backTo pos (starEach es X.env)).any (·.1)=false:=by rfl):
  PE X (.Call (.Name x p) (e::es) [] pos) (tY X k i t):=by
 intro w9 s σ H Q I h;obtain⟨g,ps,sp,hg,V,h⟩:=h;obtain⟨fd,F,hb,hat⟩:=V.ex;refine wpAny_Call_Name_kw (thn (oG hN hv hd hcd w9 s σ H (λv H'=>v = .ref g/\H'=H) I ⟨_,hg,rfl,rfl⟩) λu s1 ⟨v,H',I1,r,hv',hH⟩=>?_);subst hv';subst hH;obtain rfl:u=Value.ref g:=r;refine PySem.W.callWith_F (FnAt.keeps' hat I1.bk) (thn (ha pos w9 s1 σ _ _ I1 h) λus s2 ⟨vs,H2,I2,r2,q⟩=>⟨FnAt.keeps' hat I2.bk,?_⟩) he hpl;exact mC (ds:=[]) (dvs:=[]) F hr hb .nil oW I2 r2 (by rw[l25];exact q)
end
section
variable {P:Program}{w:World}{K:Frag}{mg:Str->Option Value}{base:Heap}
def pe {k:Nat}{f:Addr}{name qual:Str}{params:Arguments}{body:List Stmt}{scope:Scope}{cl:List (Str×Addr)}{doc pm ct:Value}{c':Addr}
  {N ps fr:List Str}{fvs:List V}{sp:Sp}(lk:base.get? f=some (fnMade name qual params body scope cl doc pm c' ct))(hcd:base.CodeRec (.ref c') qual)(S:CloScope N ps fr scope)(C:CloCells base cl scope fr fvs)
  (len:∀vs H Q E,sp vs H Q E->vs.length=ps.length)
  (hb:∀us:List Value,us.length=ps.length->bindArgs (fnX name qual params body scope cl .none .none doc pm none (.ref c') ct) ⟨us,[]⟩=pure (ps.zip us))
  (v7:∀(A:Around)(outer:List Env)(s:Shared)(H:Hp)(vs:List V)(Q:VK)(E:XK),Room k (A.deeper (envX qual scope s.heap.objs.size f (.ref c') cl))->sp vs H Q E →
   ∃t,PSs (cxC CX0 P w K mg base N qual scope f (.ref c') cl A outer s H E).nox body t/\t { nx:=λ_ H'=>Q .non H',rt:=Q } (aT N (vs++fvs)) H):
  FnV P w K mg base (k+1) f ps sp:=by
 refine⟨_,xL lk hcd S C len λA outer s H vs Q E hr hsp=>?_, .all hb,⟨_,_,_,_,lk⟩⟩;obtain⟨t,h,q⟩:=v7 A outer s H vs Q E hr hsp;exact⟨t,h.nox,q⟩
end
def dropK (K:Frag)(Ps:List Addr):Frag:=K.filter λp => !Ps.contains p.1
theorem bB {Ps:List Addr}{a:Addr}:∀{K:Frag},(dropK K Ps).lookup a=if Ps.contains a=true then none else K.lookup a
 | []=>by
  show (none:Option Obj)=_;split <;> rfl
 |(b,o)::K=>by
  have ih:=bB (Ps:=Ps) (a:=a) (K:=K);unfold dropK at ih ⊢;by_cases hb:Ps.contains b=true
  ·rw[List.filter_cons_of_neg (by simp only[hb];decide),ih,l48];cases hab:a==b with
   |true=>
    have:=eq_of_beq hab;subst this;rw[if_pos hb,if_pos hb]
   |false=>rfl
  ·rw[List.filter_cons_of_pos (by simp only[hb];decide),l48,l48];cases hab:a==b with
   |true=>
    have:=eq_of_beq hab;subst this;rw[if_neg hb]
   |false=>exact ih
def dropK_in {K:Frag}{Ps:List Addr}{h:Heap}(X:K.In h):(dropK K Ps).In h:=λa o e=>by
 rw[bB] at e;split at e
 ·cases e
 ·exact X a o e
def dropK_not {K:Frag}{y8:List (Addr×Addr)}:∀b o,(dropK K (y8.map (·.2))).lookup b=some o->∀q∈y8,q.2≠b:=λb o e q hq z=>by
 rw[bB,if_pos (by rw[l79,<- z];exact l43 hq)] at e;cases e
def lB (K:Frag)(Ps:List Addr):Prop:=∀a o,a∈Ps->K.lookup a=some o->o=tabObj #[]
def tabs0_of {K:Frag}{y8:List (Addr×Addr)}{h:Heap}(X:K.In h)(hT:TabsAt y8 h):lB K (y8.map (·.2)):=λa o ha e=>by
 obtain⟨q,hq,rfl⟩:=l23.mp ha;have:=(hT q hq).2;rw[X _ _ e] at this;exact Option.some.inj this
def gj {K:Frag}{Ps:List Addr}{a:Addr}{o:Obj}(h:lB K Ps)(e:K.lookup a=some o)(ho:o≠tabObj #[]):(dropK K Ps).lookup a=some o:=by
 rw[bB,if_neg (λz=>ho (h a o (l79.mp z) e))];exact e
def nsIn_drop {K:Frag}{Ps:List Addr}(h:lB K Ps)(a:Addr)(x:Str):nsIn (dropK K Ps) a x=nsIn K a x:=by
 unfold nsIn;rw[bB];by_cases hb:Ps.contains a=true
 ·rw[if_pos hb];cases e:K.lookup a with
  |none=>rfl
  |some o=>rw[h a o (l79.mp hb) e]
 ·rw[if_neg hb]
def gk {K:Frag}{Ps:List Addr}(h:lB K Ps)(cd:Value)(q:Str):codeIn (dropK K Ps) cd q=codeIn K cd q:=by
 unfold codeIn;split
 ·rename_i c;rw[bB];by_cases hb:Ps.contains c=true
  ·rw[if_pos hb];cases e:K.lookup c with
   |none=>rfl
   |some o=>rw[h c o (l79.mp hb) e]
  ·rw[if_neg hb]
 ·rfl
def xN (y8:List (Addr×Addr))(H:Hp):Prop:=∀b,H b=none ∨ (∃o xs,H b=some (.frz o (.lst xs))) ∨ ((∃q∈y8,q.2=b)/\H b=some (.tbl #[]))
def law_callT {P:Program}{w:World}{K:Frag}{mg mb:Str->Option Value}{CX:CXT}{k:Nat}{fa a:Addr}{fd:FuncData}{x:Str}{sp:Sp}{s₁:Shared}{vs:List Value}{ns:List Int}{y8:List (Addr×Addr)}
  (KX:K.In s₁.heap)(hns:s₁.heap.Ns mainGlobals mg)(hb:s₁.heap.Ns builtinsNs mb)(hbb:∀x:Str,x≠"__name__"->mb x=bootBuiltins x)(hlim:s₁.heap.NoLimit)(hg:s₁.gens = #[])(htk:0 < s₁.toks)
  (ha:s₁.heap.get? a=some { cls := .type "list",data := .seq vs.toArray }) (hi:IntsAre vs ns) (hl:ns.length<=sizeLine) (hr:Room k callerA)
  (hT:TabsAt y8 s₁.heap) (hnt:∀b o,K.lookup b=some o->∀q∈y8,q.2≠b) (hbi:∃bm o,mg "__builtins__"=some (.ref bm)/\bm≠builtinsNs/\bm≠mainGlobals/\s₁.heap.get? bm=some o/\o.cls = .type "module"/\o.dict=some builtinsNs/\o.data = .plain)
  (F:∀base:Heap,K.In base->base.Ns mainGlobals mg->(∀q∈y8,CodeHd base q.1 q.2/\base.BuiltinsAt mg q.2)->FnOk P w K mg base CX k fa fd [x] sp) (hbind:∀(s:Shared) (u:Value),BindsTo s fd ⟨[u],[]⟩ [(x,u)])
  (hsp:∀H:Hp,xN y8 H->SqL K H a (ns.map V.int)->(∀q∈y8,H q.2=some (.tbl #[]))->sp [.ref a] H (λv _=>v = .bl true) λ_ _ _=>False)
  (hCX:∀H e s',CX [] H s₁ (λ_ _ _=>False) e s'->False):
  codeAny (model P w) callerA (.call (.ref fa) ⟨[.ref a],[]⟩) (λr s'=>r = .ok (.ret (.bool true))/\OldK s₁.heap s'.heap/\s'.os=s₁.os/\AllBare s'.gens) s₁:=by
 have rv:=jQ hi;have lenV:=hi.length;have tabNe:∀q∈y8,q.2≠a:=λq hq z=>by
  have e:=(hT q hq).2;rw[z,ha] at e;cases e
 have core:∀H:Hp,xN y8 H->SqL K H a (ns.map V.int)->HOk P w H s₁.heap->(∀b,H b≠none->b=a ∨ ∃q∈y8,q.2=b)->(H a≠none->K.lookup a=none)->(∀q∈y8,H q.2=some (.tbl #[])) →
   codeAny (model P w) callerA (.call (.ref fa) ⟨[.ref a],[]⟩) (λr s'=>r = .ok (.ret (.bool true))/\OldK s₁.heap s'.heap/\s'.os=s₁.os/\AllBare s'.gens) s₁:=by
  intro H hO hS hok hA hK hTb;have base_of:∀{b:Addr} {o:Obj},s₁.heap.get? b=some o->H b=none->(hidT s₁.heap H).get? b=some o:=λe n=>rl e n;have notTab:∀{b:Addr} {o:Obj},s₁.heap.get? b=some o->b≠a->o≠tabObj #[]->H b=none:=λ{b o} e n1 n2=>by
   cases q:H b with
   |none=>rfl
   |some u=>
    rcases hA b (by rw[q];simp) with z |⟨r,hr',z⟩
    ·exact absurd z n1
    ·have e2:=(hT r hr').2;rw[z,e] at e2;exact absurd (Option.some.inj e2) n2
  have noA:∀{b:Addr} {o:Obj} {es:Array DictEntry} {ep:Nat},s₁.heap.get? b=some o->o.data = .dict es ep->H b=none:=λ{b o es ep} e d=>by
   refine notTab e (λz=>?_) λz=>?_
   ·subst z;rw[ha] at e;cases e;cases d
   ·subst z;cases d
  have nsK:∀{b:Addr} {m:Str->Option Value},s₁.heap.Ns b m->(hidT s₁.heap H).Ns b m:=λ{b m} ⟨o,es,ep,e,d,r⟩=>⟨o,es,ep,base_of e (noA e d),d,r⟩;have hKb : K.In (hidT s₁.heap H) := fun b o e => base_of (KX b o e) (by
   cases q:H b with
   |none=>rfl
   |some u=>
    rcases hA b (by rw[q];simp) with z |⟨r,hr',z⟩
    ·subst z;rw[hK (by rw[q];simp)] at e;cases e
    ·exact absurd z (hnt b o e r hr'))
  have hcd:∀q∈y8,CodeHd (hidT s₁.heap H) q.1 q.2/\(hidT s₁.heap H).BuiltinsAt mg q.2:=λq hq=>by
   refine⟨?_,?_⟩
   ·obtain⟨o,vs',file,tf,flags,tg,inF,text,tt,e1,r1,r2,r⟩:=(hT q hq).1;refine⟨o,vs',file,tf,flags,tg,inF,text,tt,base_of e1 (notTab e1 (λz=>?_) λz=>?_),r1,r2,r⟩
    ·rw[z,ha] at e1;cases e1;exact absurd r1 (by simp)
    ·subst z;cases r1
   ·obtain⟨bm,o,b1,b2,b3,b4,b5,b6,b7⟩:=hbi;refine⟨bm,o,b1,b2,b3,λz=>?_,base_of b4 (notTab b4 (λz=>?_) λz=>?_),b5,b6,b7⟩
    ·have e2:=(hT q hq).2;rw[<- z,b4] at e2;cases e2;cases b5
    ·rw[z,ha] at b4;cases b4;exact absurd b5 (by simp)
    ·subst z;cases b5
  have hM:Mod K mg (hidT s₁.heap H):=⟨hKb,nsK hns,⟨mb,nsK hb,hbb⟩,let ⟨mc,h1,h2⟩:=hlim;⟨mc,nsK h1,h2⟩⟩;have e0:Env0 P w K mg (hidT s₁.heap H) callerA [] s₁ H:=⟨rfl,hM,λb o e=>uK e,Nat.le_of_eq (oF _ _),trivial,λb hb=>absurd (show b∈([]:List Addr) from hb) (by simp),hok, .of_eq hg,htk⟩;refine codeAny_mono ((F _ hKb (nsK hns) hcd).run callerA [] s₁ H ⟨[.ref a],[]⟩ [.ref a] [.ref a] _ _ hr e0 (hbind s₁ (.ref a)) (.cons rfl .nil) (hsp H hO hS hTb)) λr s' h=>?_;cases r with
  |error e=>exact(hCX H e s' h).elim
  |ok fl=>
   cases fl with
   |next=>exact False.elim h
   |brk=>exact False.elim h
   |cont=>exact False.elim h
   |ret u=>
    obtain⟨v,H',os,bare,un,hok',_,r',q⟩:=h;have q':v = .bl true:=q;subst q';obtain rfl:u=Value.bool true:=r';have cases3:∀b o,s₁.heap.get? b=some o->s'.heap.get? b=some o ∨ ((∃q∈y8,q.2=b)/\o=tabObj #[]/\∃more,s'.heap.get? b=some (tabObj more)):=λb o e=>by
     rcases hO b with z |⟨ob,xs,z⟩ |⟨hq,z⟩
     ·exact .inl (un.keep b o e z (by intro z;exact absurd (show b∈([]:List Addr) from z) (by simp)) (by simp))
     ·have z2:=un.frzs b ob _ z;obtain⟨e1,_⟩:=hok b _ z;obtain⟨e2,_⟩:=hok' b _ z2;rw[e] at e1;cases e1;exact .inl e2
     ·obtain⟨more,z2⟩:=un.tbls b _ z;have e1:s₁.heap.get? b=some (tabObj #[]):=hok b _ z;have e2:s'.heap.get? b=some (tabObj (#[]++more)):=hok' b _ z2;rw[e] at e1;cases e1;exact .inr ⟨hq,rfl,_,e2⟩
    refine⟨rfl,⟨λb o e=>?_,λb o e=>?_⟩,os,bare⟩
    ·rcases cases3 b o e with z |⟨⟨q,hq,hb'⟩,rfl,more,z⟩
     ·exact .inl z
     ·obtain⟨o',vs',_,_,_,_,_,_,_,e1,r1,r2,r3,_⟩:=(hT q hq).1;exact .inr (.inl ⟨⟨q.1,o',vs',e1,r1,r2,by rw[<- hb'];exact r3⟩,rfl,#[],more,rfl,by rw[Array.empty_append];exact z⟩)
    ·rcases cases3 b o e with z |⟨_,_,more,z⟩
     ·exact⟨_,z⟩
     ·exact⟨_,z⟩
 have tabIn:∀q∈y8,∀(H:Hp),ObjOk P w H s₁.heap q.2 (.tbl #[]):=λq hq H=>(hT q hq).2;have dec:∀b:Addr,(∃q∈y8,q.2=b) ∨ ¬ ∃q∈y8,q.2=b:=λb=>Classical.em _;cases hk:K.lookup a with
 |some o=>
  have e:=KX a o hk;rw[ha] at e;cases e;have hH:∀b,(if b∈y8.map (·.2) then some (HO.tbl #[]) else none:Option HO)=some (.tbl #[])/\(∃q∈y8,q.2=b) ∨ (if b∈y8.map (·.2) then some (HO.tbl #[]) else none:Option HO)=none:=λb=>by
   by_cases hb':b∈y8.map (·.2)
   ·obtain⟨q,hq,rfl⟩:=l23.mp hb';exact .inl ⟨if_pos hb',q,hq,rfl⟩
   ·exact .inr (if_neg hb')
  refine core (λb=>if b∈y8.map (·.2) then some (HO.tbl #[]) else none) (λb=>?_) (.inr ⟨_,vs.toArray,_,hk,rfl,rfl,rfl,by rw[l27,lenV];exact hl,by simpa using rv⟩) (λb u z=>?_) (λb z=>?_) (λz=>?_) λq hq=>if_pos (l43 hq)
  ·rcases hH b with ⟨z,y⟩ |z
   ·exact .inr (.inr ⟨y,z⟩)
   ·exact .inl z
  ·rcases hH b with ⟨y,q,hq,rfl⟩ |y
   ·have z':=y.symm.trans z;cases z';exact tabIn q hq _
   ·have z':=y.symm.trans z;cases z'
  ·rcases hH b with ⟨_,y⟩ |y
   ·exact .inr y
   ·exact absurd y z
  ·rcases hH a with ⟨_,q,hq,y⟩ |y
   ·exact absurd y (tabNe q hq)
   ·exact absurd y z
 |none=>
  have hH:∀b,(b=a/\(if b=a then some (HO.frz { cls := .type "list",data := .seq vs.toArray } (.lst (ns.map V.int))) else if b∈y8.map (·.2) then some (HO.tbl #[]) else none:Option HO)=some (HO.frz { cls := .type "list",data := .seq vs.toArray } (.lst (ns.map V.int)))) ∨
    ((∃q∈y8,q.2=b)/\(if b=a then some (HO.frz { cls := .type "list",data := .seq vs.toArray } (.lst (ns.map V.int))) else if b∈y8.map (·.2) then some (HO.tbl #[]) else none:Option HO)=some (.tbl #[])) ∨
    (if b=a then some (HO.frz { cls := .type "list",data := .seq vs.toArray } (.lst (ns.map V.int))) else if b∈y8.map (·.2) then some (HO.tbl #[]) else none:Option HO)=none:=λb=>by
   by_cases h1:b=a
   ·exact .inl ⟨h1,if_pos h1⟩
   ·by_cases hb':b∈y8.map (·.2)
    ·obtain⟨q,hq,e⟩:=l23.mp hb';exact .inr (.inl ⟨⟨q,hq,e⟩,by rw[if_neg h1,if_pos hb']⟩)
    ·exact .inr (.inr (by rw[if_neg h1,if_neg hb']))
  refine core (λb=>if b=a then some (HO.frz { cls := .type "list",data := .seq vs.toArray } (.lst (ns.map V.int))) else if b∈y8.map (·.2) then some (HO.tbl #[]) else none) (λb=>?_) (.inl (.inr ⟨{ cls := .type "list",data := .seq vs.toArray },if_pos rfl⟩)) (λb u z=>?_) (λb z=>?_) (λ_=>hk)
   λq hq=>?_
  ·rcases hH b with ⟨_,y⟩ |⟨y,z⟩ |y
   ·exact .inr (.inl ⟨_,_,y⟩)
   ·exact .inr (.inr ⟨y,z⟩)
   ·exact .inl y
  ·rcases hH b with ⟨rfl,y⟩ |⟨⟨q,hq,rfl⟩,y⟩ |y
   ·have z':=y.symm.trans z;cases z';exact⟨ha,by rw[l5];exact hl,vs,_,rv,ha⟩
   ·have z':=y.symm.trans z;cases z';exact tabIn q hq _
   ·have z':=y.symm.trans z;cases z'
  ·rcases hH b with ⟨y,_⟩ |⟨y,_⟩ |y
   ·exact .inl y
   ·exact .inr y
   ·exact absurd y z
  ·show (if q.2=a then _ else if q.2∈y8.map (·.2) then _ else _)=_;rw[if_neg (tabNe q hq),if_pos (l43 hq)]
end L2
namespace Lm
def aL (c:Nat):List Nat->List (List Nat)
 | []=>[[]]
 |x::r=>if x=c then []::aL c r else
  match aL c r with
  |h::t=>(x::h)::t
  | []=>[[x]]
theorem jX (c:Nat):∀l:List Nat,aL c l≠[]
 | []=>by simp[aL]
 |x::r=>by
  unfold aL;split
  ·simp
  ·split <;> simp
def aW (c x:Nat)(r:List Nat)(h:x≠c):∃p t,aL c r=p::t/\aL c (x::r)=(x::p)::t:=by
 have e:aL c (x::r)=match aL c r with
   |h::t=>(x::h)::t
   | []=>[[x]]:=by
  rw[aL,if_neg h]
 cases q:aL c r with
 |nil=>exact absurd q (jX c r)
 |cons p t=>exact⟨p,t,rfl,by rw[e,q]⟩
def bL (c:Nat)(r:List Nat):aL c (c::r)=[]::aL c r:=by rw[aL,if_pos rfl]
theorem gm (c:Nat):∀l:List Nat,c∉l->aL c l=[l]
 | [],_=>rfl
 |x::r,h=>by
  have hx:x≠c:=λe=>h (by simp[e]);have ih:=gm c r λz=>h (l15 _ z);obtain⟨p,t,e1,e2⟩:=aW c x r hx;rw[ih] at e1;cases e1;exact e2
theorem iD (c:Nat):∀(a r:List Nat),c∉a->aL c (a++c::r)=a::aL c r
 | [],r,_=>by rw[l75,bL]
 |x::a,r,h=>by
  have hx:x≠c:=λe=>h (by simp[e]);have ih:=iD c a r λz=>h (l15 _ z);obtain⟨p,t,e1,e2⟩:=aW c x (a++c::r) hx;rw[ih] at e1;cases e1;exact e2
theorem iE (c:Nat):∀(l:List Nat),(aL c l).length<=l.length+1
 | []=>by simp[aL]
 |x::r=>by
  have ih:=iE c r;by_cases hx:x=c
  ·subst hx;rw[bL];simp only[l9];omega
  ·obtain⟨q,t,e1,e2⟩:=aW c x r hx;rw[e2];rw[e1] at ih;simp only[l9] at ih ⊢;omega
def bA (g:List Nat):List (List Nat)->List Nat
 | []=>[]
 | [p]=>p
 |p::q::r=>p++g++bA g (q::r)
def fc (g p:List Nat)(r:List (List Nat))(h:r≠[]):bA g (p::r)=p++g++bA g r:=by
 cases r with
 |nil=>exact absurd rfl h
 |cons q r=>rfl
theorem iF (c:Nat):∀ps:List (List Nat),ps≠[]->(∀p∈ps,c∉p)->aL c (bA [c] ps)=ps
 | [],h,_=>absurd rfl h
 | [p],_,hp=>gm c p (hp p (by simp))
 |p::q::r,_,hp=>by
  show aL c (p++[c]++bA [c] (q::r))=_;rw[l28,l89,iD c p _ (hp p (by simp)),iF c (q::r) (by simp) λz hz=>hp z (l15 _ hz)]
def bj (l:List Nat):List (List Nat):=(aL 32 l).filter (λw=>w≠[])
def ff (l:List Nat):List Nat:=bA [32] (bj l)
open PySem PySem.Builtin PySem.Builtin.Str PySem.StrLaws
abbrev S (l:List Nat):Str:=⟨l.toArray⟩
def aw (l:List Nat):(S l).length=l.length:=by simp[Str.length]
def gq (l:List Nat):(S l).cps.toList=l:=by simp
def S_of (x:Str):S x.cps.toList=x:=by cases x;simp
def iX {a b:List Nat}(h:S a=S b):a=b:=by
 have:=congrArg (λx:Str=>x.cps.toList) h;simpa using this
def cF (a b:List Nat):S a++S b=S (a++b):=by
 show Str.append (S a) (S b)=_;simp[Str.append]
theorem tZ (g:List Nat):∀ps:List Str,(Str.join (S g) ps).cps.toList=bA g (ps.map λp=>p.cps.toList)
 | []=>rfl
 | [p]=>rfl
 |p::q::r=>by
  show ((p++S g++Str.join (S g) (q::r)):Str).cps.toList=_;rw[Str.cps_append,Str.cps_append,Array.toList_append,Array.toList_append,tZ g (q::r)];rfl
def lC (c:Nat)(l:List Nat):Txt.split (S l) (S [c])=(aL c l).map S:=by
 have h1:=join_split (S l) (S [c]);have h2:=split_free (S l) c;have h3:∀ps:List Str,ps=(ps.map λp=>p.cps.toList).map S:=λps=>by
  rw[l30]
  conv=>lhs;rw[<- List.map_id ps]
  refine l60 λp _=>?_;exact(S_of p).symm
 have h4:bA [c] ((Txt.split (S l) (S [c])).map λp=>p.cps.toList)=l:=by
  have:=congrArg (λx:Str=>x.cps.toList) h1;simp only[gq] at this;rw[<- tZ];exact this
 have ne:(Txt.split (S l) (S [c])).map (λp=>p.cps.toList)≠[]:=by
  unfold Txt.split;split
  ·simp
  ·split
   ·simp
   ·rw[partsBetween_eq];obtain⟨p,r,e⟩:=partsFrom_ne (S l) (S [c]).length 0 (occurrences (S l) (S [c]) 0 (S l).length ((S l).length+1));rw[e];simp
 have h5 := iF c _ ne (λp hp=>by
  obtain⟨q,hq,rfl⟩:=l23.mp hp;exact h2 q hq)
 rw[h4] at h5;rw[h5];exact h3 _
def lD (g:List Nat)(ps:List (List Nat)):glued (S g) (ps.map S)=S (bA g ps):=by
 have key:∀(ps:List (List Nat)) (acc:List Nat),(ps.map S).foldl (λacc p=>acc++(S g).cps++p.cps) acc.toArray=(acc++(ps.map λp=>g++p).flatten).toArray:=by
  intro ps
  induction ps with
  |nil=>intro acc;simp
  |cons p r ih=>
   intro acc;rw[l20,List.foldl_cons];have e:acc.toArray++(S g).cps++(S p).cps=(acc++g++p).toArray:=by simp
   rw[e,ih];simp
 have gl:∀(p:List Nat) (r:List (List Nat)),bA g (p::r)=p++(r.map λp=>g++p).flatten:=by
  intro p r
  induction r generalizing p with
  |nil=>simp[bA]
  |cons q r ih=>rw[fc g p (q::r) (by simp),ih q];simp
 unfold glued;cases ps with
 |nil=>rfl
 |cons p r=>
  rw[gl];show (⟨(List.drop 1 (S p::r.map S)).foldl _ (S p).cps⟩:Str)=_;rw[List.drop_one,List.tail_cons,key]
def fg (g:List Nat)(ps:List (List Nat)):Txt.join (S g) (ps.map S)=S (bA g ps):=lD g ps
def bM (p:Nat->Bool)(l:List Nat):List Nat:=(l.reverse.dropWhile p).reverse
def fK (l:List Nat)(p:Nat->Bool):l.take (l.length - (l.reverse.takeWhile p).length)=bM p l:=by
 unfold bM;have h:l.reverse=l.reverse.takeWhile p++l.reverse.dropWhile p:=(l61).symm;have h2:l=(l.reverse.dropWhile p).reverse++(l.reverse.takeWhile p).reverse:=by
  have:=congrArg List.reverse h;rw[List.reverse_reverse,List.reverse_append] at this;exact this
 conv=>lhs;arg 2;rw[h2]
 have e:l.length - (l.reverse.takeWhile p).length=(l.reverse.dropWhile p).reverse.length:=by
  have:=congrArg List.length h;rw[l6,l80] at this;rw[l80];omega
 rw[e,List.take_left]
def mI (l y:List Nat):Txt.rstripChars (S l) (S y)=S (bM y.contains l):=by
 have e:(S y).cps.contains=y.contains:=by funext c;simp
 unfold Txt.rstripChars Txt.stripBy;rw[e];have h0:stripLo y.contains false (S l)=0:=rfl;have h1:stripHi y.contains true (S l) 0=l.length - (l.reverse.takeWhile y.contains).length:=by
  simp[stripHi,Str.length]
 split
 ·rename_i h;rw[stripSame,h0,h1] at h;simp only[beq_self_eq_true,Bool.true_and,beq_iff_eq,aw] at h;rw[<- fK,h,l38]
 ·rw[stripped,h0,h1];unfold strSub;rw[<- fK];simp
def fS (l y:List Nat):Txt.lstripChars (S l) (S y)=S (l.dropWhile y.contains):=by
 have e:(S y).cps.contains=y.contains:=by funext c;simp
 have hd:l.drop (l.takeWhile y.contains).length=l.dropWhile y.contains:=by
  conv=>lhs;arg 2;rw[<- l61 (p:=y.contains) (l:=l)]
  rw[List.drop_left]
 unfold Txt.lstripChars Txt.stripBy;rw[e];have h0:stripLo y.contains true (S l)=(l.takeWhile y.contains).length:=by simp[stripLo]
 have h1:∀k,stripHi y.contains false (S l) k=l.length:=λk=>by simp[stripHi,Str.length]
 split
 ·rename_i h;rw[stripSame,h0,h1] at h;simp only[Bool.and_eq_true,beq_iff_eq] at h;rw[<- hd,h.1,List.drop_zero]
 ·rw[stripped,h0,h1];unfold strSub;rw[<- hd];simp only[List.extract_toArray,List.extract_eq_take_drop];rw[l55 (by rw[l29];exact l7 _)]
def lE (l y:List Nat)(i:Nat):subAt (S l) (S y) i=decide ((l.drop i).take y.length=y):=by
 unfold subAt;rw[Bool.eq_iff_iff];simp only[beq_iff_eq,decide_eq_true_eq];rw[<- Array.toList_inj];simp[aw]
def At_S (l y:List Nat)(i:Nat):At (S l) (S y) (S l).length i ↔ i+y.length<=l.length/\(l.drop i).take y.length=y:=by
 unfold At;rw[lE,aw,aw];simp
def d9 (l y:List Nat):Txt.startswith (S l) (S y)=y.isPrefixOf l:=by
 unfold Txt.startswith;rw[lE,aw,aw,Bool.eq_iff_iff];simp only[Nat.zero_add,List.drop_zero,Bool.and_eq_true,decide_eq_true_eq,l76];constructor
 ·rintro⟨_,h⟩;exact⟨l.drop y.length,by (conv=>lhs;arg 1;rw[<- h]);exact l47 _ _⟩
 ·rintro⟨t,rfl⟩;simp
def vg (l:List Nat)(h:∀c∈l,c < 128):Txt.lower (S l)=S (l.map lo1):=by
 rw[PyProof.Rows.lower_ascii (by simpa using h)];simp
def ii (y:List Nat):List Nat->Option Nat
 | []=>if y=[] then some 0 else none
 |x::r=>if y.isPrefixOf (x::r) then some 0 else (ii y r).map (· + 1)
def iY (l y:List Nat)(i:Nat):(i+y.length<=l.length/\(l.drop i).take y.length=y) ↔ i<=l.length/\y <+: l.drop i:=by
 constructor
 ·rintro⟨h1,h2⟩;exact⟨by omega,List.prefix_iff_eq_take.mpr h2.symm⟩
 ·rintro⟨h1,h2⟩;have:=List.prefix_iff_eq_take.mp h2;have hl:=h2.length_le;rw[l29] at hl;exact⟨by omega,this.symm⟩
theorem iG (y:List Nat):∀l:List Nat,ii y l=none ↔ ∀i,¬ (i<=l.length/\y <+: l.drop i)
 | []=>by
  unfold ii;split
  ·rename_i h;subst h;simp only[reduceCtorEq,false_iff];intro h;exact h 0 ⟨l7 _,by simp⟩
  ·rename_i h;simp only[true_iff];rintro i ⟨_,hp⟩;simp at hp;exact h hp
 |x::r=>by
  unfold ii;split
  ·rename_i h;simp only[reduceCtorEq,false_iff];intro q;exact q 0 ⟨l16 _,by simpa using l76.mp h⟩
  ·rename_i h;rw[Option.map_eq_none_iff,iG y r];constructor
   ·intro q i;cases i with
    |zero=>
     rintro⟨_,hp⟩;exact h (l76.mpr (by simpa using hp))
    |succ i=>
     rintro⟨h1,hp⟩;exact q i ⟨by simpa using h1,by simpa using hp⟩
   ·rintro q i ⟨h1,hp⟩;exact q (i+1) ⟨by simpa using h1,by simpa using hp⟩
theorem fh (y:List Nat):∀(l:List Nat) (i:Nat),ii y l=some i ↔ (i<=l.length/\y <+: l.drop i)/\∀k,k < i->¬ (k<=l.length/\y <+: l.drop k)
 | [],i=>by
  unfold ii;split
  ·rename_i h;subst h;simp only[Option.some.injEq,l32,Nat.le_zero_eq,List.nil_prefix,and_true];constructor
   ·rintro rfl;exact⟨rfl,λk hk=>by omega⟩
   ·rintro⟨h,_⟩;exact h.symm
  ·rename_i h;simp only[reduceCtorEq,false_iff];rintro⟨⟨_,hp⟩,_⟩;simp at hp;exact h hp
 |x::r,i=>by
  unfold ii;split
  ·rename_i h;have h0:=l76.mp h;simp only[Option.some.injEq];constructor
   ·rintro rfl;exact⟨⟨l16 _,by simpa using h0⟩,λk hk=>by omega⟩
   ·rintro⟨_,hn⟩;cases i with
    |zero=>rfl
    |succ i=>exact absurd ⟨l16 _,by simpa using h0⟩ (hn 0 nofun)
  ·rename_i h;have h0:¬ y <+: x::r:=λq=>h (l76.mpr q);rw[l52];constructor
   ·rintro⟨j,hj,rfl⟩;obtain⟨⟨h1,h2⟩,h3⟩:=(fh y r j).mp hj;refine⟨⟨by simpa using h1,by simpa using h2⟩,λk hk=>?_⟩;cases k with
    |zero=>rintro⟨_,hp⟩;exact h0 (by simpa using hp)
    |succ k=>rintro⟨q1,q2⟩;exact h3 k nofun ⟨by simpa using q1,by simpa using q2⟩
   ·rintro⟨⟨h1,h2⟩,h3⟩;cases i with
    |zero=>exact absurd (by simpa using h2) h0
    |succ i=>exact⟨i,(fh y r i).mpr ⟨⟨by simpa using h1,by simpa using h2⟩,λk hk q=>h3 (k+1) nofun ⟨by simpa using q.1,by simpa using q.2⟩⟩,rfl⟩
def xO (l y:List Nat):Txt.find (S l) (S y)=match ii y l with |some i=>(i:Int) |none => -1:=by
 rcases PyProof.Rows.find_whole (S l) (S y) with ⟨e,hn⟩ |⟨i,e,hi,hn⟩
 ·rw[e,(iG y l).mpr λi q=>hn i ((At_S l y i).mpr ((iY l y i).mpr q))]
 ·rw[e,(fh y l i).mpr ⟨(iY l y i).mp ((At_S l y i).mp hi),λk hk q=>hn k hk ((At_S l y k).mpr ((iY l y k).mpr q))⟩]
def iH (l:List Nat)(c:Nat):(!(occurrences (S l) (S [c]) 0 (S l).length 1).isEmpty)=l.contains c:=by
 rw[found_one,Bool.eq_iff_iff];simp
def iI (x y z:Str):Txt.replace x y z=glued z (partsBetween x (occurrences x y 0 x.length (x.length+1)) y.length):=by
 unfold Txt.replace;split
 ·rename_i h;rcases Bool.or_eq_true_iff.mp h with h |h
  ·rw[l81.mp h];have e:partsBetween x [] y.length=[x]:=by
    rw[partsBetween_eq];show [strSub x 0 x.length]=[x];rw[sub_whole]
   rw[e];rfl
  ·simp only[Bool.and_eq_true,beq_iff_eq] at h;have e:z=y:=by
    obtain⟨a⟩:=y;obtain⟨b⟩:=z;simp only[Str.length,Array.size_eq_zero_iff] at h;rw[h.1,h.2]
   rw[e,glued_between_self]
 ·rfl
def r9 (c:Nat)(l:List Nat):partsBetween (S l) (occurrences (S l) (S [c]) 0 (S l).length ((S l).length+1)) (S [c]).length=(aL c l).map S:=by
 have h:=lC c l;unfold Txt.split at h;split at h
 ·rename_i hk;have no:occurrences (S l) (S [c]) 0 (S l).length ((S l).length+1)=[]:=by
   have hc:c∉l:=by
    rw[Bool.or_eq_true,decide_eq_true_eq,decide_eq_true_eq] at hk;rcases hk with hk |hk
    ·rw[aw,aw] at hk;have:l=[]:=by cases l;rfl;simp at hk
     subst this;simp
    ·have:=kind_free (S l) c hk;simpa using this
   cases q:occurrences (S l) (S [c]) 0 (S l).length ((S l).length+1) with
   |nil=>rfl
   |cons i r=>
    obtain⟨f,hG,_⟩:=occ_tight (S l) (S [c]) (l7 1);rw[q] at hG;have:=(subAt_one (S l) c i).mp hG.2.1;rw[gq] at this;exact absurd (l18 this) hc
  rw[no,partsBetween_eq];show [strSub (S l) 0 (S l).length]=_;rw[sub_whole];exact h
 ·split at h
  ·rename_i he;rw[l81.mp he,partsBetween_eq];show [strSub (S l) 0 (S l).length]=_;rw[sub_whole];exact h
  ·exact h
def lF (c:Nat)(z l:List Nat):Txt.replace (S l) (S [c]) (S z)=S (bA z (aL c l)):=by
 rw[iI,r9,lD]
def au:List Nat->List Nat
 | []=>[]
 | [x]=>[x]
 |x::y::r=>if x=92/\y=124 then au (y::r) else x::au (y::r)
theorem gs:∀(p:List Nat) (r:List Nat),(∀k,¬ [92,124] <+: p.drop k)->(∀t,r≠124::t)->au (p++r)=p++au r
 | [],r,_,_=>rfl
 | [x],r,h,hr=>by
  cases r with
  |nil=>rfl
  |cons y t=>
   show au (x::y::t)=x::au (y::t);rw[au,if_neg];rintro⟨_,rfl⟩;exact hr t rfl
 |x::y::p,r,h,hr=>by
  have ih:=gs (y::p) r (λk=>by simpa using h (k+1)) hr;show au (x::y::(p++r))=_;rw[au,if_neg]
  ·show x::au ((y::p)++r)=_;rw[ih];rfl
  ·rintro⟨rfl,rfl⟩;exact h 0 ⟨p,rfl⟩
def jY (r:List Nat):au (124::r)=124::au r:=by
 cases r with
 |nil=>rfl
 |cons y t=>
  rw[au,if_neg];rintro⟨h,_⟩;cases h
theorem iJ:∀ps:List (List Nat),(∀p∈ps,∀k,¬ [92,124] <+: p.drop k)->au (bA [92,124] ps)=bA [124] ps
 | [],_=>rfl
 | [p],h=>by
  have:=gs p [] (h p (by simp)) (by simp);simpa[bA,au] using this
 |p::q::r,h=>by
  have ih:=iJ (q::r) λz hz=>h z (l15 _ hz);show au (p++[92,124]++bA [92,124] (q::r))=p++[124]++bA [124] (q::r);rw[l28,gs p _ (h p (by simp)) (by intro t e;cases e)];show p++au (92::124::bA [92,124] (q::r))=_;rw[au,if_pos ⟨rfl,rfl⟩,jY,ih];simp
def pf (x:Str):∀(cuts:List Nat) (a f:Nat),ChainG x (S [92,124]) x.length a cuts f->(∀k,f<=k->¬ At x (S [92,124]) x.length k)->a<=x.length →
  ∀p∈partsFrom x 2 a cuts,∀k,¬ [92,124] <+: p.cps.toList.drop k:=by
 have part:∀(a b:Nat),b<=x.length->(∀k,a<=k->k < b->¬ At x (S [92,124]) x.length k)->∀k,¬ [92,124] <+: (strSub x a b).cps.toList.drop k:=by
  intro a b hb hn k hp;rw[strSub_toList] at hp;have hl:=hp.length_le;rw[l29,l34,l29] at hl;have hx:x.cps.toList.length=x.length:=by simp[Str.length]
  have hl':[92,124].length=2:=rfl;rw[hl'] at hl;refine hn (a+k) nofun nofun ?_;have hx2:x=S x.cps.toList:=(S_of x).symm;rw[hx2,At_S,iY];refine⟨by omega,?_⟩;rw[List.drop_take] at hp;have:=hp.trans (List.take_prefix _ _);rwa [List.drop_drop] at this
 intro cuts
 induction cuts with
 |nil=>
  intro a f h hn ha p hp;have e:f=a:=h;subst e;rw[l14.mp hp];exact part f x.length (l7 _) λk h1 _=>hn k h1
 |cons d r ih=>
  intro a f h hn ha p hp;rcases l8.mp hp with rfl |hp'
  ·exact part a d (by have:=h.2.1.1;omega) h.2.2.1
  ·refine ih (d+2) f h.2.2.2 hn ?_ p hp';have:=h.2.1.1;have e:(S [92,124]).length=2:=rfl;omega
def iZ (l:List Nat):Txt.replace (S l) (S [92,124]) (S [124])=S (au l):=by
 obtain⟨f,hG,hn⟩:=occ_tight (S l) (S [92,124]) ∅;have hp:=pf (S l) _ 0 f hG hn (l16 _);have hg:=glued_between_self (S l) (S [92,124]) ((S l).length+1);rw[iI];rw[partsBetween_eq] at hg ⊢;have e2:(S [92,124]).length=2:=rfl;rw[e2] at hg ⊢;generalize partsFrom (S l) 2 0 (occurrences (S l) (S [92,124]) 0 (S l).length ((S l).length+1))=ps at hp hg ⊢;have eS:ps=(ps.map λp=>p.cps.toList).map S:=by
  rw[l30]
  conv=>lhs;rw[<- List.map_id ps]
  exact l60 λp _=>(S_of p).symm
 rw[eS,lD] at hg ⊢;have hl:=iX hg;rw[<- hl,iJ];intro p hp' k;obtain⟨q,hq,rfl⟩:=l23.mp hp';exact hp q hq k
def bT (n:Nat)(d:Nat):Option Int->Nat
 |none=>d
 |some i=>(max 0 (min (if i < 0 then i+n else i) n)).toNat
def cutL (l:List Nat)(lo hi:Option Int):List Nat:=(l.drop (bT l.length 0 lo)).take (bT l.length l.length hi - bT l.length 0 lo)
def gu (l:List Nat):∀(n a:Nat),a+n<=l.length->((List.range n).map λ(k:Nat)=>a+k).filterMap (l[·]?)=(l.drop a).take n:=by
 intro n
 induction n with
 |zero=>intro a _;simp
 |succ n ih=>
  intro a h;rw[l82,l17,List.filterMap_append,ih a nofun,l41];have:a+n < l.length:=by omega
  simp[List.getElem?_drop,this]
def ph (n:Nat)(d:Nat)(o:Option Int):(match o with |none=>(d:Int) |some i=>max 0 (min (if i < 0 then i+n else i) n))=(bT n d o:Int):=by
 cases o with
 |none=>rfl
 |some i=>exact(l40 (Int.le_max_left _ _)).symm
def pi (n:Nat)(d:Nat)(o:Option Int)(h:d<=n):bT n d o<=n:=by
 cases o with
 |none=>exact h
 |some i=>exact Int.toNat_le.mpr (Int.max_le.mpr ⟨Int.natCast_nonneg n,Int.min_le_right _ _⟩)
def pj (a b:Nat):sliceRange a b 1=(List.range (b - a)).map λ(k:Nat)=>a+k:=by
 unfold sliceRange;rw[if_pos (by decide:(1:Int) > 0),Int.add_sub_cancel,Int.ediv_one];have e:(if (a:Int) < b then (b:Int) - a else 0).toNat=b - a:=by
  split
  ·exact Int.toNat_sub b a
  ·rename_i h;rw[Nat.sub_eq_zero_of_le (Int.ofNat_le.mp (Int.not_lt.mp h))];rfl
 try dsimp only
 rw[e];refine congrArg (λf=>List.map f _) (funext λk=>?_);rw[Int.one_mul,<- Int.natCast_add];exact l37 _
def se (n:Nat)(lo hi:Option Int):strSliceIndices lo hi 1 n=(List.range (bT n n hi - bT n 0 lo)).map λ(k:Nat)=>bT n 0 lo+k:=by
 have e1:(1:Int) > 0:=by decide
 rw[<- pj,<- ph,<- ph];unfold strSliceIndices;simp only[e1,if_true];rfl
def gw (l:List Nat)(lo hi:Option Int):Txt.slice (S l) lo hi=S (cutL l lo hi):=by
 obtain⟨a,b,ea,eb,ha,hb,e⟩:∃(a b:Nat),a=bT l.length 0 lo/\b=bT l.length l.length hi/\a<=l.length/\b<=l.length/\strSliceIndices lo hi 1 l.length=(List.range (b - a)).map λ(k:Nat)=>a+k:=
  ⟨_,_,rfl,rfl,pi _ _ _ (l16 _),pi _ _ _ (l7 _),se _ _ _⟩
 unfold Txt.slice cutL;rw[aw,e,<- ea,<- eb];simp only[l5,l50];split
 ·rename_i h;simp only[beq_self_eq_true,Bool.true_and,beq_iff_eq] at h;have h1:a=0:=by omega
  have h2:b=l.length:=by omega
  rw[h1,h2];simp
 ·rename_i h;congr 1;have q:=gu l (b - a) a nofun;rw[<- q];congr 2;funext i;simp
def vh (x:Nat):List (List Nat)->List (List Nat)
 |h::t=>(x::h)::t
 | []=>[[x]]
def bd:Nat->List Nat->List (List Nat)
 |_,[]=>[[]]
 |prev,x::r=>if x=124/\prev≠92 then []::bd x r else vh x (bd x r)
def cL (l:List Nat):List (List Nat):=bd 0 l
theorem lG:∀(l:List Nat) (p:Nat),bd p l≠[]
 | [],_=>by simp[bd]
 |x::r,p=>by
  unfold bd;split
  ·simp
  ·cases h:bd x r <;> simp[vh]
def cm (l:List Nat)(i:Nat):Bool:=l[i]? == some 124&&(i==0||l[i - 1]? != some 92)
def cy:Nat->Nat->List Nat->List Nat
 |_,_,[]=>[]
 |prev,k,x::r=>if x=124/\prev≠92 then k::cy x (k+1) r else cy x (k+1) r
def sf (pre r:List Nat)(x:Nat):cm (pre++x::r) pre.length=decide (x=124/\pre.getLastD 0≠92):=by
 unfold cm;have e1:(pre++x::r)[pre.length]? = some x:=by simp
 rw[e1];rcases l83 pre with rfl |⟨p,y,rfl⟩
 ·rw[Bool.eq_iff_iff];simp
 ·have e2:(p.concat y++x::r)[(p.concat y).length - 1]? = some y:=by
   rw[l90,l28];simp
  rw[e2,Bool.eq_iff_iff];simp
theorem gy:∀(suf pre:List Nat),((List.range' pre.length suf.length).filter (cm (pre++suf)))=cy (pre.getLastD 0) pre.length suf
 | [],pre=>rfl
 |x::r,pre=>by
  have ih:=gy r (pre++[x]);rw[l6,l28] at ih;simp only[l9,l32,Nat.zero_add,l89] at ih;rw[l9,List.range'_succ,List.filter_cons,sf,cy];have e:(pre++[x]).getLastD 0=x:=by simp
  rw[e] at ih;by_cases h:x=124/\pre.getLastD 0≠92
  ·rw[if_pos h];simp only[h,and_self,decide_true,if_true,ne_eq,not_false_eq_true];have e124:=h.1;subst e124;rw[ih]
  ·rw[if_neg h,if_neg (by simpa using h),ih]
def jZ (l:List Nat):(List.range l.length).filter (cm l)=cy 0 0 l:=by
 have:=gy l [];simpa[List.range_eq_range'] using this
def cG (l:List Nat):Nat->List Nat->List (List Nat)
 |_,[]=>[]
 |b,p::r=>(l.drop b).take (p - b)::cG l (p+1) r
theorem fj:∀(suf pre:List Nat) (b:Nat),b<=pre.length →
  ∃h t,bd (pre.getLastD 0) suf=h::t/\cG (pre++suf) b (cy (pre.getLastD 0) pre.length suf++[(pre++suf).length])=(pre.drop b++h)::t
 | [],pre,b,hb=>by
  refine⟨[],[],rfl,?_⟩;show [((pre++[]).drop b).take ((pre++[]).length - b)]=_;rw[l25,l25,l55 (by rw[l29];exact l7 _)]
 |x::r,pre,b,hb=>by
  have e:(pre++[x]).getLastD 0=x:=by simp
  have el:(pre++[x]).length=pre.length+1:=by simp
  have ea:(pre++[x])++r=pre++x::r:=by simp
  rw[bd,cy];by_cases h:x=124/\pre.getLastD 0≠92
  ·obtain⟨h1,t1,q1,q2⟩:=fj r (pre++[x]) (pre.length+1) (by rw[el];exact l7 _);rw[e] at q1 q2;rw[el,ea] at q2;rw[if_pos h,if_pos h];refine⟨[],bd x r,rfl,?_⟩;rw[l74,cG,q2,q1];have d:(pre++[x]).drop (pre.length+1)=[]:=by rw[<- el];exact List.drop_length
   rw[d,l75,l25,List.drop_append_of_le_length hb,List.take_append_of_le_length (by rw[l29];exact l7 _),l55 (by rw[l29];exact l7 _)]
  ·obtain⟨h1,t1,q1,q2⟩:=fj r (pre++[x]) b (by rw[el];omega);rw[e] at q1 q2;rw[el,ea] at q2;rw[if_neg h,if_neg h,q1];refine⟨x::h1,t1,rfl,?_⟩;rw[q2,List.drop_append_of_le_length hb];simp
def lH (l:List Nat):cG l 0 ((List.range l.length).filter (cm l)++[l.length])=cL l:=by
 obtain⟨h,t,q1,q2⟩:=fj l [] 0 (l7 _);rw[jZ];have q2':cG l 0 (cy 0 0 l++[l.length])=h::t:=by simpa using q2
 rw[q2'];exact q1.symm
theorem iK:∀(c:List Nat) (x:Nat),au (c++[x])=if x=124/\c.getLastD 0=92 then (au c).dropLast++[124] else au c++[x]
 | [],x=>by simp[au]
 | [y],x=>by
  show (if y=92/\x=124 then au [x] else y::au [x])=_;by_cases h:y=92/\x=124
  ·rw[if_pos h,if_pos (by simpa using ⟨h.2,h.1⟩)];simp[au,h.2]
  ·rw[if_neg h,if_neg (by simpa using λa b=>h ⟨b,a⟩)];simp[au]
 |y::z::c,x=>by
  have ih:=iK (z::c) x;have e:(y::z::c).getLastD 0=(z::c).getLastD 0:=by simp
  rw[e];show au (y::z::(c++[x]))=_;rw[au,au];have ih':au (z::(c++[x]))=if x=124/\(z::c).getLastD 0=92 then (au (z::c)).dropLast++[124] else au (z::c)++[x]:=ih
  have ne:au (z::c)≠[]:=by
   cases c with
   |nil=>simp[au]
   |cons w c=>
    rw[au];split
    ·rename_i hh;have:w=124:=hh.2;subst this;rw[jY];simp
    ·simp
  by_cases h1:y=92/\z=124
  ·rw[if_pos h1,if_pos h1,ih']
  ·rw[if_neg h1,if_neg h1,ih'];by_cases h2:x=124/\(z::c).getLastD 0=92
   ·rw[if_pos h2,if_pos h2];rw[List.dropLast_cons_of_ne_nil ne];rfl
   ·rw[if_neg h2,if_neg h2];rfl
def i0 (c:List Nat):au c=[] ↔ c=[]:=by
 constructor
 ·intro h;rcases l83 c with rfl |⟨p,y,rfl⟩
  ·rfl
  ·rw[l90,iK] at h;split at h <;> simp at h
 ·rintro rfl;rfl
theorem gA:∀c:List Nat,aL 32 (au c)=(aL 32 c).map au
 | []=>rfl
 | [x]=>by
  by_cases h:x=32
  ·subst h;simp[au,aL]
  ·simp[au,aL,h]
 |x::y::r=>by
  have ih:=gA (y::r);rw[au];by_cases h:x=92/\y=124
  ·rw[if_pos h,ih];obtain⟨rfl,rfl⟩:=h;obtain⟨p,t,e1,e2⟩:=aW 32 92 (124::r) ∅;obtain⟨p',t',e1',e2'⟩:=aW 32 124 r ∅;rw[e2,e1];rw[e2'] at e1;cases e1;simp[au]
  ·rw[if_neg h];by_cases hx:x=32
   ·subst hx;rw[bL,bL,ih];simp[au]
   ·obtain⟨p,t,e1,e2⟩:=aW 32 x (y::r) hx;obtain⟨p',t',e1',e2'⟩:=aW 32 x (au (y::r)) hx;rw[e2',e2];rw[ih,e1] at e1';simp only[l20,List.cons.injEq] at e1' ⊢;obtain⟨a,b⟩:=e1';refine⟨?_,b.symm⟩;rw[<- a];by_cases hy:y=32
    ·subst hy;rw[bL] at e1;cases e1;simp[au]
    ·obtain⟨p2,t2,f1,f2⟩:=aW 32 y r hy;rw[f2] at e1;cases e1;rw[au,if_neg h]
theorem dG:∀(p r:List Nat),au (p++32::r)=au p++32::au r
 | [],r=>by
  show au (32::r)=32::au r;cases r with
  |nil=>rfl
  |cons y t=>rw[au,if_neg (λh=>by cases h.1)]
 | [x],r=>by
  have q:au (x::32::r)=x::au (32::r):=by
   rw[au,if_neg (λh=>by cases h.2)]
  show au (x::32::r)=_;rw[q];have:=dG [] r;simp only[l75] at this;rw[this];simp[au]
 |x::y::p,r=>by
  have ih:=dG (y::p) r;show au (x::y::(p++32::r))=_;rw[au,au];have ih':au (y::(p++32::r))=au (y::p)++32::au r:=ih;by_cases h:x=92/\y=124
  ·rw[if_pos h,if_pos h,ih']
  ·rw[if_neg h,if_neg h,ih'];rfl
theorem iL:∀ws:List (List Nat),bA [32] (ws.map au)=au (bA [32] ws)
 | []=>rfl
 | [p]=>rfl
 |p::q::r=>by
  have ih:=iL (q::r);show au p++[32]++bA [32] ((q::r).map au)=au (p++[32]++bA [32] (q::r));rw[ih,l28 p,l89,dG];simp
def lI (c:List Nat):bj (au c)=(bj c).map au:=by
 unfold bj;rw[gA,List.filter_map];congr 1;apply List.filter_congr;intro w _;have:=i0 w;by_cases h:w=[]
 ·subst h;simp[au]
 ·have h2:au w≠[]:=λq=>h (this.mp q);simp[h,h2]
def nW (c:List Nat):ff (au c)=au (ff c):=by
 unfold ff;rw[lI,iL]
def j2 (l:List Nat):List (List Nat):=(cL l).map λc=>ff (au c)
def pk (l:List Nat):j2 l=(cL l).map λc=>au (ff c):=by
 unfold j2;exact l60 λc _=>nW c
theorem pp {p:Nat->Bool}:∀{l:List Nat} {c:Nat},c∈l.takeWhile p->p c=true
 | [],_,h=>by simp at h
 |x::r,c,h=>by
  rw[List.takeWhile_cons] at h;split at h
  ·rename_i hx;rcases l8.mp h with rfl |h
   ·exact hx
   ·exact pp h
  ·simp at h
theorem lJ {p:Nat->Bool}:∀{l:List Nat} {y:Nat} {q:List Nat},l.dropWhile p=y::q->p y=false
 | [],_,_,h=>by simp at h
 |x::r,y,q,h=>by
  rw[List.dropWhile_cons] at h;split at h
  ·exact lJ h
  ·rename_i hx;cases h;simpa using hx
def si (l:List Nat):List Nat:=bM ([32]:List Nat).contains l
def j3 (p:Nat->Bool)(l:List Nat):∃t,l=bM p l++t/\(∀c∈t,p c=true)/\(bM p l=[] ∨ ∃q y,bM p l=q++[y]/\p y=false):=by
 refine⟨(l.reverse.takeWhile p).reverse,?_,?_,?_⟩
 ·unfold bM;rw[<- List.reverse_append,l61,List.reverse_reverse]
 ·intro c hc;rw[List.mem_reverse] at hc;exact pp hc
 ·unfold bM;cases h:l.reverse.dropWhile p with
  |nil=>exact .inl rfl
  |cons y q=>
   refine .inr ⟨q.reverse,y,by simp,?_⟩;exact lJ h
def cM (p:Nat->Bool)(l:List Nat):bM p l <+: l:=by
 obtain⟨t,e,_⟩:=j3 p l;exact⟨t,e.symm⟩
def ss (l:List Nat):(si l).length<=l.length:=(cM _ l).length_le
def nameSigns:List Nat:=[97,98,99,100,101,102,103,104,105,106,107,108,109,110,111,112,113,114,115,116,117,118,119,120,121,122,65,66,67,68,69,70,71,72,73,74,75,76,77,78,79,80,81,82,83,84,85,86,87,88,89,90,48,49,50,51,52,53,54,55,56,57]
def bF (l:List Nat):Bool:=decide (1<=l.length)&&decide (l.length<=12)&&l.all nameSigns.contains
def pq (l:List Nat):List Nat:=l.map lo1
inductive Srt where
 |empty |fence
 |quote (r:List Nat)
 |heading (lv:Nat) (w:List Nat)
 |cells (ts:List (List Nat))
 |note (n w:List Nat)
 |name (n t:List Nat)
 |item (far:Nat) (sg:Nat) (w:List Nat)
 |plain (far:Nat) (w:List Nat)
def lK (l:List Nat):List Nat:=if [62,32].isPrefixOf l then l.drop 2 else l.drop 1
def fL (b:List Nat):Nat:=(b.takeWhile ([61]:List Nat).contains).length
def ed (b:List Nat):Nat:=if fL b > 3 ∨ ¬ [32].isPrefixOf (b.drop (fL b)) then 0 else fL b
def b8 (b:List Nat):Bool:=decide (2<=b.length)&&[124].isPrefixOf b&&cm b (b.length - 1)
def defC (b:List Nat):Option Srt:=
 match ii [93,58,32] b with
 |none=>none
 |some p=>
  if ¬ [91].isPrefixOf b then none
  else if [91,94].isPrefixOf b/\bF ((b.drop 2).take (p - 2)) then some (.note (pq ((b.drop 2).take (p - 2))) (bA [32] (bj (b.drop (p+3)))))
  else if bF ((b.drop 1).take (p - 1))/\(bj (b.drop (p+3))).length=1 then some (.name (pq ((b.drop 1).take (p - 1))) ((bj (b.drop (p+3))).headD []))
  else none
def pw (b:List Nat):Srt:=
 let body:=b.dropWhile ([32]:List Nat).contains
 if [45,32].isPrefixOf body ∨ [43,32].isPrefixOf body then .item (b.length - body.length) (body.headD 0) (ff (body.drop 2)) else .plain (b.length - body.length) (ff body)
def gB (l:List Nat):Srt:=
 let b:=si l
 if b=[] then .empty
 else if [62].isPrefixOf b then .quote (lK l)
 else if b=[126,126,126] then .fence
 else if ed b > 0 then .heading (ed b) (ff (b.drop (ed b)))
 else if b8 b then .cells (j2 ((b.drop 1).take (b.length - 2)))
 else match defC b with
  |some d=>d
  |none=>pw b
def pre2 (x y:Nat)(l:List Nat):[x,y].isPrefixOf l=true ↔ l[0]? = some x/\l[1]? = some y:=by
 cases l with
 |nil=>simp
 |cons a r=>
  cases r with
  |nil=>simp
  |cons b r=>
   simp;constructor
   ·rintro⟨rfl,rfl⟩;exact⟨rfl,rfl⟩
   ·rintro⟨rfl,rfl⟩;exact⟨rfl,rfl⟩
theorem ke (c:Nat):∀l:List Nat,((aL c l).map List.length).sum+(aL c l).length=l.length+1
 | []=>by simp[aL]
 |x::r=>by
  have ih:=ke c r;by_cases hx:x=c
  ·subst hx;rw[bL];simp only[l20,l32,l35,l9];omega
  ·obtain⟨q,t,e1,e2⟩:=aW c x r hx;rw[e2];rw[e1] at ih;simp only[l20,l9,l35] at ih ⊢;omega
theorem iM (p:List Nat->Bool):∀ps:List (List Nat),((ps.filter p).map List.length).sum+(ps.filter p).length<=(ps.map List.length).sum+ps.length
 | []=>by simp
 |q::r=>by
  have ih:=iM p r;rw[List.filter_cons];split
  ·simp only[l20,l35,l9];omega
  ·simp only[l20,l35,l9];omega
def kh (l:List Nat):((bj l).map List.length).sum+(bj l).length<=l.length+1:=by
 have h1:=ke 32 l;have h2:=iM (λw=>w≠[]) (aL 32 l);unfold bj;omega
theorem glue_len':∀ps:List (List Nat),ps≠[]->(bA [32] ps).length+1=(ps.map List.length).sum+ps.length
 | [],h=>absurd rfl h
 | [p],_=>by simp[bA]
 |p::q::r,_=>by
  have ih:=glue_len' (q::r) (by simp);show (p++[32]++bA [32] (q::r)).length+1=_;simp only[l6,l20,l35,l9,l32] at ih ⊢;omega
def sx (l:List Nat):(ff l).length<=l.length:=by
 unfold ff;cases h:bj l with
 |nil=>simp[bA]
 |cons p r=>
  have h1:=glue_len' (p::r) (by simp);have h2:=kh l;rw[h] at h2;omega
def pA (ps:List (List Nat)):((ps.map S).map PySem.Str.length)=ps.map List.length:=by
 rw[l30];exact l60 λp _=>aw p
theorem pB:∀(l:List Nat) (p:Nat),((bd p l).map List.length).sum+(bd p l).length=l.length+1
 | [],_=>by simp[bd]
 |x::r,p=>by
  have ih:=pB r x;rw[bd];split
  ·simp only[l20,l32,l35,l9];omega
  ·cases h:bd x r with
   |nil=>exact absurd h (lG r x)
   |cons a b=>
    rw[h] at ih;simp only[vh,l20,l9,l35] at ih ⊢;omega
def pC (l:List Nat):(cL l).length<=l.length+1:=by have:=pB l 0;unfold cL;omega
def Asc (l:List Nat):Prop:=∀c∈l,c < 128
def vi {l:List Nat}(h:Asc l):PySem.PyData.strOk (S l)=true:=by
 unfold PySem.PyData.strOk;rw[Array.all_eq_true_iff_forall_mem];intro c hc;have:c∈l:=by simpa using hc
 have:=h c this;exact decide_eq_true nofun
theorem gC (l:List Nat):∀(ps:List Nat) (b:Nat),(cG l b ps).length=ps.length
 | [],_=>rfl
 |p::r,b=>by rw[cG,l9,gC l r (p+1),l9]
def dm (b:Nat)(ps:List Nat)(i:Nat):Nat:=if i=0 then b else ps.getD (i - 1) 0+1
theorem gE (l:List Nat):∀(ps:List Nat) (b i p:Nat),ps[i]? = some p->(cG l b ps)[i]? = some ((l.drop (dm b ps i)).take (p - dm b ps i))
 | [],_,_,_,h=>by simp at h
 |q::r,b,0,p,h=>by
  simp at h;subst h;rfl
 |q::r,b,i+1,p,h=>by
  have ih:=gE l r (q+1) i p (by simpa using h);rw[cG,List.getElem?_cons_succ,ih];have e:dm (q+1) r i=dm b (q::r) (i+1):=by
   cases i with
   |zero=>simp[dm]
   |succ i=>simp[dm]
  rw[e]
end Lm
set_option maxHeartbeats 8000000
namespace Lw
open PySem L2 Lm
structure Tx (mg:Str->Option Value):Prop where
 g10:mg "len"=none
 u11:mg "range"=none
 q10:mg "isinstance"=none
 z11:mg "all"=none
 z14:mg "str"=none
 z13:mg "bool"=none
 u12:mg "tuple"=none
 q14:mg "enumerate"=none
 g16:mg "int"=none
 u10:mg "list"=none
 u15:∃t,mg "NAME_SIGNS"=some (.str (S nameSigns) t)
 g15:∃t,mg "LONGEST_NAME"=some (.int 12 t)
 q12:∃t,mg "FENCE"=some (.str (S [126,126,126]) t)
 z24:∃t,mg "DEEPEST_HEADING"=some (.int 3 t)
 z20:∃t,mg "NAME_END"=some (.str (S [93,58,32]) t)
def big {n:Nat}(h:n<=1000000):n<=sizeLine:=by rw[sizeLine_eq];omega
def bg0:(0:Nat)<=sizeLine:=big ∅
def bg1:(1:Nat)<=sizeLine:=big ∅
def bg2:(2:Nat)<=sizeLine:=big ∅
def bg3:(3:Nat)<=sizeLine:=big ∅
def bg4:(4:Nat)<=sizeLine:=big ∅
def bg8:(8:Nat)<=sizeLine:=big ∅
def bg15:(15:Nat)<=sizeLine:=big ∅
def bg18:(18:Nat)<=sizeLine:=big ∅
def bigS {l:List Nat}(h:l.length<=1000000):(S l).length<=sizeLine:=by rw[aw];exact big h
def at_S {l:List Nat}{i:Nat}(h:i < l.length):atI (S l).cps.toList (i:Int)=some (l.getD i 0):=by
 rw[gq];refine ay ?_;rw[l33,List.getElem?_eq_getElem h];simp
def getD_some {l:List Nat}{i:Nat}(h:i < l.length):l[i]? = some (l.getD i 0):=by
 rw[l33,List.getElem?_eq_getElem h];simp
section
variable {a b:List Nat}{x y:V}
def neT (h:(!decide (x=y))=true)(ex:x=V.str (S a))(ey:y=V.str (S b)):a≠b:=by
 subst ex ey;intro e;subst e;simp at h
def neF (h:¬ (!decide (x=y))=true)(ex:x=V.str (S a))(ey:y=V.str (S b)):a=b:=by
 subst ex ey;have h2:V.str (S a)=V.str (S b):=by simpa using h
 exact iX (V.str.inj h2)
def eqT (h:decide (x=y)=true)(ex:x=V.str (S a))(ey:y=V.str (S b)):a=b:=by
 subst ex ey;exact iX (V.str.inj (of_decide_eq_true h))
end
section
variable {P:Program}{w:World}{K:Frag}{mg:Str->Option Value}{base:Heap}
inductive spBar (vs:List V)(H:Hp)(Q:VK)(u3:XK):Prop
 |mk (l:List Nat)(i:Nat)(_:vs=[.str (S l), .int i])(_:l.length<=1000000)(_:i < l.length)(_:Q (.bl (cm l i)) H)
inductive spWords (vs:List V)(H:Hp)(Q:VK)(u3:XK):Prop
 |mk (l:List Nat)(_:vs=[.str (S l)])(_:l.length<=1000000)(_:∀r H',Same H H'->H r=none->H' r=some (.lst ((bj l).map λw=>V.str (S w)))->Q (.ref r) H')
inductive spTidy (vs:List V)(H:Hp)(Q:VK)(u3:XK):Prop
 |mk (l:List Nat)(_:vs=[.str (S l)])(_:l.length<=1000000)(_:∀H',Same H H'->Q (.str (S (ff l))) H')
def pD (ws:List (List Nat)):(ws.map λw=>V.str (S w))=(ws.map S).map V.str:=by rw[l30];rfl
def kj (l:List Nat)(h:l.length<=1000000):(((bj l).map S).map (·.length)).sum+((bj l).map S).length * (S [32]).length<=sizeLine:=by
 have h1:=kh l;have h2:sizeLine=16777216:=sizeLine_eq;have h3:(((bj l).map S).map (·.length))=(bj l).map List.length:=pA _;rw[h3,l5];have h4:(S [32]).length=1:=rfl;rw[h4];omega
end
abbrev vS (l:List Nat):V := .str (S l)
section
variable {P:Program}{w:World}{K:Frag}{mg:Str->Option Value}{base:Heap}
inductive spCells (vs:List V)(H:Hp)(Q:VK)(u3:XK):Prop
 |mk (l:List Nat)(_:vs=[vS l])(_:l.length<=1000000)(_:∀r H',Same H H'->H r=none->H' r=some (.lst ((j2 l).map vS))->Q (.ref r) H')
def kl {α β:Type}(f:α->β)(xs:List α)(i:Nat)(x:α)(h:xs[i]? = some x):(xs.take i).map f++[f x]=(xs.take (i+1)).map f:=by
 rw[List.take_succ,h];simp
def nX {ps:List Nat}{i p:Nat}(h:ps[i]? = some p):dm 0 ps (i+1)=p+1:=by
 unfold dm;rw[if_neg nofun,l84,l33,h];rfl
def mJ (n d b:Nat)(hb:b<=n):bT n d (some (b:Int))=b:=by
 unfold bT;simp only[];omega
def vj (l:List Nat)(b p:Nat)(hp:p<=l.length)(hb:b<=l.length):cutL l (some (b:Int)) (some (p:Int))=(l.drop b).take (p - b):=by
 unfold cutL;rw[mJ _ _ _ hp,mJ _ _ _ hb]
def pInt (p:Nat->Bool):V->Bool
 | .int i=>p i.toNat
 |_=>false
def nY (p:Nat->Bool)(n:Nat):((((List.range n).map λ(i:Nat)=>V.int (0+(i:Int))).filter (pInt p)).map id)=((List.range n).filter p).map λ(i:Nat)=>V.int i:=by
 rw[List.map_id,List.filter_map];have:(List.range n).filter (pInt p ∘ λ(i:Nat)=>V.int (0+(i:Int)))=(List.range n).filter p:=by
  refine List.filter_congr λi _=>?_;show p (0+(i:Int)).toNat=p i;congr 1;omega
 rw[this];refine l60 λi _=>?_;rw[Int.zero_add]
def sy (l:List Nat):((List.range l.length).filter (cm l)).length<=l.length:=by
 have:=List.length_filter_le (cm l) (List.range l.length);rwa [l50] at this
def sC {l:List Nat}{i p:Nat}(hp:((List.range l.length).filter (cm l)++[l.length])[i]? = some p):dm 0 ((List.range l.length).filter (cm l)++[l.length]) i<=l.length:=by
 unfold dm;split
 ·exact l16 _
 ·rename_i h0;have hi:=(List.getElem?_eq_some_iff.mp hp).1;rw[l6,List.length_singleton] at hi;have h1:i - 1 < ((List.range l.length).filter (cm l)).length:=by omega
  rw[l33,List.getElem?_append_left h1,List.getElem?_eq_getElem h1];have:=l57.mp (l69.mp (l59 h1)).1;show ((List.range l.length).filter (cm l))[i - 1]+1<=l.length;omega
end
def sD (l:List Nat)(b:Nat):cutL l (some (b:Int)) none=l.drop b:=by
 unfold cutL;have e:bT l.length 0 (some (b:Int))=min b l.length:=by unfold bT;simp only[];omega
 rw[e];show (l.drop (min b l.length)).take (l.length - min b l.length)=l.drop b;rcases Nat.le_total b l.length with h |h
 ·rw[Nat.min_eq_left h,l55 (by rw[l29];exact l7 _)]
 ·rw[Nat.min_eq_right h,Nat.sub_self,l62,l91 h]
def vk (l:List Nat)(b p:Nat):cutL l (some (b:Int)) (some (p:Int))=(l.drop b).take (p - b):=by
 unfold cutL;have e:bT l.length 0 (some (b:Int))=min b l.length:=by unfold bT;simp only[];omega
 have e2:bT l.length l.length (some (p:Int))=min p l.length:=by unfold bT;simp only[];omega
 rw[e,e2];rcases Nat.le_total b l.length with h |h
 ·rw[Nat.min_eq_left h];rcases Nat.le_total p l.length with h2 |h2
  ·rw[Nat.min_eq_left h2]
  ·rw[Nat.min_eq_right h2,l55 (by rw[l29];exact l7 _),l55 (by rw[l29];omega)]
 ·rw[Nat.min_eq_right h,l91 h,l91 (l7 _)];simp
def pE (l:List Nat)(h:2<=l.length):cutL l (some 1) (some (-1))=(l.drop 1).take (l.length - 2):=by
 unfold cutL;have e:bT l.length 0 (some 1)=1:=by unfold bT;simp only[];omega
 have e2:bT l.length l.length (some (-1))=l.length - 1:=by unfold bT;simp only[];omega
 rw[e,e2];rfl
def dH (l:List Nat)(b:Nat):Txt.slice (S l) (some (b:Int)) none=S (l.drop b):=by rw[gw,sD]
section
variable {P:Program}{w:World}{K:Frag}{mg:Str->Option Value}{base:Heap}
inductive spName (vs:List V)(H:Hp)(Q:VK)(u3:XK):Prop
 |mk (l:List Nat)(_:vs=[vS l])(_:l.length<=1000000)(_:∀H',Same H H'->Q (.bl (bF l)) H')
def pF:V->V
 | .str x => .bl (x.cps.toList.all nameSigns.contains)
 |_ => .bl false
inductive spNameOf (vs:List V)(H:Hp)(Q:VK)(u3:XK):Prop
 |mk (l:List Nat)(_:vs=[vS l])(_:l.length<=1000000)(_:bF l=true)(_:∀H',Same H H'->Q (vS (pq l)) H')
def sE {l:List Nat}(h:bF l=true):Asc l:=by
 intro c hc;unfold bF at h;rw[Bool.and_eq_true] at h;have:=l49.mp h.2 c hc;have key:∀x∈nameSigns,x < 128:=by decide
 exact key c (by simpa using this)
inductive spRest (vs:List V)(H:Hp)(Q:VK)(u3:XK):Prop
 |mk (l:List Nat)(_:vs=[vS l])(_:l.length<=1000000)(_:Q (vS (lK l)) H)
inductive spHead (vs:List V)(H:Hp)(Q:VK)(u3:XK):Prop
 |mk (l:List Nat)(_:vs=[vS l])(_:l.length<=1000000)(_:Q (.int (ed l)) H)
def gF (p:Nat->Bool)(l:List Nat):(l.takeWhile p).length+(l.dropWhile p).length=l.length:=by
 rw[<- l6,l61]
inductive spIsC (vs:List V)(H:Hp)(Q:VK)(u3:XK):Prop
 |mk (l:List Nat)(_:vs=[vS l])(_:l.length<=1000000)(_:Q (.bl (b8 l)) H)
end
def t8 (l:List Nat)(b p:Nat):Txt.slice (S l) (some (b:Int)) (some (p:Int))=S ((l.drop b).take (p - b)):=by rw[gw,vk]
def ua:List Nat:=[101,109,112,116,121]
def uc:List Nat:=[113,117,111,116,101]
def ud:List Nat:=[102,101,110,99,101]
def mK:List Nat:=[104,101,97,100,105,110,103]
def ue:List Nat:=[99,101,108,108,115]
def xP:List Nat:=[110,111,116,101]
def xQ:List Nat:=[110,97,109,101]
def xR:List Nat:=[105,116,101,109]
def pG:List Nat:=[112,108,97,105,110]
def SrtAt (K:Frag)(H:Hp)(p:Addr):Srt->Prop
 | .empty=>H p=some (.tup [vS ua])
 | .fence=>H p=some (.tup [vS ud])
 | .quote r=>H p=some (.tup [vS uc,vS r])
 | .heading lv w=>H p=some (.tup [vS mK, .int lv,vS w])
 | .cells ts=>∃q,H p=some (.tup [vS ue, .ref q])/\H q=some (.lst (ts.map vS))
 | .note n w=>H p=some (.tup [vS xP,vS n,vS w])
 | .name n t=>H p=some (.tup [vS xQ,vS n,vS t])
 | .item far sg w=>H p=some (.tup [vS xR, .int far,vS [sg],vS w])
 | .plain far w=>H p=some (.tup [vS pG, .int far,vS w])
def DefV (K:Frag)(H:Hp)(v:V):Option Srt->Prop
 |none=>v = .non
 |some d=>∃p,v = .ref p/\SrtAt K H p d
def Tells (t:TT)(σ:St)(H:Hp)(a:Bool):Prop:=∀R:Bool->Hp->Prop,(∀H',Same H H'->R a H')->t σ H R
def km {t u:TT}{σ:St}{H:Hp}(a b:Bool)(ht:Tells t σ H a)(hu:a=true->∀H1,Same H H1->Tells u σ H1 b):Tells (tAnd t u) σ H (a&&b):=by
 intro R k;refine ht _ λH1 s1=>?_;cases a with
 |true=>exact hu rfl H1 s1 R λH' s'=>k H' (s1.trans s')
 |false=>exact k H1 s1
def t_or {t u:TT}{σ:St}{H:Hp}(a b:Bool)(ht:Tells t σ H a)(hu:a=false->∀H1,Same H H1->Tells u σ H1 b):Tells (tOr t u) σ H (a||b):=by
 intro R k;refine ht _ λH1 s1=>?_;cases a with
 |false=>exact hu rfl H1 s1 R λH' s'=>k H' (s1.trans s')
 |true=>exact k H1 s1
def lL {t:TT}{σ:St}{H:Hp}(a:Bool)(ht:Tells t σ H a):Tells (tNot t) σ H (!a):=λR k=>ht _ λH1 s1=>k H1 s1
def s_if {t:TT}{f g:TS}{D:Ends}{σ:St}{H:Hp}(a:Bool)(ht:Tells t σ H a)(k1:∀H',Same H H'->a=true->f D σ H')(k2:∀H',Same H H'->a=false->g D σ H'):tIfS t f g D σ H:=
 ht _ λH' s'=>ite2 (k1 H' s') λc=>k2 H' s' (Bool.eq_false_iff.mpr c)
def di {K:Frag}{te:TE}{σ:St}{H:Hp}{y:Str}(l z:List Nat)(hl:l.length<=1000000)(ey:y=S z)(he:∀R':VK,R' (vS l) H->te σ H R'):
  Tells (tB (tBM K "str" (rS2 λz y => .bl (Txt.startswith z y)) te (tCons (tC (.str y)) tNil))) σ H (z.isPrefixOf l):=by
 intro R k;refine he _ ⟨rfl,_,_,rfl,rfl,bigS hl,_,rfl,?_⟩;rw[ey,d9];exact k H (Same.refl H)
section
variable {P:Program}{w:World}{K:Frag}{mg:Str->Option Value}{base:Heap}
inductive spDef (K:Frag)(vs:List V)(H:Hp)(Q:VK)(u3:XK):Prop
 |mk (l:List Nat)(_:vs=[vS l])(_:l.length<=1000000)(_:∀v H',Same H H'->DefV K H' v (defC l)->Q v H')
inductive spItem (K:Frag)(vs:List V)(H:Hp)(Q:VK)(u3:XK):Prop
 |mk (l:List Nat)(_:vs=[vS l])(_:l.length<=1000000)(_:∀p H',Same H H'->SrtAt K H' p (pw l)->Q (.ref p) H')
inductive spSort (K:Frag)(vs:List V)(H:Hp)(Q:VK)(u3:XK):Prop
 |mk (l:List Nat)(_:vs=[vS l])(_:l.length<=1000000)(_:∀p H',Same H H'->SrtAt K H' p (gB l)->Q (.ref p) H')
def t_eq {te:TE}{σ:St}{H:Hp}{y:Str}(a b:List Nat)(ey:y=S b)(he:∀R':VK,R' (vS a) H->te σ H R'):Tells (tTest (tOp rEq te (tC (.str y)))) σ H (decide (a=b)):=by
 intro R k;refine he _ ⟨rfl,_,rfl,?_⟩;have:decide (vS a=V.str y)=decide (a=b):=by
  rw[ey];exact decide_eq_decide.mpr ⟨λh=>iX (V.str.inj h),λh=>by rw[h]⟩
 rw[this];exact k H (Same.refl H)
def ascB (x:Str):Bool:=x.cps.toList.all λc=>decide (c < 128)
def xS {x:Str}(h:ascB x=true):Asc x.cps.toList:=λc hc=>of_decide_eq_true (l49.mp h c hc)
end
def okV (n:Nat):V->Bool
 | .str x=>ascB x&&decide (x.length<=n)
 |_=>false
def pH {n:Nat}{v:V}(h:okV n v=true):∃l,v=vS l/\Asc l/\l.length<=n:=by
 cases v with
 |str x=>
  have h:(ascB x&&decide (x.length<=n))=true:=h;rw[Bool.and_eq_true] at h;refine⟨x.cps.toList,by rw[vS,S_of],xS h.1,?_⟩;have:=of_decide_eq_true h.2;simpa[Str.length] using this
 |_=>exact Bool.noConfusion h
def uf {xs:List V}{i:Int}{Pr:V->Prop}(h:∀v∈xs,Pr v)(h0:0<=i)(h1:i < (xs.length:Nat)):∃v,atI xs i=some v/\Pr v:=by
 have hi:i.toNat < xs.length:=by omega
 refine⟨xs[i.toNat],?_,h _ (l59 hi)⟩;have:=ay (List.getElem?_eq_getElem hi);rwa [show ((i.toNat:Nat):Int)=i by omega] at this
def xT {xs:List V}{i:Int}{n m:Nat}(h:xs.all (okV n)=true)(hm:xs.length=m)(h0:0<=i)(h1:i < (m:Nat)):∃l,atI xs i=some (vS l)/\Asc l/\l.length<=n:=by
 obtain⟨v,e,p⟩:=uf (Pr:=λv=>okV n v=true) (λv hv=>l49.mp h v hv) h0 nofun;obtain⟨l,rfl,h2,h3⟩:=pH p;exact⟨l,e,h2,h3⟩
def av {a b:List Nat}(h:Asc a)(k:Asc b):Asc (a++b):=λc hc=>by
 rcases l24.mp hc with hc |hc
 ·exact h c hc
 ·exact k c hc
def Ev (te:TE)(σ:St)(H:Hp)(v:V):Prop:=∀R:VK,R v H->te σ H R
def EvO (t:TO)(σ:St)(H:Hp)(o:Option Int):Prop:=∀R:Option Int->Hp->Prop,R o H->t σ H R
section
variable {σ:St}{H:Hp}{ta tb:TE}{i j:Int}{a b l:List Nat}{v:V}
def ev_v {k:Nat}(h:σ[k]? = some (some v)):Ev (tVar k) σ H v:=λR r=>⟨v,h,r⟩
def ev_c:Ev (tC v) σ H v:=λR r=>r
def bU {y:Str}(e:y=S b):Ev (tC (.str y)) σ H (vS b):=λR r=>by rw[e];exact r
def pI {g:Int->V}(h1:Ev ta σ H (.int i))(e:g i=v):Ev (tUn (rU g) ta) σ H v:=λR r=>h1 _ ⟨i,rfl,by rw[e];exact r⟩
def pJ:EvO iT σ H none:=λR r=>r
def pK (h:Ev ta σ H (.int i)):EvO (tPart ta) σ H (some i):=λR r=>h _ ⟨i,rfl,r⟩
def pL {tl th:TO}{lo hi:Option Int}(hl:l.length<=1000000)(h1:Ev ta σ H (vS l))(h2:EvO tl σ H lo)(h3:EvO th σ H hi)(e:cutL l lo hi=a):Ev (tSl rSlS ta tl th) σ H (vS a):=λR r=>
 h1 _ (h2 _ (h3 _ ⟨_,rfl,bigS hl,by rw[gw,e];exact r⟩))
def bH (h1:Ev ta σ H (vS a))(h2:Ev tb σ H (vS b))(hz:a.length+b.length<=1000000):Ev (tOp R_op_add_str ta tb) σ H (vS (a++b)):=λR r=>
 h1 _ (h2 _ ⟨_,_,rfl,rfl,by rw[aw,aw];exact big hz,by rw[cF];exact r⟩)
end
def sI (l:List Nat):cutL l none (some (-1))=l.dropLast:=by
 unfold cutL;have e:bT l.length l.length (some (-1))=l.length - 1:=by unfold bT;simp only[];omega
 rw[e,List.dropLast_eq_take];rfl
def zn:Srt->Option (List Nat)
 | .heading _ w=>some w
 | .note _ w=>some w
 | .item _ _ w=>some w
 | .plain _ w=>some w
 |_=>none
def vn:Srt->List Nat
 | .empty=>ua
 | .fence=>ud
 | .quote _=>uc
 | .heading _ _=>mK
 | .cells _=>ue
 | .note _ _=>xP
 | .name _ _=>xQ
 | .item _ _ _=>xR
 | .plain _ _=>pG
inductive Flat (K:Frag) (H:Hp):V->Prop where
 |int (i:Int):Flat K H (.int i)
 |str (x:Str):Flat K H (.str x)
 |lst {q:Addr} {xs:List V}:H q=some (.lst xs)->Flat K H (.ref q)
theorem SrtAt.parts {K:Frag}{H:Hp}{p:Addr}:∀{r:Srt},SrtAt K H p r->∃ys,H p=some (.tup (vS (vn r)::ys))/\(∀y∈ys,Flat K H y)/\∀w,zn r=some w->∃zs,ys=zs++[vS w]
 | .empty,h=>⟨[],h,(λ_ z=>nomatch z),(λ_ z=>nomatch z)⟩
 | .fence,h=>⟨[],h,(λ_ z=>nomatch z),(λ_ z=>nomatch z)⟩
 | .quote r,h=>⟨[vS r],h,λy z=>by rw[show y=vS r by simpa using z];exact .str _,λ_ z=>nomatch z⟩
 | .heading lv w, h => ⟨[.int lv,vS w],h,λy z=>by
   rcases l8.mp z with rfl |z
   ·exact .int _
   ·rw[show y=vS w by simpa using z];exact .str _,λu z=>⟨[.int lv],by cases z;rfl⟩⟩
 | .cells ts,⟨q,h,hq⟩=>⟨[.ref q],h,λy z=>by rw[show y = .ref q by simpa using z];exact .lst hq,λ_ z=>nomatch z⟩
 | .note n w, h => ⟨[vS n,vS w],h,λy z=>by
   rcases l8.mp z with rfl |z
   ·exact .str _
   ·rw[show y=vS w by simpa using z];exact .str _,λu z=>⟨[vS n],by cases z;rfl⟩⟩
 | .name n t, h => ⟨[vS n,vS t],h,λy z=>by
   rcases l8.mp z with rfl |z
   ·exact .str _
   ·rw[show y=vS t by simpa using z];exact .str _,λ_ z=>nomatch z⟩
 | .item far sg w, h => ⟨[.int far,vS [sg],vS w],h,λy z=>by
   rcases l8.mp z with rfl |z
   ·exact .int _
   rcases l8.mp z with rfl |z
   ·exact .str _
   ·rw[show y=vS w by simpa using z];exact .str _,λu z=>⟨[.int far,vS [sg]],by cases z;rfl⟩⟩
 | .plain far w, h => ⟨[.int far,vS w],h,λy z=>by
   rcases l8.mp z with rfl |z
   ·exact .int _
   ·rw[show y=vS w by simpa using z];exact .str _,λu z=>⟨[.int far],by cases z;rfl⟩⟩
def zo (c:Nat)(n:Nat):Txt.mul (S [c]) (n:Int)=S (List.replicate n c):=by
 unfold Txt.mul;by_cases h:(n:Int) < 1
 ·rw[if_pos h];have:n=0:=by omega
  subst this;rfl
 ·rw[if_neg h];by_cases h1:n=1
  ·subst h1;rfl
  ·rw [if_neg (by
    rw[Bool.or_eq_true];rintro(z |z)
    ·have:(n:Int)=1:=by simpa using z
     omega
    ·rw[aw] at z;simp at z)]
   have key:∀(m:Nat) (acc:List Nat),List.foldl (λx1 x2=>x1++x2) acc.toArray (List.replicate m (S [c]).cps)=(acc++List.replicate m c).toArray:=by
    intro m
    induction m with
    |zero=>intro acc;simp
    |succ m ih=>
     intro acc;rw[List.replicate_succ,List.foldl_cons];have e:acc.toArray++(S [c]).cps=(acc++[c]).toArray:=by simp
     rw[e,ih (acc++[c]),List.replicate_succ];simp
   have:=key n [];rw[show (n:Int).toNat=n by omega];simp only[l75] at this;rw[show (#[]:Array Nat)=([]:List Nat).toArray from rfl,this]
def gG {n:Nat}{k:Nat}{fr:List Nat}{g:TG}{tt:TT}{te:TE}{σ:St}{H0:Hp}{Q:Addr->Hp->Prop}(lo:Int)(Pr:V->Prop)(hl:n<=sizeLine)
  (ht:∀i,i < n->∀H',Same H0 H'->∀(C:V->Hp->Prop)(N:Hp->Prop),(∀v H4,Same H' H4->Pr v->C v H4) →
   g (.int (lo+(i:Nat))) (nfS k fr σ) H' λσ2 H2=>nfLe k fr σ σ2/\tt σ2 H2 λb H3=>if b=true then te σ2 H3 C else N H3)
  (hq:∀D H' ys,H0 D=none->Same H0 H'->H' D=some (.lst ys)->ys.length=n->(∀y∈ys,Pr y)->Q D H'):rLC k fr g tt te σ (Itr lo n) H0 Q:=by
 intro D hD;refine⟨λi m acc H=>m=n - i/\i<=n/\acc.length=i/\(∀y∈acc,Pr y)/\H D=some (.lst acc)/\Same H0 H,⟨n,by simp,l16 _,rfl,(λ_ z=>nomatch z),aa,ac hD _⟩,?_⟩;rintro i m acc H ⟨rfl,hi,ha,hP,hDa,sm⟩;refine⟨hDa,?_⟩;by_cases hlt:i < n
 ·refine .inr ⟨hlt,?_⟩;rintro x H' ⟨rfl,rfl⟩;refine ht i hlt _ sm _ _ λv H4 s4 pv=>?_;refine⟨s4 _ _ hDa,by omega,n - (i+1),by omega,rfl,hlt,by rw[l6,ha];rfl,?_,aa,aj hD (sm.trans s4)⟩;intro z hz;rcases l24.mp hz with hz |hz
  ·exact hP z hz
  ·rw[show z=v by simpa using hz];exact pv
 ·exact .inl ⟨by show n<=i;omega,hq D H acc hD sm hDa nofun hP⟩
end Lw
namespace L2
open PySem PySem.Spec PyProof.Rows
section
variable {X:Cx}{c P:Addr}{k i:Nat}{x name:Str}{ps:List Str}{e:Expr}{es:List Expr}{t:TA}{p pos:Pos}{params:Arguments}{body:List Stmt}{scope:Scope}{qs:List (Pos×Str)}
def bC (hst:aC (e::es)=true):bY e=false/\aC es=true:=by
 unfold aC at hst;rw[Bool.and_eq_true,Bool.not_eq_true'] at hst;exact hst
def xcV (hN:X.N[i]? = some x)(hv:Vis X.env.scope x)(hr:Room k X.A)(ha:XA X (e::es) t)(hd:(x==("__debug__":Str))=false:=by decide) (hcd:(x==("__classdict__":Str))=false:=by decide) (hst:aC (e::es)=true:=by rfl):
  XE X (.Call (.Name x p) (e::es) [] pos) (tY X k i t):=⟨rZ hN hv hr ha.h hd hcd (aK (bC hst).1) (bE (bC hst).2)⟩
end
def vo (W:Addr->Prop)(H H':Hp):Prop:=∀b o,¬ W b->H b=some o->H' b=some o
end L2
namespace Lm
end Lm
namespace L2
open PySem PySem.Spec PyProof.Rows
section
variable {X:Cx}{k:Nat}{C:Addr}{x m f:Str}{ps:List Str}{sp:Sp}{e o value:Expr}{es:List Expr}{ta tv:TE}{t:TA}{p pos pos' w4:Pos}
def xfld (he:XE X e ta)(hb:cH e=true:=by rfl):XE X (.Attribute e f pos) (tFld X.K ta f):=⟨xw he.h (base_of hb)⟩
def aV (ha:XE X o ta)(hv:XE X value tv)(hs:swapsWith value (some (.Attribute o f pos')) pos.line X.env=pure false:=by rfl):XS X (.Assign [.Attribute o f pos'] value pos) (sFld X.K ta tv f):=⟨xx ha.h hv.h hs⟩
structure New (P:Program)(w:World)(K:Frag)(mg:Str->Option Value)(base:Heap)(k:Nat)(x:Str)(C:Addr)(ps:List Str)(sp:Sp):Prop where
 ex:∃f fd,Mk K C f/\FnOk P w K mg base CX0 k f fd ps sp/\mg x=some (.ref C)/\Binds K fd ps []
def xnew (D:New X.prog X.w X.K X.mg X.base k x C ps sp)(hr:Room (k+1) X.A)(ha:XA X (e::es) t)(hg:Gl X x:=by exact rfl) (hdb:(x==("__debug__":Str))=false:=by decide) (hst:aC (e::es)=true:=by rfl):
  XE X (.Call (.Name x p) (e::es) [] pos) (tMake C sp [] E0 t):=by
 obtain⟨f,fd,M,F,hm,hb⟩:=D.ex;exact⟨u5 M F hr hg hm hb .nil oW ha.h hdb (aK (bC hst).1) (bE (bC hst).2)⟩
structure MethV (P:Program)(w:World)(K:Frag)(mg:Str->Option Value)(base:Heap)(k:Nat)(C:Addr)(m:Str)(ps:List Str)(sp:Sp):Prop where
 ex:∃f fd,Cls K C/\Meth K C m f/\FnOk P w K mg base CX0 k f fd ps sp/\Binds K fd ps []
def MethV.mono {P:Program}{w:World}{K:Frag}{mg:Str->Option Value}{base:Heap}{j k:Nat}{C:Addr}{m:Str}{ps:List Str}{sp:Sp}(V:MethV P w K mg base j C m ps sp)(h:j<=k):MethV P w K mg base k C m ps sp:=let ⟨f,fd,a,b,F,c⟩:=V.ex;⟨f,fd,a,b,F.mono h,c⟩
inductive tMethV.I (XP:Program)(Xw:World)(XK:Frag)(Xm:Str->Option Value)(Xb:Heap)(k:Nat)(m:Str)(t:TA)(σ:St)(Q:VK)(x:V)(H1:Hp):Prop
 |mk (a C dx fs ps sp)(_:x = .ref a)(_:H1 a=some (.ins C dx fs))(_:fs.lookup m=none)(_:MethV XP Xw XK Xm Xb k C m ps sp)(_:t σ H1 λvs H2=>sp (x::vs) H2 Q E0)
def tMethV (X:Cx)(k:Nat)(m:Str)(ta:TE)(t:TA):TE:=λσ H Q=>ta σ H (tMethV.I X.prog X.w X.K X.mg X.base k m t σ Q)
def xmV {pl:Sem Bool}(he:XE X o ta)(hr:Room k X.A)(ha:XA X (e::es) t)(hst:aC (e::es)=true:=by rfl)
  (ht : eval (.Call (.Attribute o m w4) (e :: es) [] pos) X.env = (do
   let ov ← eval o X.env
   standAt w4.atName
   let (f,first) ← holding [ov] (getMethod ov m pl)
   callWith pos f first (backTo pos (starEach (e::es) X.env)) (backToKw pos (keywordEach [] X.env))):=by rfl):
  XE X (.Call (.Attribute o m w4) (e::es) [] pos) (tMethV X k m ta t):=by
 refine⟨λw9 s σ H Q I h=>?_⟩;refine methodCall_KW (pl:=pl) (thn (he.h w9 s σ H _ I h) λu s1 zz=>?_) ht;obtain⟨x,H1,I1,rx,a,C,dx,fs,ps,sp,ex,ea,l,V,q⟩:=zz;subst ex;obtain rfl:u=Value.ref a:=rx;obtain⟨f,fd,c,hm,F,hb⟩:=V.ex;refine eV I1 ea c hm l ?_;refine callWith_K (first:=[.ref a]) (h₀:=X.base) I.ok.mod.kin hm.kp (thn (ha.h pos w9 s1 σ H1 _ I1 q) λus s2 ⟨vs,H2,I2,r,q2⟩=>⟨I2.kIn,?_⟩) (aK (bC hst).1) (bE (bC hst).2);exact mC (us := .ref a::us) (vs := .ref a::vs) (ds:=[]) (dvs:=[]) F hr hb .nil oW I2 (.cons rfl r) (by rw[l25];exact q2)
def xmV0 {pl:Sem Bool}(he:XE X o ta)(hr:Room k X.A)
  (ht : eval (.Call (.Attribute o m w4) [] [] pos) X.env = (do
   let ov ← eval o X.env
   standAt w4.atName
   let (f,first) ← holding [ov] (getMethod ov m pl)
   callWith pos f first (backTo pos (starEach [] X.env)) (backToKw pos (keywordEach [] X.env))):=by rfl):
  XE X (.Call (.Attribute o m w4) [] [] pos) (tMethV X k m ta tNil):=by
 refine⟨λw9 s σ H Q I h=>?_⟩;refine methodCall_KW (pl:=pl) (thn (he.h w9 s σ H _ I h) λu s1 zz=>?_) ht;obtain⟨x,H1,I1,rx,a,C,dx,fs,ps,sp,ex,ea,l,V,q⟩:=zz;subst ex;obtain rfl:u=Value.ref a:=rx;obtain⟨f,fd,c,hm,F,hb⟩:=V.ex;refine eV I1 ea c hm l ?_;exact PySem.W.callWith_K0 (first:=[.ref a]) I1.kIn hm.kp (mC (us:=[.ref a]) (vs:=[.ref a]) (ds:=[]) (dvs:=[]) F hr hb .nil oW I1 (.cons rfl .nil) (by rw[l25];exact q))
end
theorem closL_sub' {env:Env}{x:Str}{c:Addr}:∀{l:List (Str×NameKind)} {acc:List (Str×Addr)},(x,c)∈bK env l acc->(x,c)∈acc ∨ (env.cells.lookup x=some c/\(x,NameKind.free)∈l)
 | [],acc,h => .inl h
 |(n,k)::r,acc,h=>by
  have up:∀{acc':List (Str×Addr)},(x,c)∈bK env r acc'->(x,c)∈acc' ∨ (env.cells.lookup x=some c/\(x,NameKind.free)∈(n,k)::r):=λh=>(closL_sub' h).imp id λ⟨a,b⟩=>⟨a,l15 _ b⟩;unfold bK at h;split at h
  ·rename_i hk;split at h
   ·rename_i c' hc;rcases up h with z |z
    ·rcases l8.mp z with z |z
     ·cases z;exact .inr ⟨hc,by rw[<- eq_of_beq hk];exact l10⟩
     ·exact .inl z
    ·exact .inr z
   ·exact up h
  ·exact up h
def fM (H:Hp)(cs:List (Addr×V)):Hp:=λb=>match cs.find? (λq=>q.1==b) with
 |some q=>some (gg q.1 q.2)
 |none=>H b
def dk {H:Hp}{cs:List (Addr×V)}{b:Addr}(h:b∉cs.map (·.1)):fM H cs b=H b:=by
 unfold fM;rw[List.find?_eq_none.mpr λq hq z=>h (by rw[<- eq_of_beq z];exact l43 hq)]
def kn {H:Hp}{cs:List (Addr×V)}{q:Addr×V}(hq:q∈cs)(inj:∀p∈cs,∀r∈cs,p.1=r.1->p.2=r.2):fM H cs q.1=some (gg q.1 q.2):=by
 unfold fM;cases e:cs.find? (λr=>r.1==q.1) with
 |none=>exact absurd (List.find?_eq_none.mp e q hq) (by simp)
 |some r=>
  have h1:r.1=q.1:=eq_of_beq (List.find?_some (p:=λr:Addr×V=>r.1==q.1) e);have h2:=inj r (List.mem_of_find?_eq_some e) q hq h1;show some (gg r.1 r.2)=_;rw[h1,h2]
structure MadeC (P:Addr)(qs:List (Pos×Str))(H H':Hp)(d:Clo):Prop where
 ok:dF H' d
 tab:Tab P qs H'
 new:∀b∈d.g::d.cs.map (·.1),H b=none
 keep:∀b o,b≠P->H b=some o->H' b=some o
 only:∀b,H b=none->b∉adrs [d]->H' b=none
def Kept (mg:Str->Option Value)(nm q:Str)(params:Arguments)(body:List Stmt)(scope:Scope)(ps:List Str)(vs:List V)(d:Clo):Prop:=
 ∃doc ct cl,d.obj=fnMade nm q params body scope cl doc ((mg "__name__").getD .none) d.c ct/\d.qual=q/\(∀x y c,cl.lookup x=some c->cl.lookup y=some c->x=y) ∧
  (∀x c,cl.lookup x=some c->∃(j:Nat) (v:V),ps[j]? = some x/\vs[j]? = some v/\(c,v)∈d.cs)/\∀x,scope.names.lookup x=some .free->∃c,cl.lookup x=some c
inductive spMaker (P:Addr)(qs:List (Pos×Str))(mg:Str->Option Value)(nm q:Str)(params:Arguments)(body:List Stmt)(scope:Scope)(ps:List Str)(vs:List V)(H:Hp)(Q:VK)(u3:XK):Prop
 |mk (_:vs.length=ps.length)(_:Tab P qs H)(_:∀d H',MadeC P qs H H' d->Kept mg nm q params body scope ps vs d->Q (.ref d.g) H')
section
variable {P:Program}{w:World}{K:Frag}{mg:Str->Option Value}{base:Heap}
def mL {x qual nm:Str}{st:Stmt}{f c Pt:Addr}{fd:FuncData}{N ps:List Str}{i k:Nat}{params:Arguments}{body:List Stmt}{scope:Scope}{pos p1 p2:Pos}{qs:List (Pos×Str)}(F:Fun K x qual st f fd)(hc:fd.code = .ref c)(S:FnScope N ps (ab st))
  (v7:aG st=[.FunctionDef nm params body [] none [] scope none nm pos, .Return (some (.Name nm p1)) p2])(hT:CodeHd base c Pt/\base.BuiltinsAt mg Pt)
  (hfr:∀y∈scope.names,y.2 = .free->(ab st).names.lookup y.1=some .cell/\y.1∈ps)(hq:(pos,qualnameIn (envOfC qual (ab st) 0 0 .none) nm nm)∈qs)
  (hqs:∀q∈qs,q.1.line=pos.line->q.1.col=pos.col->q.2=qualnameIn (envOfC qual (ab st) 0 0 .none) nm nm)(hi:N[i]? = some nm)(hx:(ab st).names.lookup nm=some .local)
  (hd0:params.defaults=[])(hk0:params.kw_defaults=[])(ha:∀env:Env,annTrees params none env=[])(hdb:(nm==("__debug__":Str))=false)(hcd:(nm==("__classdict__":Str))=false):
  FnOk P w K mg base CX0 (k+1) f fd ps (spMaker Pt qs mg nm (qualnameIn (envOfC qual (ab st) 0 0 .none) nm nm) params body scope ps):=by
 obtain⟨oc,od,kV,doc,pm,an,cdv,ct,osl,rfl,lk,hcd'⟩:=F.ex;obtain rfl:cdv = .ref c:=hc;refine⟨λvs H Q E h=>h.1,λA outer s H args us vs Q E hr e0 hb r hsp=>?_⟩;obtain⟨hl,tab,q⟩:=hsp;have KX:K.In s.heap:=e0.mod.kin.keeps λb o e=>(e0.bs b o e).1;have lim:s.heap.NoLimit:=e0.mod.nolimit.keeps λb o e=>(e0.bs b o e).1;have hkind:∀y∈ps.zip us,(ab st).names.lookup y.1=some .local ∨ ((ab st).names.lookup y.1=some .cell/\((cellsFrom (s.heap.objs.size+1) (ab st).names []).lookup y.1).isSome=true):=λ⟨n,v⟩ hy=>by
  rcases S.par n (l65 hy).1 with q |q
  ·exact .inl q
  ·exact .inr ⟨q,cellsFrom_some _ _ _ (.inl q)⟩
 refine codeAny_call_function hr.depth (KX _ _ lk) rfl S.co S.gen rfl (codeRec_of KX hcd') (hb _ _ _ _ ?_);refine wpAny_with_toks (n:=1) e0.tk (wpAny_newFunctionEnv_cells S.kind hkind λenv he s1 x1 htk=>?_);subst he;refine⟨lim.keeps x1.toInCall.keep,codeAny_func ?_⟩;have I:Inv (cxOf CX0 P w K mg base N qual (ab st) f (.ref c) A outer s H E) [] (aT N vs) H s1:=jO S hr.hd e0 hl r htk x1;rw[v7];have hcl:∀n,(n,NameKind.free)∈scope.names->∃c',(cxOf CX0 P w K mg base N qual (ab st) f (.ref c) A outer s H E).env.cells.lookup n=some c':=λn hn=>iS (hfr _ hn rfl).1;have psd:=xM (X:=cxOf CX0 P w K mg base N qual (ab st) f (.ref c) A outer s H E) (c:=c) (P:=Pt) (name:=nm) (params:=params) (body:=body) (scope:=scope) (pos:=pos) (qs:=qs) (i:=i) ⟨rfl,hT.1,hT.2⟩ hcl hq hqs S.nd hi (.inl hx) (.inr hx) hd0 hk0 (ha _);refine wpAny_execs_cons (thn (psd [] s1 (aT N vs) H { nx:=λσ H'=>∃d,Made Pt qs H H' d/\tX (cxOf CX0 P w K mg base N qual (ab st) f (.ref c) A outer s H E) nm params body scope d/\σ=(aT N vs).set i (some (.ref d.g)),rt:=λ_ _=>False,bk:=λ_ _=>False,ct:=λ_ _=>False } I ⟨tab,λd H' M mk=>⟨d,M,mk,rfl⟩⟩) λfl s2 hs=>?_);cases fl with
 |ret u=>obtain⟨_,_,_,_,_,z⟩:=hs;exact z.elim
 |brk=>obtain⟨_,_,_,z⟩:=hs;exact z.elim
 |cont=>obtain⟨_,_,_,z⟩:=hs;exact z.elim
 |next=>
  obtain⟨σ2,H2,J,d,M,⟨doc',ct',eobj,equal,ecs⟩,rfl⟩:=hs;have hiN:i < N.length:=(List.getElem?_eq_some_iff.mp hi).1;have hil:i < (aT N vs).length:=by rw[I.len];exact hiN
  have hat:((aT N vs).set i (some (V.ref d.g)))[i]? = some (some (.ref d.g)):=List.getElem?_set_self hil;refine wpAny_execs_cons (wpAny_Return_some (thn (oG (X:=cxOf CX0 P w K mg base N qual (ab st) f (.ref c) A outer s H E) hi (.inl hx) hdb hcd [] s2 _ H2 (λv H'=>v = .ref d.g/\H'=H2) J ⟨_,hat,rfl,rfl⟩) λu s3 ⟨v,H3,J3,rv,ev,eH⟩=>?_));subst ev;subst eH;obtain rfl:u=Value.ref d.g:=rv;have hpl:ps.length<=N.length:=by have:=congrArg List.length S.pre;rw[l34] at this;omega
  have ndP:ps.Nodup:=by rw[<- S.pre];exact S.nd.sublist (List.take_sublist _ _)
  let env:=envOfC qual (ab st) s.heap.objs.size f (.ref c)
  have ent:∀n cc,(n,cc)∈bK env scope.names []->env.cells.lookup n=some cc/\∃(j:Nat) (v:V) (u:Value),ps[j]? = some n/\vs[j]? = some v/\RelV v u/\s3.heap.IsCell cc (some u)/\H3 cc=none/\s.heap.objs.size<=cc:=λn cc hm=>by
   rcases closL_sub' hm with z |⟨hlk,hfree⟩
   ·cases z
   obtain⟨w5,hmem⟩:=hfr _ hfree rfl;obtain⟨j,hj⟩:=l92.mp hmem;have hjl:j < ps.length:=(List.getElem?_eq_some_iff.mp hj).1;have hNj:N[j]? = some n:=by
    have e:(N.take ps.length)[j]? = some n:=by rw[S.pre];exact hj
    rwa [List.getElem?_take_of_lt hjl] at e
   have hvj:vs[j]? = some vs[j]:=List.getElem?_eq_getElem nofun;have nij:i≠j:=λz=>by
    rw[z,hNj] at hi;cases hi;rw[hx] at w5;cases w5
   have hσ:((aT N vs).set i (some (V.ref d.g)))[j]? = some (some vs[j]):=by
    rw[List.getElem?_set_ne nij];unfold aT;rw[List.getElem?_append_left (by rw[l5];omega),List.getElem?_map,hvj];rfl
   obtain⟨mm,_,hloc⟩:=J3.loc;obtain⟨u,ru,look⟩:=hloc j n vs[j] hNj hσ (.inr (.inl w5));refine⟨hlk,j,vs[j],u,hj,hvj,ru,?_,J3.freeC n cc hlk,J3.ok.cab n cc rfl hlk⟩;rcases look with ⟨kk,_⟩ |⟨_,c2,e2,z⟩
   ·have kk':(ab st).names.lookup n=some .local:=kk;rw[w5] at kk';cases kk'
   ·have e3:env.cells.lookup n=some c2:=e2;rw[hlk] at e3;cases e3;exact z
  let cs:List (Addr×V):=(bK env scope.names []).map λe=>(e.2,vs.getD (ps.findIdx (· == e.1)) .non)
  have fi:∀{n:Str} {j:Nat},ps[j]? = some n->ps.findIdx (· == n)=j:=λ{n j} hj=>by
   obtain⟨hjl,hjv⟩:=List.getElem?_eq_some_iff.mp hj;have hlt:ps.findIdx (· == n) < ps.length:=List.findIdx_lt_length_of_exists ⟨n,by rw[<- hjv];exact l59 hjl,by simp⟩;have h1:=List.findIdx_getElem (w:=hlt);exact dX ndP (List.getElem?_eq_some_iff.mpr ⟨hlt,eq_of_beq h1⟩) hj
  have csm:∀q∈cs,∃n,env.cells.lookup n=some q.1/\∃(j:Nat) (u:Value),ps[j]? = some n/\vs[j]? = some q.2/\RelV q.2 u/\s3.heap.IsCell q.1 (some u)/\H3 q.1=none/\s.heap.objs.size<=q.1:=λq hq=>by
   obtain⟨⟨n,cc⟩,hm,rfl⟩:=l23.mp hq;obtain⟨h1,j,v,u,h2,h3,h4,h5,h6,h7⟩:=ent n cc hm;have e:vs.getD (ps.findIdx (· == n)) .non=v:=by rw[fi h2,l33,h3];rfl
   refine⟨n,h1,j,u,h2,?_,?_,h5,h6,h7⟩
   ·show vs[j]? = some (vs.getD (ps.findIdx (· == n)) .non);rw[e];exact h3
   ·show RelV (vs.getD (ps.findIdx (· == n)) .non) u;rw[e];exact h4
  have csinj:∀p∈cs,∀r∈cs,p.1=r.1->p.2=r.2:=λp hp r hr e=>by
   obtain⟨n,h1,j,u,h2,h3,_⟩:=csm p hp;obtain⟨n',h1',j',u',h2',h3',_⟩:=csm r hr;rw[<- e] at h1';have:=J3.ok.inj n n' p.1 h1 h1';subst this;have:=dX ndP h2 h2';subst this;rw[h3] at h3';exact Option.some.inj h3'
  have csout:∀b o,H3 b=some o->b∉cs.map (·.1):=λb o e z=>by
   obtain⟨q,hq,rfl⟩:=l23.mp z;obtain⟨n,_,j,u,_,_,_,_,h6,_⟩:=csm q hq;rw[h6] at e;cases e
  have keepC:∀b o,H3 b=some o->fM H3 cs b=some o:=λb o e=>by rw[dk (csout b o e)];exact e
  have hW:HOk P w (fM H3 cs) s3.heap:=λb o e=>by
   by_cases hb:b∈cs.map (·.1)
   ·obtain⟨q,hq,rfl⟩:=l23.mp hb;rw[kn hq csinj] at e;cases e;obtain⟨n,_,j,u,_,_,h4,h5,_⟩:=csm q hq;exact nV h4 h5
   ·rw[dk hb] at e;exact(J3.hok b o e).stay (λ_ _ _ q=>q) (λb' q=>keepC b' _ q) λb' xs q=>keepC b' _ q
  have un:Un (frs outer) [] H (fM H3 cs) s.heap s3.heap:=by
   have ub:=J3.base;refine⟨ub.keep,ub.slot,λb o e n hb=>?_,ub.there,λb xs e=>keepC b _ (ub.tups b xs e),λb o u e=>keepC b _ (ub.frzs b o u e),λb qs' e=>?_⟩
   ·rw[dk]
    ·exact ub.free b o e n hb
    ·intro z;obtain⟨q,hq,rfl⟩:=l23.mp z;obtain⟨_,_,_,_,_,_,_,_,_,h7⟩:=csm q hq;exact absurd (Heap.lt_size e) (Nat.not_lt.mpr h7)
   ·obtain⟨more,z⟩:=ub.tbls b qs' e;exact⟨more,keepC b _ z⟩
  refine ⟨.ref d.g,fM H3 cs,J3.os,J3.bare,un,hW,J3.tk,rfl,q ⟨d.g,d.c,d.obj,d.qual,cs⟩ _ ⟨⟨keepC _ _ M.fn,keepC _ _ M.cd,λq' hq'=>kn hq' csinj⟩,M.tab.keep keepC,λb hb'=>?_,λb o nb e=>keepC b o (M.keep b o nb e),λb e hb'=>?_⟩
   ⟨doc',ct',bK env scope.names [],eobj,equal,λx y c' e1 e2=>?_,λx c' e=>?_,λx hx'=>?_⟩⟩
  ·rcases l8.mp hb' with rfl |hb'
   ·exact M.new
   ·obtain⟨q',hq',rfl⟩:=l23.mp hb';obtain⟨_,_,_,_,_,_,_,_,_,h7⟩:=csm q' hq';exact e0.hok.fresh h7
  ·have hb2:=λz=>hb' (mem_adrs.mpr ⟨_,l14.mpr rfl,z⟩);rw[dk λz=>hb2 (.inr (.inr z))];exact M.only b e (λz=>hb2 (.inl z)) λz=>hb2 (.inr (.inl z))
  ·exact J3.ok.inj x y c' (ent x c' (PySem.mem_of_lookup e1)).1 (ent y c' (PySem.mem_of_lookup e2)).1
  ·have hm:=PySem.mem_of_lookup e;obtain⟨_,j,v,u,h2,h3,_⟩:=ent x c' hm;refine⟨j,v,h2,h3,l23.mpr ⟨(x,c'),hm,?_⟩⟩;show (c',vs.getD (ps.findIdx (· == x)) .non)=(c',v);rw[fi h2,l33,h3];rfl
  ·obtain⟨c',hc'⟩:=hcl x (PySem.mem_of_lookup hx');exact⟨c',d8 hc' (PySem.mem_of_lookup hx')⟩
end
section
variable {X:Cx}{e:Expr}{te:TE}{x:Str}{pos:Pos}
inductive rEq0 (K:Frag)(neg:Bool)(x y:V)(H:Hp)(Q:VK):Prop
 |mk (p q xs)(_:x = .ref p)(_:y = .ref q)(_:SqL K H p xs)(_:SqL K H q [])(_:Q (.bl (if neg then !xs.isEmpty else xs.isEmpty)) H)
def pM (hu:X.A.units+64 < cLine):OpR X (compareOp .Eq) (rEq0 X.K false):=by
 intro w9 s σ H x y v u Q I rx ry h;obtain⟨p,q,xs,rfl,rfl,hp,hq,k⟩:=h;cases rx;cases ry;obtain⟨its,r,pl,_⟩:=I.list hp;obtain⟨v5,r2,pl2,_⟩:=I.list hq;have e2:=r2.length;have e1:=r.length;cases v5 with
 |cons _ _=>simp at e2
 |nil=>
 cases its with
 |nil=>
  cases xs with
  |cons _ _=>simp at e1
  |nil=>exact SeqAt.eq_listAt (e:=λ_=>true) pl.isList pl2.isList rfl nofun (λj h1 _=>absurd h1 (Nat.not_lt_zero _)) ⟨.bl _,H,I,rfl,k⟩
 |cons _ _=>
  cases xs with
  |nil=>simp at e1
  |cons _ _=>exact SeqAt.eq_list_lengthsAt pl.isList pl2.isList (by simp) nofun ⟨.bl _,H,I,rfl,k⟩
def xU (hu:X.A.units+64 < cLine):OpR X (compareOp .NotEq) (rEq0 X.K true):=by
 intro w9 s σ H x y v u Q I rx ry h;obtain⟨p,q,xs,rfl,rfl,hp,hq,k⟩:=h;cases rx;cases ry;obtain⟨its,r,pl,_⟩:=I.list hp;obtain⟨v5,r2,pl2,_⟩:=I.list hq;have e2:=r2.length;have e1:=r.length;cases v5 with
 |cons _ _=>simp at e2
 |nil=>
 cases its with
 |nil=>
  cases xs with
  |cons _ _=>simp at e1
  |nil=>exact SeqAt.RcNeAt.lists (e:=λ_=>true) pl.isList pl2.isList rfl nofun (λj h1 _=>absurd h1 (Nat.not_lt_zero _)) _ _ _ _ ⟨.bl _,H,I,rfl,k⟩
 |cons _ _=>
  cases xs with
  |nil=>simp at e1
  |cons _ _=>exact SeqAt.RcNeAt.lists_lengths pl.isList pl2.isList (by simp) nofun _ _ _ _ ⟨.bl _,H,I,rfl,k⟩
end
end L2
namespace Lw
open PySem L2 Lm
end Lw
namespace L2
open PySem
open PySem.Spec PyProof.Rows
end L2
namespace Lm
open PySem PySem.Builtin PySem.Builtin.Str PySem.StrLaws
end Lm
namespace L2
open PySem PySem.Spec PyProof.Rows
end L2
namespace Lm
end Lm
namespace L2
open PySem PySem.Spec PyProof.Rows
def zp {K:Frag}{a:Addr}{xs:List V}{k:Nat}{fr:List Nat}{g:TG}{tt:TT}{te:TE}{σ:St}{H0:Hp}{Q:Addr->Hp->Prop}(f:Nat->V)(hx:SqL K H0 a xs)(hl:xs.length<=sizeLine)
  (ht:∀(i:Nat) x,xs[i]? = some x->∀H',Same H0 H'->∀(C:V->Hp->Prop)(N:Hp->Prop),(∀H4,Same H' H4->C (f i) H4) →
   g x (nfS k fr σ) H' λσ2 H2=>nfLe k fr σ σ2/\tt σ2 H2 λb H3=>if b=true then te σ2 H3 C else N H3)
  (hq:∀D H',H0 D=none->Same H0 H'->H' D=some (.lst ((List.range xs.length).map f))->Q D H'):rLC k fr g tt te σ (Itl K a) H0 Q:=by
 intro D hD;refine⟨λi m acc H=>m=xs.length - i/\i<=xs.length/\Same H0 H/\H D=some (.lst acc)/\acc=(List.range i).map f,⟨xs.length,by simp,l16 _,ac hD _,aa,rfl⟩,?_⟩;rintro i m acc H ⟨rfl,hi,sm,hDa,rfl⟩;refine⟨hDa,?_⟩;by_cases hlt:i < xs.length
 ·refine .inr ⟨⟨xs,xs[i],sm.seq hx,by simp[hlt]⟩,λx H' y=>?_⟩;obtain⟨e,y⟩:=y;rw[e];refine ht i x (y xs (sm.seq hx)) _ sm _ _ λH4 s4=>?_;exact⟨s4 _ _ hDa,by rw[l5,l50];omega,xs.length - (i+1),by omega,rfl,hlt,aj hD (sm.trans s4),aa,by rw[l82,l17];rfl⟩
 ·have e:i=xs.length:=by omega
  subst e;exact .inl ⟨⟨xs,sm.seq hx,l7 _⟩,hq D H hD sm hDa⟩
def KeepX (t:Addr)(H H':Hp):Prop:=∀b o,b≠t->H b=some o->H' b=some o
def KeepX.refl {t:Addr}{H:Hp}:KeepX t H H:=λ_ _ _ h=>h
def KeepX.trans {t:Addr}{H H1 H2:Hp}(a:KeepX t H H1)(b:KeepX t H1 H2):KeepX t H H2:=λc o n h=>b c o n (a c o n h)
def pN {J:It}{k:Nat}{fr:List Nat}{g:TG}{tt:TT}{te:TE}{σ:St}{H0:Hp}{Q:Addr->Hp->Prop}(n:Nat)(f:Nat->V)(hl:n<=sizeLine)(hgo:∀i H,i < n->Same H0 H->J.go i H)(hst:∀H,Same H0 H->J.stop n H)
  (ht:∀i H x H',i < n->Same H0 H->J.yld i H x H'->Same H H'/\∀(C:V->Hp->Prop)(N:Hp->Prop),(∀H4,Same H' H4->C (f i) H4) →
   g x (nfS k fr σ) H' λσ2 H2=>nfLe k fr σ σ2/\tt σ2 H2 λb H3=>if b=true then te σ2 H3 C else N H3)
  (hq:∀D H',H0 D=none->Same H0 H'->H' D=some (.lst ((List.range n).map f))->Q D H'):rLC k fr g tt te σ J H0 Q:=by
 intro D hD;refine⟨λi m acc H=>m=n - i/\i<=n/\Same H0 H/\H D=some (.lst acc)/\acc=(List.range i).map f,⟨n,by simp,l16 _,ac hD _,aa,rfl⟩,?_⟩;rintro i m acc H ⟨rfl,hi,sm,hDa,rfl⟩;refine⟨hDa,?_⟩;by_cases hlt:i < n
 ·refine .inr ⟨hgo i H hlt sm,λx H' y=>?_⟩;obtain⟨s1,h1⟩:=ht i H x H' hlt sm y;refine h1 _ _ λH4 s4=>?_;have s5:=s1.trans s4;exact⟨s5 _ _ hDa,by rw[l5,l50];omega,n - (i+1),by omega,rfl,hlt,aj hD (sm.trans s5),aa,by rw[l82,l17];rfl⟩
 ·have e:i=n:=by omega
  subst e;exact .inl ⟨hst H sm,hq D H hD sm hDa⟩
section
variable {X:Cx}{scope:Scope}{cl:List (Str×Addr)}{C:Addr}{N':List Str}{fp:List Addr}{s:Shared}{H:Hp}
def i3:dl (aU X scope cl C N' fp s H) (.type "list") (R_call_list_of X.K):=ao (X:=aU X scope cl C N' fp s H)
end
mutual
inductive Dn (H:Hp):V->PyData->Prop where
 |non:Dn H .non .none
 |bl (b:Bool):Dn H (.bl b) (.bool b)
 |int (i:Int):Dn H (.int i) (.int i)
 |str (x:Str) (h:PyData.strOk x=true) (hl:x.length<=100000):Dn H (.str x) (.str x)
 |lst {a:Addr} {xs:List V} {ds:List PyData}:H a=some (.lst xs)->DnAll H xs ds->xs.length<=100000->Dn H (.ref a) (.list ds)
 |tup {a:Addr} {xs:List V} {ds:List PyData}:H a=some (.tup xs)->DnAll H xs ds->Dn H (.ref a) (.tuple ds)
inductive DnAll (H:Hp):List V->List PyData->Prop where
 |nil:DnAll H [] []
 |cons {x:V} {xs:List V} {d:PyData} {ds:List PyData}:Dn H x d->DnAll H xs ds->DnAll H (x::xs) (d::ds)
end
mutual
theorem Dn.same {H H':Hp}(s:Same H H'):∀{v:V} {d:PyData},Dn H v d->Dn H' v d
 |_,_, .non => .non
 |_,_, .bl b => .bl b
 |_,_, .int i => .int i
 |_,_, .str x h hl => .str x h hl
 |_,_, .lst e r l => .lst (s _ _ e) (DnAll.same s r) l
 |_,_, .tup e r => .tup (s _ _ e) (DnAll.same s r)
theorem DnAll.same {H H':Hp}(s:Same H H'):∀{vs:List V} {ds:List PyData},DnAll H vs ds->DnAll H' vs ds
 |_,_, .nil => .nil
 |_,_, .cons a b => .cons (Dn.same s a) (DnAll.same s b)
end
theorem DnAll.len {H:Hp}:∀{vs:List V} {ds:List PyData},DnAll H vs ds->vs.length=ds.length
 |_,_, .nil=>rfl
 |_,_, .cons _ b=>by rw[l9,l9,b.len]
def DnAll.get {H:Hp}:∀{vs:List V} {ds:List PyData} {i:Nat} {d:PyData},DnAll H vs ds->ds[i]? = some d->∃v,vs[i]? = some v/\Dn H v d
 |_,_,i,d, .nil,e=>by simp at e
 |_,_,0,d, .cons a b,e=>by cases e;exact⟨_,rfl,a⟩
 |_,_,i+1,d, .cons a b,e=>by
  obtain⟨v,h1,h2⟩:=b.get (i:=i) (by simpa using e);exact⟨v,by simpa using h1,h2⟩
def DnAll.getV {H:Hp}:∀{vs:List V} {ds:List PyData} {i:Nat} {v:V},DnAll H vs ds->vs[i]? = some v->∃d,ds[i]? = some d/\Dn H v d
 |_,_,i,d, .nil,e=>by simp at e
 |_,_,0,d, .cons a b,e=>by cases e;exact⟨_,rfl,a⟩
 |_,_,i+1,d, .cons a b,e=>by
  obtain⟨v,h1,h2⟩:=b.getV (i:=i) (by simpa using e);exact⟨v,by simpa using h1,h2⟩
theorem DnAll.app {H:Hp}:∀{vs us:List V} {ds es:List PyData},DnAll H vs ds->DnAll H us es->DnAll H (vs++us) (ds++es)
 |_,_,_,_, .nil,h=>h
 |_,_,_,_, .cons a b,h => .cons a (b.app h)
theorem DnAll.set {H:Hp}:∀{vs:List V} {ds:List PyData} (n:Nat) {v:V} {d:PyData},DnAll H vs ds->Dn H v d->DnAll H (vs.set n v) (ds.set n d)
 |_,_,_,_,_, .nil,_ => .nil
 |_,_,0,_,_, .cons _ b,h => .cons h b
 |_,_,n+1,_,_, .cons a b,h => .cons a (b.set n h)
def dif (H H':Hp):Hp:=λb=>match H b with |none=>H' b |some _=>none
def am {H H':Hp}{b:Addr}(h:H b=none):dif H H' b=H' b:=by unfold dif;rw[h]
def bg {H H':Hp}{b:Addr}(h:H b≠none):dif H H' b=none:=by
 unfold dif;cases e:H b with
 |none=>exact absurd e h
 |some o=>rfl
def bv {H H':Hp}{b:Addr}{o:HO}(h:dif H H' b=some o):H b=none/\H' b=some o:=by
 cases e:H b with
 |none=>rw[am e] at h;exact⟨rfl,h⟩
 |some o=>rw[bg (by rw[e];simp)] at h;cases h
def dif_same {H H':Hp}:Same (dif H H') H':=λb o h=>(bv h).2
def aX {H H1 H2 H3:Hp}(a:Same H H1)(b:Same H2 H3):Same (dif H1 H2) (dif H H3):=λc o h=>by
 obtain⟨h1,h2⟩:=bv h;rw[am (a.free h1)];exact b _ _ h2
def Dn.out {H H':Hp}{v:V}{d:PyData}(h:Dn (dif H H') v d):Dn H' v d:=h.same dif_same
inductive Off (W:Addr->Prop)(H:Hp)(v:V)(d:PyData):Prop
 |mk (G)(_:Same G H)(_:∀b,W b->G b=none)(_:Dn G v d)
def Off.new {W:Addr->Prop}{H H':Hp}{v:V}{d:PyData}(h:Dn (dif H H') v d)(hW:∀b,W b->H b≠none):Off W H' v d:=⟨dif H H',dif_same,λb hb=>bg (hW b hb),h⟩
inductive Offs (W:Addr->Prop)(H:Hp)(vs:List V)(ds:List PyData):Prop
 |mk (G)(_:Same G H)(_:∀b,W b->G b=none)(_:DnAll G vs ds)
def Offs.sameW {W:Addr->Prop}{H H':Hp}{v:List V}{d:List PyData}(h:Offs W H v d)(s:∀b o,¬ W b->H b=some o->H' b=some o):Offs W H' v d:=
 let ⟨G,a,b,k⟩:=h;⟨G,λc o e=>s c o (λz=>by rw[b c z] at e;cases e) (a c o e),b,k⟩
def Offs.same {W:Addr->Prop}{H H':Hp}{v:List V}{d:List PyData}(h:Offs W H v d)(s:Same H H'):Offs W H' v d:=h.sameW λb o _ e=>s b o e
def Offs.upd {W:Addr->Prop}{H:Hp}{v:List V}{d:List PyData}{p:Addr}{o:HO}(h:Offs W H v d)(hp:W p):Offs W (L2.upd H p o) v d:=h.sameW λb u n e=>(ad (show b≠p from λz=>n (z▸hp))).trans e
def both (G1 G2:Hp):Hp:=λb=>match G1 b with |none=>G2 b |some o=>some o
def ug {G1 G2:Hp}:Same G1 (both G1 G2):=λb o h=>by unfold both;rw[h]
def uh {G1 G2 H:Hp}(a:Same G1 H)(c:Same G2 H):Same G2 (both G1 G2):=λb o h=>by
 unfold both;cases e:G1 b with
 |none=>exact h
 |some u=>
  have h1:=a _ _ e;rw[c _ _ h] at h1;exact h1.symm
def pO {G1 G2 H:Hp}(a:Same G1 H)(c:Same G2 H):Same (both G1 G2) H:=λb o h=>by
 unfold both at h;cases e:G1 b with
 |none=>rw[e] at h;exact c _ _ h
 |some u=>rw[e] at h;cases h;exact a _ _ e
def Offs.nil {W:Addr->Prop}{H:Hp}:Offs W H [] []:=⟨λ_=>none,(λ_ _ h=>nomatch h),(λ_ _=>rfl), .nil⟩
def Offs.snoc {W:Addr->Prop}{H:Hp}{vs:List V}{ds:List PyData}{v:V}{d:PyData}(h:Offs W H vs ds)(k:Off W H v d):Offs W H (vs++[v]) (ds++[d]):=by
 obtain⟨G1,a1,b1,k1⟩:=h;obtain⟨G2,a2,b2,k2⟩:=k;refine⟨both G1 G2,pO a1 a2,λb hb=>?_,(k1.same ug).app (.cons (k2.same (uh a1 a2)) .nil)⟩;unfold both;rw[b1 b hb];exact b2 b hb
def Offs.len {W:Addr->Prop}{H:Hp}{vs:List V}{ds:List PyData}(h:Offs W H vs ds):vs.length=ds.length:=let ⟨_,_,_,c⟩:=h;c.len
def tLit (d:PyData):TE:=λ_ H Q=>∀v H',Same H H'->Dn (dif H H') v d->Q v H'
def sJ (ds:List PyData):TA:=λ_ H Q=>∀vs H',Same H H'->DnAll (dif H H') vs ds->Q vs H'
section
variable {X:Cx}{e:Expr}{es:List Expr}{te te':TE}{t t':TA}{d:PyData}{ds:List PyData}{pos:Pos}
def XE.imp (h:XE X e te)(k:∀σ H Q,te' σ H Q->te σ H Q):XE X e te':=⟨λw9 s σ H Q I q=>h.h w9 s σ H Q I (k σ H Q q)⟩
def XA.imp (h:XA X es t)(k:∀σ H Q,t' σ H Q->t σ H Q):XA X es t':=⟨λpos w9 s σ H Q I q=>h.h pos w9 s σ H Q I (k σ H Q q)⟩
def xV {y:Str}{j:Nat}(h:(PyData.strOk y&&decide (y.length<=100000))=true):XE X (.Constant (.str y) j pos) (tLit (.str y)):=by
 rw[Bool.and_eq_true] at h;exact xstr.imp λ_ H Q q=>q _ H (Same.refl _) (.str y h.1 (of_decide_eq_true h.2))
def xW {i:Int}{j:Nat}:XE X (.Constant (.int i) j pos) (tLit (.int i)):=xint.imp λ_ H Q q=>q _ H (Same.refl _) (.int i)
def zq {b:Bool}{j:Nat}:XE X (.Constant (.bool b) j pos) (tLit (.bool b)):=xbl.imp λ_ H Q q=>q _ H (Same.refl _) (.bl b)
def xX {j:Nat}:XE X (.Constant .none j pos) (tLit .none):=xnon.imp λ_ H Q q=>q _ H (Same.refl _) .non
def xls0:XA X [] (sJ []):=xa0.imp λ_ H Q q=>q [] H (Same.refl _) .nil
def xlsc (a:XE X e (tLit d))(b:XA X es (sJ ds))(h:bY e=false:=by rfl):XA X (e::es) (sJ (d::ds)):=
 (xac a b h).imp λ_ H Q q v H1 s1 k1 vs H2 s2 k2=>q (v::vs) H2 (s1.trans s2) (.cons (k1.same (aX (Same.refl _) s2)) (k2.same (aX s1 (Same.refl _))))
def ui (a:XA X es (sJ ds))(h:ds.length<=1000:=by decide):XE X (.List es pos) (tLit (.list ds)):=by
 refine(xlst a).imp λ_ H Q q vs H1 s1 k1=>⟨?_,λl hl=>q _ _ (s1.trans (ac hl _)) (.lst (by rw[am (s1.free hl),aa]) (k1.same (aX (Same.refl _) (ac hl _))) (by rw[k1.len];omega))⟩;rw[k1.len,sizeLine_eq];omega
end
def tyD:PyData->String
 | .none=>"NoneType"
 | .bool _=>"bool"
 | .int _=>"int"
 | .str _=>"str"
 | .list _=>"list"
 | .tuple _=>"tuple"
 | .dict _=>"dict"
theorem Dn.ty {K:Frag}{H:Hp}{v:V}{d:PyData}:Dn H v d->TyOf K H v (.type (tyD d))
 | .non => .non
 | .bl b => .bl b
 | .int i => .int i
 | .str x h _ => .str x
 | .lst e r _ => .lst e
 | .tup e r => .tup e
def xY (K:Frag)(d:PyData):(kitOne K (.type (tyD d)) (.type "str")=some (tyD d=="str"))/\(kitOne K (.type (tyD d)) (.type "list")=some (tyD d=="list"))/\(kitOne K (.type (tyD d)) (.type "tuple")=some (tyD d=="tuple")):=by
 cases d <;> refine⟨?_,?_,?_⟩ <;> with_unfolding_all rfl
section
variable {X:Cx}{k:Nat}{x:Str}{ps:List Str}{sp:Sp}{e:Expr}{p pos:Pos}
section
variable {scope:Scope}{cl:List (Str×Addr)}{C:Addr}{N':List Str}{fp:List Addr}{s:Shared}{H:Hp}{o:Expr}{ta:TE}{t:TA}{m:Str}{w4:Pos}{es:List Expr}
def vp {pl:Sem Bool}(he:XE (aU X scope cl C N' fp s H) o ta)(hr:Room k X.A)
  (ht : eval (.Call (.Attribute o m w4) [] [] pos) (aU X scope cl C N' fp s H).env = (do
   let ov ← eval o (aU X scope cl C N' fp s H).env
   standAt w4.atName
   let (f,first) ← holding [ov] (getMethod ov m pl)
   callWith pos f first (backTo pos (starEach [] (aU X scope cl C N' fp s H).env)) (backToKw pos (keywordEach [] (aU X scope cl C N' fp s H).env))):=by rfl):
  XE (aU X scope cl C N' fp s H) (.Call (.Attribute o m w4) [] [] pos) (tMethV X k m ta tNil):=xmV0 (X:=aU X scope cl C N' fp s H) (pl:=pl) he hr ht
end
inductive rIsC (K:Frag)(xs:List V)(H:Hp)(Q:VK):Prop
 |mk (x t C b)(_:xs=[x, .ref C])(_:TyOf K H x t)(_:kitOne K t (.ref C)=some b)(_:Q (.bl b) H)
def fT:dl X (.builtin "isinstance") (rIsC X.K):=by
 intro w9 s σ H xs us Q I r h;obtain⟨v,t,C,b,rfl,ht,hk,q⟩:=h;obtain⟨u,u2,rfl,rx,rv⟩:=r.two;cases (show u2=Value.ref C from rv);exact wpAny_with_toks (n:=1) I.tk (jI I rx ht hk λtk htk=>⟨.bl b,H,I.tok _ htk,rfl,q⟩)
end
end L2
namespace Lw
open PySem L2 Lm PySem.Builtin.Str
inductive P1 where
 |plain (s:Str)
 |code (s:Str)
 |link (w n:Str)
 |note (n:Str)
inductive PC where
 |one (p:P1)
 |strong (ps:List P1)
abbrev gH:Str:="plain"
abbrev lM:Str:="code"
abbrev cU:Str:="strong"
abbrev i4:Str:="link"
abbrev ij:Str:="note"
def d1:P1->PyData
 | .plain s => .tuple [.str gH, .str s]
 | .code s => .tuple [.str lM, .str s]
 | .link w n => .tuple [.str i4, .str w, .str n]
 | .note n => .tuple [.str ij, .str n]
def dP:PC->PyData
 | .one p=>d1 p
 | .strong ps => .tuple [.str cU, .list (ps.map d1)]
def one? : PC->Option P1
 | .one p=>some p
 | .strong _=>none
def ones:List PC->List P1:=λps=>ps.filterMap one?
structure Cp where
 Part:Addr
 Plain:Addr
 Code:Addr
 Strong:Addr
 Link:Addr
 Mark:Addr
def StrG (x:Str):Prop:=PyData.strOk x=true/\x.length<=100000
def StrG.dn {H:Hp}{x:Str}(h:StrG x):Dn H (.str x) (.str x) := .str x h.1 h.2
def P1At (c:Cp)(H:Hp)(a:Addr):P1->Prop
 | .plain s=>StrG s/\∃dx,H a=some (.ins c.Plain dx [("signs", .str s)])
 | .code s=>StrG s/\∃dx,H a=some (.ins c.Code dx [("signs", .str s)])
 | .link w n=>StrG w/\StrG n/\∃dx,H a=some (.ins c.Link dx [("words", .str w),("name", .str n)])
 | .note n=>StrG n/\∃dx,H a=some (.ins c.Mark dx [("name", .str n)])
def P1s (c:Cp)(H:Hp):List Addr->List P1->Prop
 | [],[]=>True
 |a::as,p::ps=>P1At c H a p/\P1s c H as ps
 |_,_=>False
def PCAt (c:Cp)(H:Hp)(a:Addr):PC->Prop
 | .one p=>P1At c H a p
 | .strong ps=>∃dx l as,H a=some (.ins c.Strong dx [("parts", .ref l)])/\H l=some (.lst (as.map V.ref))/\P1s c H as ps
def PCs (c:Cp)(H:Hp):List Addr->List PC->Prop
 | [],[]=>True
 |a::as,p::ps=>PCAt c H a p/\PCs c H as ps
 |_,_=>False
theorem P1At.same {c:Cp}{H H':Hp}{a:Addr}(s:Same H H'):∀{p:P1},P1At c H a p->P1At c H' a p
 | .plain _,⟨g,dx,e⟩=>⟨g,dx,s _ _ e⟩
 | .code _,⟨g,dx,e⟩=>⟨g,dx,s _ _ e⟩
 | .link _ _,⟨g,g2,dx,e⟩=>⟨g,g2,dx,s _ _ e⟩
 | .note _,⟨g,dx,e⟩=>⟨g,dx,s _ _ e⟩
theorem P1s.same {c:Cp}{H H':Hp}(s:Same H H'):∀{as:List Addr} {ps:List P1},P1s c H as ps->P1s c H' as ps
 | [],[],_=>trivial
 |_::_,_::_,⟨a,b⟩=>⟨a.same s,b.same s⟩
theorem PCAt.same {c:Cp}{H H':Hp}{a:Addr}(s:Same H H'):∀{p:PC},PCAt c H a p->PCAt c H' a p
 | .one _,h=>P1At.same s h
 | .strong _,⟨dx,l,as,e1,e2,r⟩=>⟨dx,l,as,s _ _ e1,s _ _ e2,r.same s⟩
theorem PCs.same {c:Cp}{H H':Hp}(s:Same H H'):∀{as:List Addr} {ps:List PC},PCs c H as ps->PCs c H' as ps
 | [],[],_=>trivial
 |_::_,_::_,⟨a,b⟩=>⟨a.same s,b.same s⟩
theorem PCs.len {c:Cp}{H:Hp}:∀{as:List Addr} {ps:List PC},PCs c H as ps->as.length=ps.length
 | [],[],_=>rfl
 |_::_,_::_,⟨_,b⟩=>by rw[l9,l9,b.len]
theorem P1s.len {c:Cp}{H:Hp}:∀{as:List Addr} {ps:List P1},P1s c H as ps->as.length=ps.length
 | [],[],_=>rfl
 |_::_,_::_,⟨_,b⟩=>by rw[l9,l9,b.len]
theorem PCs.get {c:Cp}{H:Hp}:∀{as:List Addr} {ps:List PC} {i:Nat} {a:Addr},PCs c H as ps->as[i]? = some a->∃p,ps[i]? = some p/\PCAt c H a p
 | [],[],_,_,_,e=>by simp at e
 |_::_,_::_,0,_,⟨h,_⟩,e=>by cases e;exact⟨_,rfl,h⟩
 |_::_,_::_,i+1,_,⟨_,b⟩,e=>by
  obtain⟨p,h1,h2⟩:=b.get (i:=i) (by simpa using e);exact⟨p,by simpa using h1,h2⟩
theorem PCs.ones {c:Cp}{H:Hp}:∀{as:List Addr} {ps:List PC},PCs c H as ps->(∀p∈ps,one? p≠none)->P1s c H as (Lw.ones ps)
 | [],[],_,_=>trivial
 |a::as, .one p::ps,⟨h,r⟩,k=>⟨h,r.ones λq hq=>k q (l15 _ hq)⟩
 |a::as, .strong q::ps,⟨h,r⟩,k=>absurd rfl (k (.strong q) l10)
structure Inst (K:Frag)(C:Addr):Prop where
 cls:Cls K C
 ha:findIn K (.ref C) "__class__"=some (some (.builtin "object.__class__"))
 hn:specialIn K (.builtin "object.__class__") "__get__"=some (some (.builtin "getset_descriptor.__get__"))
 htk:takesIn K (.builtin "object.__class__")=some true
 hm:mroIn K C (.type "object")=some true
def Inst.ty {K:Frag}{C:Addr}(i:Inst K C){H:Hp}{a dx:Addr}{fs:List (Str×V)}(e:H a=some (.ins C dx fs)):TyOf K H (.ref a) (.ref C) := .ins e i.cls i.ha i.hn i.htk i.hm
end Lw
namespace L2
open PySem PySem.Spec PyProof.Rows
def Offs.toDif {H0 H:Hp}{W:Addr->Prop}{vs:List V}{ds:List PyData}(h:Offs W H vs ds)(hW:∀b,H0 b≠none->W b):DnAll (dif H0 H) vs ds:=by
 obtain⟨G,a,b,k⟩:=h;refine k.same λc o e=>?_;have:H0 c=none:=Classical.byContradiction λz=>by rw[b c (hW c z)] at e;cases e
 rw[am this];exact a _ _ e
def fk {K:Frag}{a:Addr}{xs:List V}{k:Nat}{fr:List Nat}{g:TG}{tt:TT}{te:TE}{σ:St}{H0:Hp}{Q:Addr->Hp->Prop}(f:Nat->PyData)(hx:SqL K H0 a xs)(hl:xs.length<=100000)
  (ht:∀(i:Nat) x,xs[i]? = some x->∀H',Same H0 H'->∀(C:V->Hp->Prop)(N:Hp->Prop),(∀v H4,Same H' H4->Dn (dif H' H4) v (f i)->C v H4) →
   g x (nfS k fr σ) H' λσ2 H2=>nfLe k fr σ σ2/\tt σ2 H2 λb H3=>if b=true then te σ2 H3 C else N H3)
  (hq:∀D H',H0 D=none->Same H0 H'->Dn (dif H0 H') (.ref D) (.list ((List.range xs.length).map f))->Q D H'):rLC k fr g tt te σ (Itl K a) H0 Q:=by
 intro D hD;refine⟨λi m acc H=>m=xs.length - i/\i<=xs.length/\Same H0 H/\H D=some (.lst acc)/\Offs (λb=>b=D ∨ H0 b≠none) H acc ((List.range i).map f),⟨xs.length,by simp,l16 _,ac hD _,aa, .nil⟩,?_⟩;rintro i m acc H ⟨rfl,hi,sm,hDa,hof⟩;refine⟨hDa,?_⟩;have hal:acc.length=i:=by rw[hof.len,l5,l50]
 by_cases hlt:i < xs.length
 ·refine .inr ⟨⟨xs,xs[i],sm.seq hx,by simp[hlt]⟩,λx H' y=>?_⟩;obtain⟨e,y⟩:=y;rw[e];refine ht i x (y xs (sm.seq hx)) _ sm _ _ λv H4 s4 dv=>?_;have o4:Off (λb=>b=D ∨ H0 b≠none) H4 v (f i):=Off.new dv λb hb=>by
   rcases hb with rfl |hb
   ·rw[hDa];simp
   ·cases q:H0 b with
    |none=>exact absurd q hb
    |some o=>rw[sm _ _ q];simp
  refine⟨s4 _ _ hDa,by rw[sizeLine_eq];omega,xs.length - (i+1),by omega,rfl,hlt,aj hD (sm.trans s4),aa,?_⟩;rw[l82,l17];exact((hof.same s4).snoc o4).upd (.inl rfl)
 ·have e:i=xs.length:=by omega
  subst e;exact .inl ⟨⟨xs,sm.seq hx,l7 _⟩,hq D H hD sm (.lst (by rw[am hD];exact hDa) (hof.toDif λb hb => .inr hb) nofun)⟩
end L2
namespace Lw
open PySem L2 Lm
def vq {t:TT}{f u:TS}{D:Ends}{σ:St}{H:Hp}(ht:Tells t σ H false)(k:∀H',Same H H'->u D σ H'):tSeq (tIfS t f aY) u D σ H:=s_if false ht (λ_ _ z=>Bool.noConfusion z) (λH' s' _=>k H' s')
def xZ {K:Frag}{σ:St}{H:Hp}{ta:TE}{v:V}{d:PyData}{T:String}{b:Bool}(ev:Ev ta σ H v)(h:Dn H v d)(hb:kitOne K (.type (tyD d)) (.type T)=some b):Tells (tB (tCB (rIsT K) (tCons ta (tCons (tC (.ty T)) tNil)))) σ H b:=
 λR k=>ev _ ⟨_,_,_,_,rfl,h.ty,hb,_,rfl,k _ (Same.refl _)⟩
def ik {σ : St} {H : Hp} {ta tb : TE} {x y : Str} (h1 : Ev ta σ H (.str x)) (h2 : Ev tb σ H (.str y)) : Tells (tTest (tOp rEq ta tb)) σ H (decide (x = y)) := fun R k => h1 _ (h2 _ ⟨rfl,_,rfl,by
 rw[show decide (V.str x=V.str y)=decide (x=y) by rw[decide_eq_decide];exact⟨λz=>V.str.inj z,λz=>by rw[z]⟩];exact k _ (Same.refl _)⟩)
theorem P1s.toC {c:Cp}{H:Hp}:∀{as:List Addr} {ps:List P1},P1s c H as ps->PCs c H as (ps.map .one)
 | [],[],_=>trivial
 |_::_,_::_,⟨a,b⟩=>⟨a,b.toC⟩
inductive spTolds (c:Cp)(R:PC->Prop)(vs:List V)(H:Hp)(Q:VK)(u3:XK):Prop
 |mk (l:Addr)(as:List Addr)(ps:List PC)(_:vs=[.ref l])(_:H l=some (.lst (as.map V.ref)))(_:PCs c H as ps)(_:∀p∈ps,R p)(_:as.length<=100000)(_:∀r H',Same H H'->Dn (dif H H') (.ref r) (.list (ps.map dP))->Q (.ref r) H')
inductive spTold (c:Cp)(R:PC->Prop)(vs:List V)(H:Hp)(Q:VK)(u3:XK):Prop
 |mk (a p)(_:vs=[.ref a])(_:PCAt c H a p)(_:R p)(_:∀v H',Same H H'->Dn (dif H H') v (dP p)->Q v H')
def vt (P:Program)(w:World)(K:Frag)(mg:Str->Option Value)(base:Heap)(k:Nat)(c:Cp)(R:PC->Prop):Prop:=
 ∀p,R p->∀H a,PCAt c H a p->∃C dx fs sp,H a=some (.ins C dx fs)/\fs.lookup ("told":Str)=none/\MethV P w K mg base k C "told" ["self"] sp/\∀Q E,(∀v H',Same H H'->Dn (dif H H') v (dP p)->Q v H')->sp [.ref a] H Q E
def eg {K:Frag}{σ:St}{H:Hp}{ta tb:TE}{p:Addr}{xs:List V}{i:Int}{v:V}(h:Ev ta σ H (.ref p))(hi:Ev tb σ H (.int i))(hq:SqT K H p xs)(e:atI xs i=some v):Ev (tOp (rIxT K) ta tb) σ H v:=λR r=>h _ (hi _ ⟨p,xs,i,v,rfl,rfl,hq,e,r⟩)
def ko {K:Frag}{σ:St}{H:Hp}{ta tb:TE}{p:Addr}{xs:List V}{i:Int}{v:V}(h:Ev ta σ H (.ref p))(hi:Ev tb σ H (.int i))(hq:SqL K H p xs)(e:atI xs i=some v):Ev (tOp (rIxL K) ta tb) σ H v:=λR r=>h _ (hi _ ⟨p,xs,i,v,rfl,rfl,hq,e,r⟩)
def t_bv {σ:St}{H:Hp}{ta:TE}{b:Bool}(ev:Ev ta σ H (.bl b)):Tells (tB ta) σ H b:=λR k=>ev _ ⟨_,rfl,k _ (Same.refl _)⟩
def Tells.eq {t:TT}{σ:St}{H:Hp}{a b:Bool}(h:Tells t σ H a)(e:a=b):Tells t σ H b:=e▸h
def kinds:gH≠lM/\gH≠ij/\gH≠cU/\lM≠ij/\lM≠cU/\ij≠cU/\gH≠i4/\lM≠i4/\ij≠i4/\cU≠i4:=by decide
end Lw
namespace K12
open PySem L2 Lm Lw
variable {P:Program}{w:World}{K:Frag}{mg:Str->Option Value}{base:Heap}
abbrev p6:List Str:=["_law_told","_law_lists"]
abbrev p7:List Str:=["self","worker"]
abbrev p8:List Str:=["_law_script","_law_tape","_law_many"]
abbrev p9:List Str:=["_law_script","_law_tape","_law_names_here"]
abbrev p10:List Str:=["_law_script","_law_tape","_law_names_here","_law_room"]
abbrev p11:List Str:=["self","signs"]
abbrev p12:List Str:=["_law_found","_law_gives"]
abbrev p13:List Str:=["self","parts"]
abbrev p14:List Str:=["_law_script","_law_tape","_law_names_here","_law_room","_law_many"]
abbrev p15:List Str:=["_law_found","_law_due"]
abbrev p16:List Str:=["_law_script","_law_tape"]
abbrev p17:List Str:=["_law_some_here","_law_lists"]
abbrev p18:List Str:=["entries","ahead"]
abbrev p19:List Str:=["_law_one","_law_other"]
abbrev p20:List Str:=["_law_one","_law_lists"]
abbrev p21:List Str:=["text","place"]
abbrev p22:List Str:=["self","lines"]
abbrev p23:List Str:=["self","blocks"]
abbrev p24:List Str:=["self","sign","parts","entries"]
abbrev p25:List Str:=["_law_script","_law_tape","_law_size","_law_is_code"]
abbrev p26:List Str:=["_law_script","_law_tape","_law_names_here","_law_many","_law_is_inner"]
abbrev p27:List Str:=["_law_script","_law_tape","_law_names_here","_law_before","_law_is_inner"]
abbrev p28:List Str:=["self","words","name"]
abbrev p29:List Str:=["self","entries"]
abbrev p30:List Str:=["self","level","parts"]
abbrev p31:List Str:=["self","name","parts"]
abbrev p32:List Str:=["self","name","target"]
abbrev p33:List Str:=["self","head","sides","lines"]
abbrev p34:List Str:=["_law_script","_law_tape","_law_names_here","_law_many"]
abbrev p35:List Str:=["_law_block_here","_law_due"]
abbrev p36:List Str:=["_law_blocks_here","_law_trees","_law_gives"]
def top (i:Nat):Stmt:=PySem.Challenge.pw_lightmark_k12_blocks_walked.main.body.getD i (.Pass ⟨0,0,0,0⟩)
def vv (s:Stmt):List Stmt:=match s with
 | .ClassDef _ _ _ b _ _ _ _ _ _ _=>b
 |_=>[]
abbrev meth (i j:Nat):Stmt:=(vv (top i)).getD j (.Pass ⟨0,0,0,0⟩)
def cq {f u:TS}{D:Ends}{σ:St}{H:Hp}(J:St->Hp->Prop)(h:∀N:St->Hp->Prop,(∀σ' H',J σ' H'->N σ' H')->f { D with nx:=N } σ H) (k:∀σ' H',J σ' H'->u D σ' H'):tSeq f u D σ H:=h (u D) k
structure TxP (K:Frag)(mg:Str->Option Value)(c:Cp)(BT:Addr):Prop where
 u10:mg "list"=none
 g10:mg "len"=none
 q10:mg "isinstance"=none
 z11:mg "all"=none
 z14:mg "str"=none
 u12:mg "tuple"=none
 u15:∃t,mg "NAME_SIGNS"=some (.str (S nameSigns) t)
 g15:∃t,mg "LONGEST_NAME"=some (.int 12 t)
 q24:mg "BadName"=some (.ref BT)
 g26:OwnX K BT
 q20:mg "Plain"=some (.ref c.Plain)
 z16:Inst K c.Plain
 q16:Inst K c.Code
 u17:Inst K c.Strong
 z12:Inst K c.Link
 z17:Inst K c.Mark
 u21:NoAttr K c.Plain "signs"
 g21:NoAttr K c.Code "signs"
 z21:NoAttr K c.Strong "parts"
 q17:NoAttr K c.Link "words"
 q21:NoAttr K c.Link "name"
 u22:NoAttr K c.Mark "name"
 z26:kitOne K (.ref c.Plain) (.ref c.Plain)=some true
 q26:kitOne K (.ref c.Code) (.ref c.Plain)=some false
 u27:kitOne K (.ref c.Strong) (.ref c.Plain)=some false
 z27:kitOne K (.ref c.Link) (.ref c.Plain)=some false
 q27:kitOne K (.ref c.Mark) (.ref c.Plain)=some false
section
variable {c:Cp}{BT:Addr}
inductive spInit1 (C:Addr)(fl:Str)(vs:List V)(H:Hp)(Q:VK)(u3:XK):Prop
 |mk (x dx v)(_:vs=[.ref x,v])(_:H x=some (.ins C dx []))(_:Q .non (upd H x (.ins C dx [(fl,v)])))
inductive spInit2 (C:Addr)(fl gl:Str)(vs:List V)(H:Hp)(Q:VK)(u3:XK):Prop
 |mk (x dx v u)(_:vs=[.ref x,v,u])(_:H x=some (.ins C dx []))(_:Q .non (upd (upd H x (.ins C dx [(fl,v)])) x (.ins C dx [(fl,v),(gl,u)])))
inductive spInitS (C:Addr)(vs:List V)(H:Hp)(Q:VK)(u3:XK):Prop
 |mk (x dx l xs)(_:vs=[.ref x, .ref l])(_:H x=some (.ins C dx []))(_:H l=some (.lst xs))(_:∀p,H p=none->Q .non (upd (upd H p (.lst xs)) x (.ins C dx [("parts", .ref p)])))
abbrev fo:Stmt:=meth 4 0
abbrev gJ:Stmt:=meth 5 0
abbrev dI:Stmt:=meth 6 0
abbrev gK:Stmt:=meth 7 0
abbrev gM:Stmt:=meth 8 0
abbrev fq:Stmt:=meth 4 1
abbrev gN:Stmt:=meth 5 1
abbrev dJ:Stmt:=meth 6 1
abbrev gQ:Stmt:=meth 7 1
abbrev gR:Stmt:=meth 8 1
def kq (F:Fun K "__init__" "Plain.__init__" fo f fd)(T:TxP K mg c BT):FnOk P w K mg base CX0 1 f fd p11 (spInit1 c.Plain "signs"):=by
 have sc:FnScope p11 p11 (ab fo):=mkS;refine F.oks sc λH Q hr h=>?_;obtain⟨x,dx,v,rfl,e,q⟩:=h;refine ak (xb1 (aV (xv 0) (xv 1))) ?_;exact⟨_,rfl,_,rfl,x,_,dx,_,rfl,e,T.z16.cls,T.u21,by decide,q⟩
def lN (F:Fun K "__init__" "Code.__init__" gJ f fd)(T:TxP K mg c BT):FnOk P w K mg base CX0 1 f fd p11 (spInit1 c.Code "signs"):=by
 have sc:FnScope p11 p11 (ab gJ):=mkS;refine F.oks sc λH Q hr h=>?_;obtain⟨x,dx,v,rfl,e,q⟩:=h;refine ak (xb1 (aV (xv 0) (xv 1))) ?_;exact⟨_,rfl,_,rfl,x,_,dx,_,rfl,e,T.q16.cls,T.g21,by decide,q⟩
def lO (F:Fun K "__init__" "Mark.__init__" gM f fd)(T:TxP K mg c BT):FnOk P w K mg base CX0 1 f fd ["self","name"] (spInit1 c.Mark "name"):=by
 have sc:FnScope ["self","name"] ["self","name"] (ab gM):=mkS;refine F.oks sc λH Q hr h=>?_;obtain⟨x,dx,v,rfl,e,q⟩:=h;refine ak (xb1 (aV (xv 0) (xv 1))) ?_;exact⟨_,rfl,_,rfl,x,_,dx,_,rfl,e,T.z17.cls,T.u22,by decide,q⟩
def lP (F:Fun K "__init__" "Link.__init__" gK f fd)(T:TxP K mg c BT):FnOk P w K mg base CX0 1 f fd p28 (spInit2 c.Link "words" "name"):=by
 have sc:FnScope p28 p28 (ab gK):=mkS;refine F.oks sc λH Q hr h=>?_;obtain⟨x,dx,v,u,rfl,e,q⟩:=h;refine ak (xbc (aV (xv 0) (xv 1))
  (xb1 (aV (xv 0) (xv 2)))) ?_
 refine⟨_,rfl,_,rfl,x,_,dx,_,rfl,e,T.z12.cls,T.q17,by decide,?_⟩;exact⟨_,rfl,_,rfl,x,_,dx,_,rfl,aa,T.z12.cls,T.q21,by show 1 < 1000;decide,q⟩
def i5 (F:Fun K "__init__" "Strong.__init__" dI f fd)(T:TxP K mg c BT):FnOk P w K mg base CX0 1 f fd p13 (spInitS c.Strong):=by
 have sc:FnScope p13 p13 (ab dI):=mkS;refine F.oks sc λH Q hr h=>?_;obtain⟨x,dx,l,xs,rfl,e,el,q⟩:=h;refine ak (xb1 (aV (xv 0) (xcTy ao T.u10 rfl (xac (xv 1) xa0)))) ?_;exact⟨_,rfl,l,_,rfl, .inl (SqL.of el),λp hp=>⟨_,rfl,x,_,dx,_,rfl,ac hp _ _ _ e,T.u17.cls,T.z21,by decide,q p hp⟩⟩
def R1 (p:PC):Prop:=one? p≠none
def kr (F:Fun K "told" "Plain.told" fq f fd)(T:TxP K mg c BT):FnOk P w K mg base CX0 1 f fd ["self"] (spTold c λp=>∃s,p = .one (.plain s)):=by
 have sc:FnScope ["self"] ["self"] (ab fq):=mkS;refine F.oks sc λ{_ _ _ s _ _}H Q hr h=>?_;obtain⟨a,p,rfl,ha,⟨s,rfl⟩,q⟩:=h;obtain⟨g,dx,e⟩:=ha;refine ak (xb1 (xret (xtup (xac xstr (xac (xfld (xv 0)) xa0))))) ?_;exact⟨_,rfl,a,_,dx,_,_,rfl,e,T.z16.cls,T.u21,rfl,bg2,λp hp=>q _ _ (ac hp _) (.tup (by rw[am hp,aa]) (.cons (.str _ ∅ ∅) (.cons g.dn .nil)))⟩
def lQ (F:Fun K "told" "Code.told" gN f fd)(T:TxP K mg c BT):FnOk P w K mg base CX0 1 f fd ["self"] (spTold c λp=>∃s,p = .one (.code s)):=by
 have sc:FnScope ["self"] ["self"] (ab gN):=mkS;refine F.oks sc λ{_ _ _ s _ _}H Q hr h=>?_;obtain⟨a,p,rfl,ha,⟨s,rfl⟩,q⟩:=h;obtain⟨g,dx,e⟩:=ha;refine ak (xb1 (xret (xtup (xac xstr (xac (xfld (xv 0)) xa0))))) ?_;exact⟨_,rfl,a,_,dx,_,_,rfl,e,T.q16.cls,T.g21,rfl,bg2,λp hp=>q _ _ (ac hp _) (.tup (by rw[am hp,aa]) (.cons (.str _ ∅ ∅) (.cons g.dn .nil)))⟩
def lR (F:Fun K "told" "Mark.told" gR f fd)(T:TxP K mg c BT):FnOk P w K mg base CX0 1 f fd ["self"] (spTold c λp=>∃s,p = .one (.note s)):=by
 have sc:FnScope ["self"] ["self"] (ab gR):=mkS;refine F.oks sc λ{_ _ _ s _ _}H Q hr h=>?_;obtain⟨a,p,rfl,ha,⟨s,rfl⟩,q⟩:=h;obtain⟨g,dx,e⟩:=ha;refine ak (xb1 (xret (xtup (xac xstr (xac (xfld (xv 0)) xa0))))) ?_;exact⟨_,rfl,a,_,dx,_,_,rfl,e,T.z17.cls,T.u22,rfl,bg2,λp hp=>q _ _ (ac hp _) (.tup (by rw[am hp,aa]) (.cons (.str _ ∅ ∅) (.cons g.dn .nil)))⟩
def lS (F:Fun K "told" "Link.told" gQ f fd)(T:TxP K mg c BT):FnOk P w K mg base CX0 1 f fd ["self"] (spTold c λp=>∃s n,p = .one (.link s n)):=by
 have sc:FnScope ["self"] ["self"] (ab gQ):=mkS;refine F.oks sc λ{_ _ _ s _ _}H Q hr h=>?_;obtain⟨a,p,rfl,ha,⟨s,n,rfl⟩,q⟩:=h;obtain⟨g,g2,dx,e⟩:=ha;refine ak (xb1 (xret (xtup (xac xstr (xac (xfld (xv 0)) (xac (xfld (xv 0)) xa0)))))) ?_;exact⟨_,rfl,a,_,dx,_,_,rfl,e,T.z12.cls,T.q17,rfl,_,rfl,a,_,dx,_,_,rfl,e,T.z12.cls,T.q21,rfl,bg3,λp hp=>q _ _ (ac hp _) (.tup (by rw[am hp,aa]) (.cons (.str _ ∅ ∅) (.cons g.dn (.cons g2.dn .nil))))⟩
abbrev pP:Stmt:=top 10
def nZ (ps:List PC):(List.range ps.length).map (λi=>dP (ps.getD i (.one (.note ""))))=ps.map dP:=by
 apply List.ext_getElem?;intro i;rw[List.getElem?_map,List.getElem?_map];by_cases hi:i < ps.length
 ·rw[List.getElem?_range hi,List.getElem?_eq_getElem hi];simp only[Option.map_some,l33,List.getElem?_eq_getElem hi,Option.getD_some]
 ·rw[List.getElem?_eq_none (by rw[l50];omega),List.getElem?_eq_none nofun];rfl
def mM {k:Nat}{R:PC->Prop}(F:Fun K "told_parts" "told_parts" pP f fd)(hM:vt P w K mg base k c R):FnOk P w K mg base CX0 (k+1) f fd ["parts"] (spTolds c R):=by
 have sc:FnScope ["parts"] ["parts"] (ab pP):=mkS;refine F.oks sc λH Q hr h=>?_;obtain⟨l,as,ps,rfl,el,hps,hR,hl,q⟩:=h;refine ak (xb1 (xret (xlc0 (own:=["part"])
  (xil (xv 0))
  (λ_ _ _ _=>xgm (i:=0) (show (["part"]:List Str).Nodup by decide)) (λ_ _ _ _=>xq0) (λ_ _ _ _=>(vp (k:=k) (xv 0) hr.mono))))) ?_
 refine⟨_,rfl,l,rfl,⟨_,SqL.of el⟩,?_⟩;have w6:=hps.len;refine fk (λi=>dP (ps.getD i (.one (.note "")))) (SqL.of el) (by rw[l5];exact hl) ?_ ?_
 ·intro i x hx H2 s2 C N hC;rw[List.getElem?_map] at hx;cases hai:as[i]? with
  |none=>rw[hai] at hx;cases hx
  |some a=>
  rw[hai] at hx;cases hx;obtain⟨p,hp1,hp2⟩:=hps.get hai;obtain⟨Cc,dx,fs,sp,e1,e2,V,hsp⟩:=hM p (hR p (l18 hp1)) H2 a (hp2.same s2);refine⟨(nfLe.refl _ _ _).set ∅ _,iteT (B:=N H2) ⟨_,rfl,a,Cc,dx,fs,_,sp,rfl,e1,e2,V,hsp _ _ λv H4 s4 d4=>hC v H4 s4 ?_⟩⟩;rw[l33,hp1];exact d4
 ·intro D H2 hD s2 dD;refine q D H2 s2 ?_;rw[l5,w6,nZ] at dD;exact dD
def i6 {k:Nat}(F:Fun K "told" "Strong.told" dJ f fd)(T:TxP K mg c BT)(Dc:Def P w K mg base k "told_parts" ["parts"] (spTolds c R1)):FnOk P w K mg base CX0 (k+1) f fd ["self"] (spTold c λp=>∃ps,p = .strong ps/\ps.length<=100000):=by
 have sc:FnScope ["self"] ["self"] (ab dJ):=mkS;refine F.oks sc λH Q hr h=>?_;obtain⟨a,p,rfl,ha,⟨ps,rfl,hpl⟩,q⟩:=h;obtain⟨dx,l,as,e,el,hps⟩:=ha;refine ak (xb1 (xret (xtup (xac xstr (xac (xcd Dc hr (xac (xfld (xv 0)) xa0)) xa0))))) ?_;refine⟨_,rfl,a,_,dx,_,_,rfl,e,T.u17.cls,T.z21,rfl,l,as,ps.map .one,rfl,el,hps.toC,λp hp=>?_,by rw[hps.len];exact hpl,λr H1 s1 d1'=>⟨bg2,λt ht=>q _ _ (s1.trans (ac ht _)) ?_⟩⟩
 ·obtain⟨x,_,rfl⟩:=l23.mp hp;unfold R1;simp[one?]
 ·refine .tup (by rw[am (s1.free ht),aa]) (.cons (.str _ ∅ ∅) (.cons ?_ .nil));have:=d1'.same (aX (Same.refl H) (ac ht (.tup [V.str "strong", .ref r])));rw[l30] at this;exact this
end
end K12
namespace Lm
def escC (l:List Nat):List Nat:=bA [92,124] (aL 124 l)
def il (l:List Nat):Bool := !(l.takeWhile ([45]:List Nat).contains).isEmpty&&(l.dropWhile ([45]:List Nat).contains==[]||l.dropWhile ([45]:List Nat).contains==[58])
def pQ (l:List Nat):List Nat:=if l.getLast? = some 58 then l.dropLast else l
def sK (l:List Nat):il l=true ↔ pQ l≠[]/\∀c∈pQ l,c=45:=by
 have sp:l.takeWhile ([45]:List Nat).contains++l.dropWhile ([45]:List Nat).contains=l:=l61;have tw:∀c∈l.takeWhile ([45]:List Nat).contains,c=45:=by
  intro c hc;have:=List.all_takeWhile (p:=([45]:List Nat).contains) (l:=l);have:=l49.mp this c hc;simpa using this
 have dh:∀y t,l.dropWhile ([45]:List Nat).contains=y::t->y≠45:=by
  intro y t e hy;have:=List.head?_dropWhile_not ([45]:List Nat).contains l;rw[e] at this;simp[hy] at this
 have hr:il l=true ↔ l.takeWhile ([45]:List Nat).contains≠[]/\(l.dropWhile ([45]:List Nat).contains=[] ∨ l.dropWhile ([45]:List Nat).contains=[58]):=by
  unfold il;simp
 rw[hr];generalize l.takeWhile ([45]:List Nat).contains=a at *;generalize l.dropWhile ([45]:List Nat).contains=b at *;subst sp;unfold pQ;have ha:∀x,a.getLast? = some x->x=45:=λx hx=>tw x (List.mem_of_getLast? hx);cases b with
 |nil=>
  rw[l25,if_neg (λz=>by have:=ha _ z;omega)];exact⟨λh=>⟨h.1,tw⟩,λh=>⟨h.1, .inl rfl⟩⟩
 |cons y t=>
  have hy:=dh y t rfl;cases t with
  |nil=>
   rw[show (a++[y]).getLast? = some y from List.getLast?_concat];by_cases h:y=58
   ·subst h;rw[if_pos (by rfl),List.dropLast_concat];exact⟨λh=>⟨h.1,tw⟩,λh=>⟨h.1, .inr rfl⟩⟩
   ·rw[if_neg (by simpa using h)];constructor
    ·rintro⟨_,h1 |h1⟩
     ·cases h1
     ·exact absurd (by simpa using h1) h
    ·rintro⟨_,h2⟩;exact absurd (h2 y (by simp)) hy
  |cons z t=>
   constructor
   ·rintro⟨_,h1 |h1⟩
    ·cases h1
    ·simp at h1
   ·rintro⟨_,h2⟩;exfalso;apply hy;apply h2;split
    ·rw[List.dropLast_append_of_ne_nil (by simp)];simp
    ·simp
open PySem Builtin.Str
def x8 (l:List Nat)(c:Nat):Txt.endswith (S l) (S [c])=decide (l.getLast? = some c):=by
 unfold Txt.endswith;rw[lE,aw,aw,Nat.zero_add];rw[Bool.eq_iff_iff,Bool.and_eq_true,decide_eq_true_iff,decide_eq_true_iff,decide_eq_true_iff];rcases l83 l with rfl |⟨q,x,rfl⟩
 ·simp
 ·rw[l90,List.getLast?_concat,l6];show q.length+1 ≥ 1/\((q++[x]).drop (q.length+1 - 1)).take 1=[c] ↔ _;rw[l84,List.drop_left];simp
def ya (d:List Nat):d.dropWhile ([45]:List Nat).contains=[] ↔ ∀c∈d,c=45:=by
 induction d with
 |nil=>simp
 |cons x r ih=>
  by_cases h:x=45
  ·subst h;rw[List.dropWhile_cons_of_pos (by simp),ih];simp
  ·rw[List.dropWhile_cons_of_neg (by simpa using h)];simp[h]
def pR (d:List Nat):Txt.stripChars (S d) (S [45])=S [] ↔ ∀c∈d,c=45:=by
 have e:(S [45]).cps.contains=([45]:List Nat).contains:=by funext c;simp
 have tl:=congrArg List.length (l61 (p:=([45]:List Nat).contains) (l:=d));rw[l6] at tl;have hd:d.drop (d.takeWhile ([45]:List Nat).contains).length=d.dropWhile ([45]:List Nat).contains:=by
  conv=>lhs;arg 2;rw[<- l61 (p:=([45]:List Nat).contains) (l:=d)]
  rw[List.drop_left]
 unfold Txt.stripChars Txt.stripBy;rw[e];have h0:stripLo ([45]:List Nat).contains true (S d)=(d.takeWhile ([45]:List Nat).contains).length:=by simp[stripLo]
 have h1:stripHi ([45]:List Nat).contains true (S d) (d.takeWhile ([45]:List Nat).contains).length=d.length - ((d.dropWhile ([45]:List Nat).contains).reverse.takeWhile ([45]:List Nat).contains).length:=by
  unfold stripHi;rw[if_pos rfl,aw,gq,hd]
 have hz:((d.dropWhile ([45]:List Nat).contains).reverse.takeWhile ([45]:List Nat).contains).length<=(d.dropWhile ([45]:List Nat).contains).length:=by
  have:=(List.takeWhile_sublist (p:=([45]:List Nat).contains) (l:=(d.dropWhile ([45]:List Nat).contains).reverse)).length_le;rw[l80] at this;exact this
 constructor
 ·intro h;rw[<- ya];split at h
  ·have:=iX h;rw[this];rfl
  ·rw[stripped,h0,h1] at h;have h:=congrArg (λx:Str=>x.cps.size) h;unfold strSub at h;simp only[Array.size_extract,l27,l32] at h;rcases l83 (d.dropWhile ([45]:List Nat).contains) with q |⟨a,x,q⟩
   ·exact q
   ·exfalso;have hne:d.dropWhile ([45]:List Nat).contains≠[]:=by rw[q];simp
    have hlt:((d.dropWhile ([45]:List Nat).contains).reverse.takeWhile ([45]:List Nat).contains).length < (d.dropWhile ([45]:List Nat).contains).length:=by
     refine Nat.lt_of_le_of_ne hz λz=>?_;have j8:(d.dropWhile ([45]:List Nat).contains).reverse.takeWhile ([45]:List Nat).contains=(d.dropWhile ([45]:List Nat).contains).reverse:=
      (List.takeWhile_sublist (p:=([45]:List Nat).contains)).eq_of_length (by rw[z,l80])
     cases hw:d.dropWhile ([45]:List Nat).contains with
     |nil=>exact hne hw
     |cons y t=>
      have hy:y∈(d.dropWhile ([45]:List Nat).contains).reverse:=by rw[hw];simp
      rw[<- j8] at hy;have y1:=pp hy;have y2:=lJ hw;rw[y1] at y2;cases y2
    omega
 ·intro h;have q:=(ya d).mpr h;have tl':(d.takeWhile ([45]:List Nat).contains).length=d.length:=by rw[q] at tl;simpa using tl
  split
  ·rename_i hs;rw[stripSame,h0,tl'] at hs;rw[Bool.and_eq_true,beq_iff_eq] at hs;rw[l85 hs.1]
  ·rw[stripped,h0,h1,q];unfold strSub;rw[tl'];simp
end Lm
namespace L2
open PySem PySem.Spec PyProof.Rows
def vw {X:Cx}:OpR X (binaryOp .Mult) (rI IntMulOk λi j => .int (i * j)):=opI λ_ _ _ _ _ _ _ hc q=>mul_int q hc
end L2
namespace Lm
open PySem PySem.Builtin PySem.Builtin.Str PySem.StrLaws
end Lm
namespace Lw
open PySem L2 Lm PySem.Builtin.Str
def kd1:P1->Str
 | .plain _=>gH
 | .code _=>lM
 | .link _ _=>i4
 | .note _=>ij
def kdP:PC->Str
 | .one p=>kd1 p
 | .strong _=>cU
theorem mN:∀ps:List P1,ones (ps.map PC.one)=ps
 | []=>rfl
 |p::ps=>by
  have:=mN ps;unfold ones at this ⊢;rw[l20,l64,one?,this]
open PySem L2 Lm
end Lw
namespace L2
open PySem PySem.Spec PyProof.Rows
open Builtin Builtin.Str
end L2
namespace Lm
open PySem L2 Lw Builtin Builtin.Str
end Lm
namespace Lw
open PySem L2 Lm
def dq {l:List Nat}(h:Asc l)(hl:l.length<=100000):StrG (S l):=⟨vi h,by rw[aw];exact hl⟩
def pS {H H1:Hp}{x dx C:Addr}{o:HO}(s:Same H H1)(hx:H1 x=none)(hdx:H1 dx=none):Same H (upd (upd (upd H1 dx (.own x)) x (.ins C dx [])) x o)/\dif H (upd (upd (upd H1 dx (.own x)) x (.ins C dx [])) x o) x=some o:=
 ⟨aj (s.free hx) (aj (s.free hx) (aj (s.free hdx) s)),by rw[am (s.free hx)];exact aa⟩
def yb {H H1:Hp}{x dx C:Addr}{o1 o:HO}(s:Same H H1)(hx:H1 x=none)(hdx:H1 dx=none):Same H (upd (upd (upd (upd H1 dx (.own x)) x (.ins C dx [])) x o1) x o)/\dif H (upd (upd (upd (upd H1 dx (.own x)) x (.ins C dx [])) x o1) x o) x=some o:=
 ⟨aj (s.free hx) (aj (s.free hx) (aj (s.free hx) (aj (s.free hdx) s))),by rw[am (s.free hx)];exact aa⟩
def Mo (R:Hp->Prop):Prop:=∀G G',Same G G'->R G->R G'
inductive NewQ (H:Hp)(W:List Addr)(H':Hp)(R:Hp->Prop):Prop
 |mk (G)(_:Same G H')(_:∀b∈W,G b=none)(_:∀b,H b≠none->G b=none)(_:R G)
section
variable {H H' H3 H4:Hp}{W:List Addr}{R R2 R':Hp->Prop}
def NewQ.same (h:NewQ H W H' R)(s:Same H' H4):NewQ H W H4 R:=let ⟨G,a,b,d,e⟩:=h;⟨G,a.trans s,b,d,e⟩
def NewQ.upd {p:Addr}{o:HO}(h:NewQ H W H' R)(hp:p∈W):NewQ H W (L2.upd H' p o) R:=
 let ⟨G,a,b,d,e⟩:=h
 ⟨G,λx u z=>(ad (nq (b p hp) z)).trans (a x u z),b,d,e⟩
def NewQ.dif (h:NewQ H W H' R)(m:Mo R):R (dif H H'):=
 let ⟨G,a,_,d,e⟩:=h
 m G _ (λx u z=>by
  have hx:H x=none:=by
   cases q:H x with
   |none=>rfl
   |some o=>rw[d x (by rw[q];simp)] at z;cases z
  rw[am hx];exact a x u z) e
def NewQ.join (h:NewQ H W H' R)(h2:NewQ H W H' R2)(m:Mo R)(m2:Mo R2)(k:∀G,R G->R2 G->R' G):NewQ H W H' R':=
 let ⟨G,a,b,d,e⟩:=h
 let ⟨G2,a2,b2,d2,e2⟩:=h2
 ⟨both G G2,pO a a2,λx hx=>by unfold both;rw[b x hx];exact b2 x hx,λx hx=>by unfold both;rw[d x hx];exact d2 x hx,k _ (m _ _ ug e) (m2 _ _ (uh a a2) e2)⟩
def NewQ.of (s:Same H H3)(hW:∀b∈W,H3 b≠none)(h:R (L2.dif H3 H4)):NewQ H W H4 R:=⟨L2.dif H3 H4,dif_same,λb hb=>bg (hW b hb),λb hb=>bg (λz=>hb (s.free z)),h⟩
def NewQ.triv (h:R λ_=>none):NewQ H W H' R:=⟨λ_=>none,(λ_ _ z=>nomatch z),(λ_ _=>rfl),(λ_ _=>rfl),h⟩
end
def zr {c:Cp}{a:Addr}{p:PC}:Mo λG=>PCAt c G a p:=λ_ _ s h=>h.same s
def NewQ.map {H H':Hp}{W:List Addr}{R R':Hp->Prop}(h:NewQ H W H' R)(k:∀G,R G->R' G):NewQ H W H' R':=let ⟨G,a,b,d,e⟩:=h;⟨G,a,b,d,k G e⟩
theorem cV:∀l:List (List Nat),bA [] l=l.flatten
 | []=>rfl
 | [c]=>by show c=c++[];rw[l25]
 |c::d::r=>by
  have ih:=cV (d::r);rw[fc _ _ _ (by simp),ih,l25];simp
def fU (l:List (List Nat))(h:l.flatten.length<=100000):(((l.map S).map (·.length)).sum+(l.map S).length * (S []).length)<=sizeLine:=by
 have e:((l.map S).map (·.length)).sum=l.flatten.length:=by
  clear h
  induction l with
  |nil=>rfl
  |cons x l ih=>rw[l20,l20,l35,ih,aw,l86,l6]
 rw[e,aw,sizeLine_eq];simp only[l32,Nat.mul_zero];omega
def iN {v:V}{i:Nat}{u:TS}{D:Ends}{σ:St}{H:Hp}(h:u D (σ.set i (some v)) H):tSeq (tAsg (tC v) (al i)) u D σ H:=h
end Lw
namespace L2
open PySem PySem.Spec PyProof.Rows
end L2
namespace Lw
open PySem L2 Lm
end Lw
namespace L2
open PySem PySem.Spec PyProof.Rows
end L2
namespace Lw
open PySem L2 Lm
theorem dL {n:Nat}:∀{ds:List PyData},(∀d∈ds,d.depth<=n)->PyData.depthAll ds<=n
 | [],_=>by unfold PyData.depthAll;omega
 |d::ds,h=>by
  have h1:=h d l10;have h2:=dL λx hx=>h x (l15 _ hx);unfold PyData.depthAll;omega
def oa {n:Nat}{ds:List PyData}(h:∀d∈ds,d.depth<=n):(PyData.list ds).depth<=n+1:=by
 have:=dL h;unfold PyData.depth;omega
def gS {n:Nat}{ds:List PyData}(h:∀d∈ds,d.depth<=n):(PyData.tuple ds).depth<=n+1:=by
 have:=dL h;unfold PyData.depth;omega
def sz1:P1->Nat
 | .plain s=>s.cps.toList.length
 | .code s=>s.cps.toList.length+2
 | .link w n=>w.cps.toList.length+n.cps.toList.length+20
 | .note n=>n.cps.toList.length+20
def szC:PC->Nat
 | .one p=>sz1 p
 | .strong ps=>(ps.map sz1).sum+2
def Ok1:P1->Prop
 | .plain s=>Asc s.cps.toList/\s.cps.toList≠[]
 | .code s=>Asc s.cps.toList
 | .link w n=>Asc w.cps.toList/\Asc n.cps.toList
 | .note n=>Asc n.cps.toList
def OkC:PC->Prop
 | .one p=>Ok1 p
 | .strong ps=>∀p∈ps,Ok1 p
def Kd (o:HO):Prop:=(∃xs,o = .lst xs) ∨ (∃xs,o = .tup xs) ∨ ∃C dx fs,o = .ins C dx fs
def Kd.lst {xs:List V}:Kd (.lst xs) := .inl ⟨xs,rfl⟩
def Kd.tup {xs:List V}:Kd (.tup xs) := .inr (.inl ⟨xs,rfl⟩)
def Kd.ins {C dx:Addr}{fs:List (Str×V)}:Kd (.ins C dx fs) := .inr (.inr ⟨C,dx,fs,rfl⟩)
def KS (H H':Hp):Prop:=∀b o,Kd o->H b=some o->H' b=some o
mutual
theorem vx {H H':Hp}(s:KS H H'):∀{v:V} {d:PyData},Dn H v d->Dn H' v d
 |_,_, .non => .non
 |_,_, .bl b => .bl b
 |_,_, .int i => .int i
 |_,_, .str x a b => .str x a b
 |_,_, .lst e r l => .lst (s _ _ Kd.lst e) (i7 s r) l
 |_,_, .tup e r => .tup (s _ _ Kd.tup e) (i7 s r)
theorem i7 {H H':Hp}(s:KS H H'):∀{vs:List V} {ds:List PyData},DnAll H vs ds->DnAll H' vs ds
 |_,_, .nil => .nil
 |_,_, .cons a b => .cons (vx s a) (i7 s b)
end
theorem yc {c:Cp}{H H':Hp}{a:Addr}(s:KS H H'):∀{p:P1},P1At c H a p->P1At c H' a p
 | .plain _,⟨g,dx,e⟩=>⟨g,dx,s _ _ Kd.ins e⟩
 | .code _,⟨g,dx,e⟩=>⟨g,dx,s _ _ Kd.ins e⟩
 | .link _ _,⟨g,g2,dx,e⟩=>⟨g,g2,dx,s _ _ Kd.ins e⟩
 | .note _,⟨g,dx,e⟩=>⟨g,dx,s _ _ Kd.ins e⟩
theorem uj {c:Cp}{H H':Hp}(s:KS H H'):∀{as:List Addr} {ps:List P1},P1s c H as ps->P1s c H' as ps
 | [],[],_=>trivial
 |_::_,_::_,⟨a,b⟩=>⟨yc s a,uj s b⟩
theorem zt {c:Cp}{H H':Hp}{a:Addr}(s:KS H H'):∀{p:PC},PCAt c H a p->PCAt c H' a p
 | .one _,h=>yc s h
 | .strong _,⟨dx,l,as,e1,e2,r⟩=>⟨dx,l,as,s _ _ Kd.ins e1,s _ _ Kd.lst e2,uj s r⟩
theorem uk {c:Cp}{H H':Hp}(s:KS H H'):∀{as:List Addr} {ps:List PC},PCs c H as ps->PCs c H' as ps
 | [],[],_=>trivial
 |_::_,_::_,⟨a,b⟩=>⟨zt s a,uk s b⟩
def R2:PC->Prop
 | .one _=>True
 | .strong ps=>ps.length<=100000
def pT {p:P1}(h:Ok1 p):1<=sz1 p:=by
 cases p with
 |plain s=>
  have:s.cps.toList≠[]:=h.2;show 1<=s.cps.toList.length;cases e:s.cps.toList with
  |nil=>exact absurd e this
  |cons _ _=>simp
 |code s=>show 1<=_+2;omega
 |link a b=>show 1<=_+20;omega
 |note s=>show 1<=_+20;omega
def vy {l:List P1}(h:∀p∈l,Ok1 p):l.length<=(l.map sz1).sum:=by
 induction l with
 |nil=>exact l7 0
 |cons p l ih=>
  have h1:=ih λq hq=>h q (l15 _ hq);have h2:=pT (h p l10);rw[l20,l35,l9];omega
def vz {l:List PC}{p:PC}(h:p∈l):szC p<=(l.map szC).sum:=by
 induction l with
 |nil=>cases h
 |cons q l ih=>
  rw[l20,l35];rcases l8.mp h with z |z
  ·rw[z];omega
  ·have:=ih z;omega
def yd {l:List PC}(h:∀p∈l,OkC p)(hs:(l.map szC).sum<=90000):∀p∈l,R2 p:=λp hp=>by
 have h1:=vz hp;have h2:=h p hp;cases p with
 |one q=>trivial
 |strong q=>
  have h3:=vy h2;have h4:szC (.strong q)=(q.map sz1).sum+2:=rfl;show q.length<=100000;omega
def escC:List Nat:=[92,42,96,91,93]
def grd (c:Nat):List Nat:=if escC.contains c then [92,c] else [c]
def bD (l:List Nat):List Nat:=l.flatMap grd
def og (c:Nat)(l:List Nat):bD (c::l)=grd c++bD l:=l56
def bG (w:List Nat):List Nat:=if w.head? = some 94 then [92] else []
def raw1:P1->List Nat
 | .plain s=>bD s.cps.toList
 | .code s=>[96]++s.cps.toList++[96]
 | .link w n=>[91]++bG w.cps.toList++bD w.cps.toList++[93,40]++n.cps.toList++[41]
 | .note n=>[91,94]++n.cps.toList++[93]
def ek:PC->Bool
 | .one (.note _)=>true
 |_=>false
def bt (b:Bool)(t:List Nat):List Nat:=if b&&decide (t.head? = some 58) then 92::t else t
def eF:Bool->List P1->List Nat
 |_,[]=>[]
 |b,p::r=>bt b (raw1 p)++eF (ek (.one p)) r
def rawP:PC->List Nat
 | .one p=>raw1 p
 | .strong ps=>[42]++eF false ps++[42]
def raws:Bool->List PC->List Nat
 |_,[]=>[]
 |b,p::r=>bt b (rawP p)++raws (ek p) r
theorem i8:∀(b:Bool) (ps:List P1),raws b (ps.map .one)=eF b ps
 |_,[]=>rfl
 |b,p::r=>by show bt b (raw1 p)++raws _ (r.map .one)=_;rw[i8 _ r];rfl
def i9:Bool->List PC->List (List Nat)
 |_,[]=>[]
 |b,p::r=>bt b (rawP p)::i9 (ek p) r
theorem ft:∀(b:Bool) (ps:List PC),(i9 b ps).flatten=raws b ps
 |_,[]=>rfl
 |b,p::r=>by show bt b (rawP p)++(i9 _ r).flatten=_;rw[ft _ r];rfl
def mP (b:Bool)(t:List Nat):t.length<=(bt b t).length/\(bt b t).length<=t.length+1:=by
 unfold bt;split
 ·rw[l9];omega
 ·omega
def pU {b:Bool}{ps:List PC}{p:PC}(h:p∈ps):(rawP p).length<=(raws b ps).length:=by
 induction ps generalizing b with
 |nil=>cases h
 |cons q r ih=>
  show _<=(bt b (rawP q)++raws _ r).length;rw[l6];rcases l8.mp h with z |z
  ·rw[z];have:=(mP b (rawP q)).1;omega
  ·have:=ih (b:=ek q) z;omega
inductive spRaw (c:Cp)(R:PC->Prop)(vs:List V)(H:Hp)(Q:VK)(u3:XK):Prop
 |mk (a p)(_:vs=[.ref a])(_:PCAt c H a p)(_:R p)(_:(rawP p).length<=100000)(_:∀H',Same H H'->Q (vS (rawP p)) H')
inductive spRaws (c:Cp)(R:PC->Prop)(vs:List V)(H:Hp)(Q:VK)(u3:XK):Prop
 |mk (l:Addr)(as:List Addr)(ps:List PC)(_:vs=[.ref l])(_:H l=some (.lst (as.map V.ref)))(_:PCs c H as ps)(_:∀p∈ps,R p)(_:as.length<=100000)(_:(raws false ps).length<=100000)(_:∀H',Same H H'->Q (vS (raws false ps)) H')
def RawV (P:Program)(w:World)(K:Frag)(mg:Str->Option Value)(base:Heap)(k:Nat)(c:Cp)(R:PC->Prop):Prop:=
 ∀p,R p->(rawP p).length<=100000->∀H a,PCAt c H a p->∃C dx fs sp,H a=some (.ins C dx fs)/\fs.lookup ("raw":Str)=none/\MethV P w K mg base k C "raw" ["self"] sp/\∀Q E,(∀H',Same H H'->Q (vS (rawP p)) H')->sp [.ref a] H Q E
end Lw
namespace K12
open PySem L2 Lm Lw
structure TxR (K:Frag)(mg:Str->Option Value)(c:Cp)(BT:Addr):Prop extends TxP K mg c BT where
 g22:∃t,mg "ESCAPED"=some (.str (S escC) t)
 u18:mg "Mark"=some (.ref c.Mark)
 u25:kitOne K (.ref c.Plain) (.ref c.Mark)=some false
 g25:kitOne K (.ref c.Code) (.ref c.Mark)=some false
 z25:kitOne K (.ref c.Strong) (.ref c.Mark)=some false
 q25:kitOne K (.ref c.Link) (.ref c.Mark)=some false
 u26:kitOne K (.ref c.Mark) (.ref c.Mark)=some true
theorem TxR.isMark {K:Frag}{mg:Str->Option Value}{c:Cp}{BT:Addr}(T:TxR K mg c BT){H:Hp}{a:Addr}:∀{p:PC},PCAt c H a p->∃t,TyOf K H (.ref a) t/\kitOne K t (.ref c.Mark)=some (ek p)
 | .one (.plain _),⟨_,_,e⟩=>⟨_,T.z16.ty e,T.u25⟩
 | .one (.code _),⟨_,_,e⟩=>⟨_,T.q16.ty e,T.g25⟩
 | .one (.link _ _),⟨_,_,_,e⟩=>⟨_,T.z12.ty e,T.q25⟩
 | .one (.note _),⟨_,_,e⟩=>⟨_,T.z17.ty e,T.u26⟩
 | .strong _,⟨_,_,_,e,_⟩=>⟨_,T.u17.ty e,T.z25⟩
def pV (x:Str):x.length=x.cps.toList.length:=by conv=>lhs;rw[<- S_of x,aw]
section
variable {c:Cp}{BT:Addr}
abbrev ja:Stmt:=top 9
inductive spEscaped (vs:List V)(H:Hp)(Q:VK)(u3:XK):Prop
 |mk (l:List Nat)(_:vs=[vS l])(_:l.length<=100000)(_:(bD l).length<=100000)(_:∀H',Same H H'->Q (vS (bD l)) H')
def grdV:V->V
 | .str x=>vS (bD x.cps.toList)
 |v=>v
def mQ (d:Nat):grdV (.str ⟨#[d]⟩)=vS (grd d):=by
 show vS (bD [d])=_;rw[og];exact congrArg vS (l25 _)
def iO (l:List Nat):(l.map grd).flatten=bD l:=(List.flatMap_def (l:=l) (f:=grd)).symm
def oh (F:Fun K "escaped" "escaped" ja f fd)(T:TxR K mg c BT):FnOk P w K mg base CX0 1 f fd ["signs"] spEscaped:=by
 have sc:FnScope ["signs"] ["signs"] (ab ja):=mkS;refine F.oks sc λH Q hr h=>?_;obtain⟨l,rfl,hl,hg,q⟩:=h;refine ak (xb1 (xret (xm plainAttrs_str slot_str_join type_str_join eY xstr (xac (xlc0 (own:=["sign"])
  (xis (xv 0))
  (λ_ _ _ _=>xgm (i:=0) (show (["sign"]:List Str).Nodup by decide)) (λ_ _ _ _=>xq0) (λ_ _ _ _=>(xifE (aA jH (xv 0) (xgS T.g22) (by with_unfolding_all rfl)) (xop af xstr (xv 0)) (xv 0)))) xa0)))) ?_
 have hs:=sizeLine_eq;refine⟨rfl,_,rfl,_,rfl,?_⟩;refine tW (λ_=>true) grdV (bigS nofun) ?_ ?_
 ·intro d hd H' sm C N hC hN;refine⟨(nfLe.refl _ _ _).set ∅ _,iteT (B:=N H') ?_⟩;have hc:=hC H' (Same.refl H') rfl;rw[mQ] at hc;refine⟨_,rfl,_,_,rfl,rfl,_,rfl,?_⟩;rw[show (!(Builtin.Str.occurrences (S escC) (S [d]) 0 (S escC).length 1).isEmpty)=escC.contains d from iH _ _];unfold grd at hc;by_cases z:escC.contains d=true
  ·rw[if_pos z] at hc;rw[z];refine iteT ⟨_,rfl,_,_,rfl,rfl,(show 1+1<=sizeLine by rw[hs];decide),?_⟩;rw[show Str.ofString "\\"++S [d]=S [92,d] from cF [92] [d]];exact hc
  ·have z:=Bool.eq_false_iff.mpr z;rw[if_neg (by rw[z];simp)] at hc;rw[z];exact iteF ⟨_,rfl,hc⟩
 ·intro D H' hD sm eD;have em:(((S l).cps.toList.map λc=>V.str ⟨#[c]⟩).filter (λ_=>true)).map grdV=((l.map grd).map S).map V.str:=by
   rw[List.filter_eq_self.mpr (λ_ _=>rfl),gq,l30,l30,l30];exact l60 λd _=>mQ d
  refine⟨S [],D,(l.map grd).map S,rfl,rfl,SqL.of (by rw[eD];exact congrArg some (congrArg HO.lst em)),fU _ (by rw[iO];exact hg),?_⟩;rw[fg,cV,iO];exact q H' sm
abbrev gT:Stmt:=meth 4 2
abbrev jb:Stmt:=meth 5 2
abbrev fu:Stmt:=meth 6 2
abbrev jc:Stmt:=meth 7 2
abbrev jd:Stmt:=meth 8 2
def eS (s:Str):V.str s=vS s.cps.toList:=congrArg V.str (S_of s).symm
def lT (F:Fun K "raw" "Plain.raw" gT f fd)(T:TxR K mg c BT)(Ds:Def P w K mg base 1 "escaped" ["signs"] spEscaped):FnOk P w K mg base CX0 2 f fd ["self"] (spRaw c λp=>∃s,p = .one (.plain s)):=by
 have sc:FnScope ["self"] ["self"] (ab gT):=mkS;refine F.oks sc λ{_ _ _ s _ _}H Q hr h=>?_;obtain⟨a,p,rfl,ha,⟨s,rfl⟩,hl,q⟩:=h;obtain⟨g,dx,e⟩:=ha;refine ak (xb1 (xret (xcd Ds hr (xac (xfld (xv 0)) xa0)))) ?_;exact⟨_,rfl,a,_,dx,_,_,rfl,e,T.z16.cls,T.u21,rfl,s.cps.toList,by rw[eS];rfl,by rw[<- pV];exact g.2,hl,q⟩
def oj (F:Fun K "raw" "Code.raw" jb f fd)(T:TxR K mg c BT):FnOk P w K mg base CX0 2 f fd ["self"] (spRaw c λp=>∃s,p = .one (.code s)):=by
 have sc:FnScope ["self"] ["self"] (ab jb):=mkS;refine F.oks sc λ{_ _ _ s _ _}H Q hr h=>?_;obtain⟨a,p,rfl,ha,⟨s,rfl⟩,hl,q⟩:=h;obtain⟨g,dx,e⟩:=ha;refine ak (xb1 (xret (xop af (xop af xstr (xfld (xv 0))) xstr))) ?_;have hs:=sizeLine_eq;have hl:([96]++s.cps.toList++[96]).length<=100000:=hl;rw[l6,l6] at hl;simp only[l9,l32] at hl;refine⟨_,rfl,a,_,dx,_,_,rfl,e,T.q16.cls,T.g21,rfl,?_⟩;rw[eS];refine⟨_,_,rfl,rfl,by show 1+(S s.cps.toList).length<=_;rw[aw s.cps.toList,hs];omega,?_⟩;rw[show Str.ofString "`"++S s.cps.toList=S ([96]++s.cps.toList) from cF [96] _];refine⟨_,_,rfl,rfl,by show (S ([96]++s.cps.toList)).length+1<=_;rw[aw,l6,hs];show 1+_+1<=_;omega,?_⟩;rw[show S ([96]++s.cps.toList)++Str.ofString "`"=S ([96]++s.cps.toList++[96]) from cF _ [96]];exact q H (Same.refl H)
def ol (F:Fun K "raw" "Mark.raw" jd f fd)(T:TxR K mg c BT):FnOk P w K mg base CX0 2 f fd ["self"] (spRaw c λp=>∃s,p = .one (.note s)):=by
 have sc:FnScope ["self"] ["self"] (ab jd):=mkS;refine F.oks sc λ{_ _ _ s _ _}H Q hr h=>?_;obtain⟨a,p,rfl,ha,⟨s,rfl⟩,hl,q⟩:=h;obtain⟨g,dx,e⟩:=ha;refine ak (xb1 (xret (xop af (xop af xstr (xfld (xv 0))) xstr))) ?_;have hs:=sizeLine_eq;have hl:([91,94]++s.cps.toList++[93]).length<=100000:=hl;rw[l6,l6] at hl;simp only[l9,l32] at hl;refine⟨_,rfl,a,_,dx,_,_,rfl,e,T.z17.cls,T.u22,rfl,?_⟩;rw[eS];refine⟨_,_,rfl,rfl,by show 2+(S s.cps.toList).length<=_;rw[aw s.cps.toList,hs];omega,?_⟩;rw[show Str.ofString "[^"++S s.cps.toList=S ([91,94]++s.cps.toList) from cF [91,94] _];refine⟨_,_,rfl,rfl,by show (S ([91,94]++s.cps.toList)).length+1<=_;rw[aw,l6,hs];show 2+_+1<=_;omega,?_⟩;rw[show S ([91,94]++s.cps.toList)++Str.ofString "]"=S ([91,94]++s.cps.toList++[93]) from cF _ [93]];exact q H (Same.refl H)
def om (F:Fun K "raw" "Link.raw" jc f fd)(T:TxR K mg c BT)(Ds:Def P w K mg base 1 "escaped" ["signs"] spEscaped):FnOk P w K mg base CX0 2 f fd ["self"] (spRaw c λp=>∃s n,p = .one (.link s n)):=by
 have sc:FnScope ["self","caret"] ["self"] (ab jc):=mkS;refine F.oks sc λ{_ _ _ s _ _}H Q hr h=>?_;obtain⟨a,p,rfl,ha,⟨s,n,rfl⟩,hl,q⟩:=h;obtain⟨g,g2,dx,e⟩:=ha;refine ak (xbc (xst (i:=1) sc.nd (xifE (bq (xm plainAttrs_str slot_str_startswith type_str_startswith aH (xfld (xv 0)) (xac xstr xa0))) xstr xstr))
  (xb1 (xret (xop af (xop af (xop af (xop af (xop af xstr (xv 1)) (xcd Ds hr (xac (xfld (xv 0)) xa0))) xstr) (xfld (xv 0))) xstr)))) ?_
 have hs:=sizeLine_eq;rw[oR];have hl:([91]++bG s.cps.toList++bD s.cps.toList++[93,40]++n.cps.toList++[41]).length<=100000:=hl;simp only[l6,l9,l32] at hl;have hsl:s.cps.toList.length<=100000:=by rw[<- pV];exact g.2
 have rest:∀H1,Same H H1->∀R,(∀H',Same H H'->R (vS (raw1 (.link s n))) H')->tOp R_op_add_str (tOp R_op_add_str (tOp R_op_add_str (tOp R_op_add_str (tOp R_op_add_str (tC (.str "[")) (tVar 1)) (tCall spEscaped [] E0 (tCons (tFld K (tVar 0) "words") tNil))) (tC (.str "]("))) (tFld K (tVar 0) "name")) (tC (.str ")")) [some (V.ref a),some (vS (bG s.cps.toList))] H1 R:=by
  intro H1 s1 R hR;refine⟨_,rfl,_,_,rfl,rfl,by show 1+(S (bG s.cps.toList)).length<=_;rw[aw,hs];omega,?_⟩;rw[show Str.ofString "["++S (bG s.cps.toList)=S ([91]++bG s.cps.toList) from cF [91] _];refine⟨_,rfl,a,_,dx,_,_,rfl,s1 _ _ e,T.z12.cls,T.q17,rfl,s.cps.toList,by rw[eS];rfl,hsl,by omega,λH2 s2=>?_⟩;refine⟨_,_,rfl,rfl,by rw[aw,aw,hs,l6];show 1+_+_<=_;omega,?_⟩;rw[cF];refine⟨_,_,rfl,rfl,by show (S ([91]++bG s.cps.toList++bD s.cps.toList)).length+2<=_;rw[aw,hs,l6,l6];show 1+_+_+2<=_;omega,?_⟩;rw[show S ([91]++bG s.cps.toList++bD s.cps.toList)++Str.ofString "]("=S ([91]++bG s.cps.toList++bD s.cps.toList++[93,40]) from cF _ [93,40]];refine⟨_,rfl,a,_,dx,_,_,rfl,(s1.trans s2) _ _ e,T.z12.cls,T.q21,rfl,?_⟩;rw[eS];refine⟨_,_,rfl,rfl,by rw[aw (_++[93,40]),aw n.cps.toList,hs,l6,l6,l6];show 1+_+_+2+_<=_;omega,?_⟩;rw[cF];refine⟨_,_,rfl,rfl,by show (S ([91]++bG s.cps.toList++bD s.cps.toList++[93,40]++n.cps.toList)).length+1<=_;rw[aw,hs,l6,l6,l6,l6];show 1+_+_+2+_+1<=_;omega,?_⟩;rw[show S ([91]++bG s.cps.toList++bD s.cps.toList++[93,40]++n.cps.toList)++Str.ofString ")"=S ([91]++bG s.cps.toList++bD s.cps.toList++[93,40]++n.cps.toList++[41]) from cF _ [41]];exact hR H2 (s1.trans s2)
 refine⟨_,rfl,a,_,dx,_,_,rfl,e,T.z12.cls,T.q17,rfl,rfl,s,_,rfl,rfl,by rw[pV,hs];omega,_,rfl,?_⟩;have hst:Txt.startswith s (Str.ofString "^")=decide (s.cps.toList.head? = some 94):=by
  have h1:Txt.startswith (S s.cps.toList) (S [94])=([94]:List Nat).isPrefixOf s.cps.toList:=d9 _ _;rw[S_of] at h1;refine h1.trans ?_;cases s.cps.toList with
  |nil=>rfl
  |cons x r=>
   rw[Bool.eq_iff_iff];simp[List.isPrefixOf];exact eq_comm
 rw[hst];by_cases z:s.cps.toList.head? = some 94
 ·have ec:bG s.cps.toList=[92]:=if_pos z;rw[decide_eq_true z];refine iteT ?_;have:=rest H (Same.refl H) _ q;rw[ec] at this;exact this
 ·have ec:bG s.cps.toList=[]:=if_neg z;rw[decide_eq_false z];refine iteF ?_;have:=rest H (Same.refl H) _ q;rw[ec] at this;exact this
abbrev pW:Stmt:=top 11
def mS {k:Nat}{R:PC->Prop}(F:Fun K "raw_of" "raw_of" pW f fd)(T:TxR K mg c BT)(hM:RawV P w K mg base k c R):FnOk P w K mg base CX0 (k+1) f fd ["parts"] (spRaws c R):=by
 have sc:FnScope ["parts","texts","behind_mark","part","text"] ["parts"] (ab pW):=mkS;refine F.oks sc λH Q hr h=>?_;obtain⟨l,as,ps,rfl,el,hps,hR,hal,hl,q⟩:=h;refine ak (xbc (xst (i:=1) sc.nd (xlst xa0))
  (xbc (xst (i:=2) sc.nd xbl)
  (xbc (xfor PassesOwn.never rfl (xil (xv 0)) (xgm (i:=3) sc.nd)
  (xbc (xst (i:=4) sc.nd (xmV0 (k:=k) (xv 3) hr.mono))
  (xbc (xif (xand (bq (xv 2)) (ie (bq (xm plainAttrs_str slot_str_startswith type_str_startswith aH (xv 4) (xac xstr xa0))))).xt (xb1 (xst (i:=4) sc.nd (xop af xstr (xv 4)))) xb0)
  (xbc (bo (xmA (xv 1) (xac (xv 4) xa0)))
  (xb1 (xst (i:=2) sc.nd (xcB fT T.q10 rfl (xac (xv 3) (xac (xgC T.u18) xa0)))))))))
  (xb1 (xret (xm plainAttrs_str slot_str_join type_str_join eY xstr (xac (xv 1) xa0))))))) ?_
 have hs:=sizeLine_eq;have w6:=hps.len;rw[xB];refine⟨bg0,λtl htl=>?_⟩;have s1:=ac htl (.lst []);have e1:upd H tl (.lst []) tl=some (.lst []):=aa
 left
 generalize upd H tl (.lst [])=H1 at s1 e1 ⊢;refine iN ?_;dsimp only[sA,sB];refine⟨_,rfl,l,rfl,⟨_,SqL.of (s1 _ _ el)⟩,?_⟩;refine bc (xs:=as.map V.ref) (λi σ H'=>∃(b:Bool) (ts:List (List Nat)) (x3 x4:Option V),σ=[some (.ref l),some (.ref tl),some (.bl b),x3,x4]/\Same H H'/\H' tl=some (.lst (ts.map vS))/\ts.length=i/\ts++i9 b (ps.drop i)=i9 false ps) ⟨false,[],none,none,rfl,s1,e1,rfl,rfl⟩ ?_ ?_ ?_
 ·rintro i σ H3 _ ⟨b,ts,x3,x4,_,s3,_⟩;exact SqL.of (s3 _ _ el)
 ·rintro i x σ H3 hx ⟨b,ts,x3,x4,rfl,s3,e3,htl3,hrun⟩;rw[List.getElem?_map] at hx;cases hai:as[i]? with
  |none=>rw[hai] at hx;cases hx
  |some a=>
  rw[hai] at hx;cases hx;obtain⟨p,hp1,hp2⟩:=hps.get hai;have hpm:=l18 hp1;have hpi:=List.getElem?_eq_some_iff.mp hp1;have hpl:(rawP p).length<=100000:=l13 (pU (b:=false) hpm) hl;rw[List.drop_eq_getElem_cons hpi.1,hpi.2] at hrun;have hrun:ts++bt b (rawP p)::i9 (ek p) (ps.drop (i+1))=i9 false ps:=hrun;have hcl:=mP b (rawP p)
  left
  obtain⟨Cc,dx,fs,sp,e1',e2',V,hsp⟩:=hM p (hR p hpm) hpl H3 a (hp2.same s3);refine⟨_,rfl,a,Cc,dx,fs,_,sp,rfl,e1',e2',V,hsp _ _ λH4 s4=>?_⟩
  left
  have tS:Tells (tAnd (tB (tVar 2)) (tB (tBM K "str" (rS2 λz y => .bl (Txt.startswith z y)) (tVar 4) (tCons (tC (.str ":")) tNil)))) [some (.ref l),some (.ref tl),some (.bl b),some (.ref a),some (vS (rawP p))] H4 (b&&([58]:List Nat).isPrefixOf (rawP p)):=km _ _ (t_bv (ev_v rfl)) λ_ H5 s5=>di (rawP p) [58] nofun rfl (ev_v rfl);have hpre:([58]:List Nat).isPrefixOf (rawP p)=decide ((rawP p).head? = some 58):=by
   cases rawP p with
   |nil=>rfl
   |cons x r=>
    rw[Bool.eq_iff_iff];simp[List.isPrefixOf];exact eq_comm
  rw[hpre] at tS;refine cq (λσ' H'=>σ'=[some (.ref l),some (.ref tl),some (.bl b),some (.ref a),some (vS (bt b (rawP p)))]/\Same H4 H') (λN hN=>?_) ?_
  ·by_cases z:(b&&decide ((rawP p).head? = some 58))=true
   ·refine s_if true (tS.eq z) (λH5 s5 _=>?_) λ_ _ y=>Bool.noConfusion y;refine⟨_,rfl,_,_,rfl,rfl,by show 1+(S (rawP p)).length<=_;rw[aw,hs];omega,?_⟩;rw[show Str.ofString "\\"++S (rawP p)=S (92::rawP p) from cF [92] _]
    left
    refine hN _ _ ⟨?_,s5⟩;unfold bt;rw[if_pos z]
   ·have z:=Bool.eq_false_iff.mpr z;refine s_if false (tS.eq z) (λ_ _ y=>Bool.noConfusion y) λH5 s5 _=>?_;refine hN _ _ ⟨?_,s5⟩;unfold bt;rw[if_neg (by rw[z];simp)]
  ·rintro σ' H5 ⟨rfl,s5⟩;have s35:=(s3.trans s4).trans s5;have e5:=s5 _ _ (s4 _ _ e3);refine⟨_,rfl, .inl ⟨rfl,_,SqL.of e5⟩,_,rfl,tl,_,_,rfl,rfl,e5,by rw[l5,hs];have:=(List.getElem?_eq_some_iff.mp hai).1;omega,?_⟩;obtain⟨ty,hty,hkt⟩:=T.isMark (hp2.same s35);have hal2:a≠tl:=λz=>by
    have:=s5 _ _ (s4 _ _ e1');rw[z,e5] at this;cases this
   have htl0:H tl=none:=htl;obtain⟨ty2,hty2,hkt2⟩:=T.isMark (H:=upd H5 tl (.lst (ts.map vS++[vS (bt b (rawP p))]))) (hp2.same (aj htl0 s35));refine⟨_,rfl,_,_,_,_,rfl,hty2,hkt2,?_⟩
   left
   exact⟨ek p,ts++[bt b (rawP p)],_,_,rfl,aj htl0 s35,by rw[aa,l17];rfl,by rw[l6,htl3];rfl,by rw[l28];exact hrun⟩
 ·rintro σ H3 ⟨b,ts,x3,x4,rfl,s3,e3,htl3,hrun⟩;rw[l5,w6,List.drop_length] at hrun;have hts:ts=i9 false ps:=by rw[<- hrun];exact(l25 _).symm
  subst hts;refine⟨rfl,_,rfl,S [],tl,(i9 false ps).map S,rfl,rfl,SqL.of (by rw[e3,l30];rfl),fU _ (by rw[ft];exact hl),?_⟩;rw[fg,cV,ft];exact q H3 s3
def ku {k:Nat}(F:Fun K "raw" "Strong.raw" fu f fd)(T:TxR K mg c BT)(De:Def P w K mg base k "raw_of" ["parts"] (spRaws c R1)):FnOk P w K mg base CX0 (k+1) f fd ["self"] (spRaw c λp=>∃ps,p = .strong ps/\ps.length<=100000):=by
 have sc:FnScope ["self"] ["self"] (ab fu):=mkS;refine F.oks sc λH Q hr h=>?_;obtain⟨a,p,rfl,ha,⟨ps,rfl,hpl⟩,hl,q⟩:=h;obtain⟨dx,l,as,e,el,hps⟩:=ha;refine ak (xb1 (xret (xop af (xop af xstr (xcd De hr (xac (xfld (xv 0)) xa0))) xstr))) ?_;have hs:=sizeLine_eq;have hl:([42]++eF false ps++[42]).length<=100000:=hl;rw[l6,l6] at hl;simp only[l9,l32] at hl;refine⟨_,rfl,a,_,dx,_,_,rfl,e,T.u17.cls,T.z21,rfl,l,as,ps.map .one,rfl,el,hps.toC,λp hp=>?_,by rw[hps.len];exact hpl,by rw[i8];omega,λH1 s1=>?_⟩
 ·obtain⟨x,hx,rfl⟩:=l23.mp hp;unfold R1;simp[one?]
 ·rw[i8];refine⟨_,_,rfl,rfl,by show 1+(S (eF false ps)).length<=_;rw[aw,hs];omega,?_⟩;rw[show Str.ofString "*"++S (eF false ps)=S ([42]++eF false ps) from cF [42] _];refine⟨_,_,rfl,rfl,by show (S ([42]++eF false ps)).length+1<=_;rw[aw,hs,l6];show 1+_+1<=_;omega,?_⟩;rw[show S ([42]++eF false ps)++Str.ofString "*"=S ([42]++eF false ps++[42]) from cF _ [42]];exact q H1 s1
end
section
abbrev sBar:Stmt:=top 22
def ye (F:Fun K "is_parting_bar" "is_parting_bar" sBar f fd):FnOk P w K mg base CX0 1 f fd p21 spBar:=by
 have sc:FnScope p21 p21 (ab sBar):=mkS;refine F.oks sc λH Q hr h=>?_;obtain⟨l,i,rfl,hl,h1,q⟩:=h;refine ak (xbc (xif (aA iQ (xix f9 (xv 0) (xv 1) (λ_ _=>rfl)) xstr (ai _)) (xb1 (xret xbl)) xb0)
  (xb1 (xret (xorV (xcmp aI (xv 1) xint (ai _)) (xone (xcmp iQ (xix f9 (xv 0) (xop iA (xv 1) xint) (λ_ _=>rfl)) xstr (ai _))))))) ?_
 refine⟨_,rfl,_,rfl,_,_,_,rfl,rfl,bigS hl,at_S h1,rfl,_,rfl,?_⟩;have e1:=getD_some h1;refine ite2 (λc=>?_) (λc=>?_)
 ·have c':=neT (a:=[l.getD i 0]) (b:=[124]) c rfl rfl;have e:cm l i=false:=by
   unfold cm;rw[e1];have:(some (l.getD i 0)==some 124)=false:=by
    rw[beq_eq_false_iff_ne];intro z;exact c' (by rw[Option.some.inj z])
   rw[this];rfl
  rw[e] at q;exact q
 ·have c':=neF (a:=[l.getD i 0]) (b:=[124]) c rfl rfl;have c2:l.getD i 0=124:=by simpa using c'
  have e:cm l i=(i==0||l[i - 1]? != some 92):=by
   unfold cm;rw[e1,c2];rfl
  rw[e] at q;refine⟨_,rfl,rfl,_,rfl,?_⟩;refine ite2 (λd=>?_) (λd=>?_)
  ·have:i=0:=by
    have:=of_decide_eq_true d;have:=V.int.inj this;omega
   subst this;exact q
  ·have hi:i≠0:=by
    intro z;subst z;exact d (by simp)
   have hs:(i:Int) - 1=((i - 1:Nat):Int):=by omega
   refine⟨_,rfl,_,rfl,_,_,rfl,rfl,_,_,_,rfl,rfl,bigS hl,(by rw[hs];exact at_S nofun),rfl,?_⟩;have e2:(i==0||l[i - 1]? != some 92) = !decide (V.str ⟨#[l.getD (i - 1) 0]⟩=V.str (Str.ofString "\\")):=by
    have z0:(i==0)=false:=by simpa using hi
    rw[z0,Bool.false_or,getD_some (show i - 1 < l.length by omega),Bool.eq_iff_iff];constructor
    ·intro z;cases hd:decide (V.str ⟨#[l.getD (i - 1) 0]⟩=V.str (Str.ofString "\\")) with
     |false=>rfl
     |true=>
      have:=eqT (a:=[l.getD (i - 1) 0]) (b:=[92]) hd rfl rfl;simp only[List.cons.injEq,and_true] at this;rw[this] at z;simp at z
    ·intro z;have:=neT (a:=[l.getD (i - 1) 0]) (b:=[92]) z rfl rfl;simp only[bne_iff_ne,ne_eq,Option.some.injEq];intro y;exact this (by rw[y])
   rw[e2] at q;exact q
abbrev pX:Stmt:=top 20
def vA:FnScope ["text"] ["text"] (ab pX):=mkS
def sM (F:Fun K "words_of" "words_of" pX f fd):FnOk P w K mg base CX0 1 f fd ["text"] spWords:=by
 refine F.ok vA (λvs H Q E h=>?_) (λcdv A outer s H vs Q E hr h=>?_)
 ·obtain⟨l,rfl,_⟩:=h;rfl
 obtain⟨l,rfl,hl,k⟩:=h;refine ak (xb1 (xret (xlc0 (own:=["word"])
  (xil (xm plainAttrs_str PySem.F.slot_str_split PySem.F.type_str_split rO (xv 0) (xac xstr xa0)))
  (λ_ _ _ _=>xgm (i:=0) (show (["word"]:List Str).Nodup by decide)) (λ_ _ _ _=>xq1 (aA iQ (xv 0) xstr (ai _))) (λ_ _ _ _=>(xv 0))))) ?_
 refine⟨_,rfl,rfl,S l,S [32],rfl,rfl,rfl,by rw[aw];omega,λp hp=>⟨p,rfl,⟨_,SqL.of aa⟩,?_⟩⟩;refine vd (λv => !decide (v = .str (S []))) id (SqL.of aa) ?_ ?_ ?_
 ·rw[lC,l5,l5];have:=iE 32 l;have hs:=sizeLine_eq;omega
 ·intro x hx H' sm C N hC hN;obtain⟨z,_,rfl⟩:=l23.mp hx;refine⟨(nfLe.refl _ _ _).set ∅ _,_,rfl,rfl,_,rfl,?_⟩;refine ite2 (λc=>⟨_,rfl,hC _ (Same.refl _) c⟩) (λc=>hN _ (Same.refl _) (Bool.eq_false_iff.mpr c))
 ·intro D H' hD sm e;refine k D H' ((ac hp _).trans sm) ((ac hp _).free hD) ?_;rw[e,lC];congr 2;unfold bj;rw[List.map_id,l30,List.filter_map];congr 1;refine List.filter_congr λw _=>?_;show (!decide (V.str (S w)=V.str (S [])))=decide (w≠[]);by_cases h:w=[]
  ·subst h;simp
  ·have:V.str (S w)≠V.str (S []):=λq=>h (iX (V.str.inj q));simp[h,this]
abbrev vB:Stmt:=top 21
def vC (F:Fun K "tidy" "tidy" vB f fd)(Dt:Def P w K mg base 1 "words_of" ["text"] spWords):FnOk P w K mg base CX0 2 f fd ["text"] spTidy:=by
 have sc:FnScope ["text"] ["text"] (ab vB):=mkS;refine F.oks sc λH Q hr h=>?_;obtain⟨l,rfl,hl,q⟩:=h;refine ak (xb1 (xret (xm plainAttrs_str slot_str_join type_str_join eY xstr (xac (xcd Dt hr (xac (xv 0) xa0)) xa0)))) ?_;refine⟨rfl,_,rfl,?_⟩;refine⟨l,rfl,hl,λr H' sm _ e=>?_⟩;refine⟨S [32],r,(bj l).map S,rfl,rfl,?_,?_,?_⟩
 ·exact SqL.of (by rw[e,pD])
 ·exact kj l hl
 rw[fg];exact q H' sm
abbrev pY:Stmt:=top 23
def sN (F:Fun K "split_cells" "split_cells" pY f fd)(T:Tx mg)(Du:Def P w K mg base 1 "is_parting_bar" p21 spBar)(Di:Def P w K mg base 2 "tidy" ["text"] spTidy):FnOk P w K mg base CX0 3 f fd ["text"] spCells:=by
 have sc:FnScope ["text","bars","texts","begin","bar"] ["text"] (ab pY):=mkS;refine F.oks sc λ{_ _ _ s _ _}H Q hr h=>?_;obtain⟨l,rfl,hl,q⟩:=h;refine ak (xbc (xslc (i:=1) sc.nd rfl rfl (cl:=[("text",s.heap.objs.size+1)]) (own:=["place"]) (fr:=[0]) (N':=["place","text"]) rfl (eZ (xs:=["text"]) ⟨rfl,trivial⟩ ⟨rfl,rfl, .inl rfl, .inl rfl,trivial⟩ ∅) ∅ ∅ (by with_unfolding_all rfl)
  (xir1 rfl T.u11 (xac (xcB aJ T.g10 PySem.boot_len (xac (xv 0) xa0)) xa0))
  (λ_ _ _ _=>xgm (i:=0) (show (["place","text"]:List Str).Nodup by decide)) (λ_ _ _ _=>xq1 (bq (xcd Du hr (xac (xv 1) (xac (xv 0) xa0))))) (λ_ _ _ _=>(xv 0)))
  (xbc (xst (i:=2) sc.nd (xlst xa0))
  (xbc (xst (i:=3) sc.nd xint)
  (xbc (xfor PassesOwn.never rfl (xil (xop fJ (xv 1) (xlst (xac (xcB aJ T.g10 PySem.boot_len (xac (xv 0) xa0)) xa0)))) (xgm (i:=4) sc.nd)
  (xbc (bo (xmA (xv 2) (xac (o9 (xcd Di hr (xac (xsl bR (xv 0) (xo1 (xv 3)) (xo1 (xv 4))) xa0)) ∅ ∅) xa0)))
  (xb1 (xst (i:=3) sc.nd (xop bp (xv 4) xint)))))
  (xb1 (xret (xv 2))))))) ?_
 have hs:=sizeLine_eq;refine⟨_,rfl,_,rfl,bigS hl,_,rfl,by omega,by rw[aw];omega,?_⟩;refine rS 0 (pInt (cm l)) id (by rw[aw];omega) ?_ ?_
 ·intro i hi H' sm C N hC hN;have hi':i < l.length:=by rw[aw] at hi;omega
  refine⟨(nfLe.refl _ _ _).set ∅ _,_,rfl,_,rfl,l,i,by rw[Int.zero_add];rfl,hl,hi',_,rfl,?_⟩;refine ite2 (λc=>⟨_,rfl,hC _ (Same.refl _) ?_⟩) (λc=>hN _ (Same.refl _) ?_)
  ·show cm l (0+(i:Int)).toNat=true;rw[show (0+(i:Int)).toNat=i by omega];exact c
  ·show cm l (0+(i:Int)).toNat=false;rw[show (0+(i:Int)).toNat=i by omega];exact Bool.eq_false_iff.mpr c
 intro B H1 hB s1 eB;rw[show (((S l).length:Nat):Int).toNat=l.length by rw[aw];omega,nY] at eB;refine⟨big ∅,λr hr1=>?_⟩;have hBr:B≠r:=(nq hr1 eB);refine⟨_,rfl,_,rfl,_,rfl,bigS hl,bg1,λt ht=>?_⟩;have htr:r≠t:=λe=>by rw[<- e,aa] at ht;cases ht
 have hBt:B≠t:=λe=>by rw[<- e,ad hBr,eB] at ht;cases ht
 let bars:=(List.range l.length).filter (cm l)
 have hb:=sy l;refine⟨B,t,_,_,rfl,rfl,by rw[ad hBt,ad hBr];exact eB,aa,?_,λL hL=>⟨L,rfl,⟨_,SqL.of aa⟩,?_⟩⟩
 ·rw[l5];show ((List.range l.length).filter (cm l)).length+1<=sizeLine;omega
 have hLr:L≠r:=λe=>by rw[e,ad htr,aa] at hL;cases hL
 have hLt:L≠t:=(nq aa hL);have ext:((bars.map λ(i:Nat)=>V.int i)++[V.int (S l).length])=(bars++[l.length]).map λ(i:Nat)=>V.int i:=by rw[aw];simp
 rw[ext]
 let ps:=bars++[l.length]
 have hps:∀(i p:Nat),ps[i]? = some p->p<=l.length:=by
  intro i p h;rcases l24.mp (l18 h) with h |h
  ·exact l70 (l57.mp (l69.mp h).1)
  ·simp at h;omega
 have hraw:cG l 0 ps=cL l:=lH l;refine bc (xs := ps.map fun (i : Nat) => V.int i) (λi σ H'=>∃x,σ=[some (vS l),some (.ref B),some (.ref r),some (.int (dm 0 ps i)),x]/\Same H H'/\H' L=some (.lst (ps.map λ(i:Nat)=>V.int i)) ∧
  H' r=some (.lst (((cL l).take i).map λc=>vS (au (ff c))))) ⟨none,rfl,?_,aa,?_⟩ ?_ ?_ ?_
 ·refine(s1.trans ?_).trans (ac hL _);exact(ac hr1 _).trans (ac ht _)
 ·rw[ad (Ne.symm hLr),ad htr,aa];simp
 ·rintro i σ H' _ ⟨x,_,_,h,_⟩;exact SqL.of h
 ·rintro i x σ H' hx ⟨y,rfl,s2,eL,er⟩;rw[List.getElem?_map] at hx;cases hp:ps[i]? with
  |none=>rw[hp] at hx;cases hx
  |some p=>
  rw[hp] at hx;cases hx;have hpl:=hps i p hp;have w5:=gE l ps 0 i p hp;rw[hraw] at w5;have hbe:dm 0 ps i<=l.length:=sC hp;refine⟨_,rfl, .inl ⟨rfl,_,SqL.of er⟩,_,rfl,_,rfl,_,rfl,_,rfl,_,rfl,_,rfl,bigS hl,(l.drop (dm 0 ps i)).take (p - dm 0 ps i),?_,?_,λH3 s3=>⟨_,rfl,?_,?_⟩⟩
  ·rw[gw,vj l _ _ hpl hbe];rfl
  ·rw[l34,l29];omega
  ·rw[aw];have:=sx ((l.drop (dm 0 ps i)).take (p - dm 0 ps i));rw[l34,l29] at this;omega
  have er3:=s3 _ _ er;refine⟨r,_,_,rfl,rfl,er3,?_,?_⟩
  ·rw[l5,l34];have:=pC l;omega
  refine⟨_,rfl,_,_,rfl,rfl,some (.int (p:Int)),?_,?_,?_,?_⟩
  ·rw[nX hp];rfl
  ·exact aj (s1.free hr1) (s2.trans s3)
  ·rw[ad hLr];exact s3 _ _ eL
  ·rw[aa,<- kl _ _ _ _ w5];congr 4;exact congrArg V.str (iZ _)
 ·rintro σ H' ⟨x,rfl,s2,eL,er⟩;refine⟨_,rfl,q r H' s2 (s1.free hr1) ?_⟩;rw[er,pk,l30,l55 (by rw[<- hraw,gC,l5];exact l7 _)];rfl
abbrev vD:Stmt:=top 18
def vE (F:Fun K "is_name" "is_name" vD f fd)(T:Tx mg):FnOk P w K mg base CX0 1 f fd ["thing"] spName:=by
 have sc:FnScope ["thing"] ["thing"] (ab vD):=mkS;refine F.oks sc λH Q hr h=>?_;obtain⟨l,rfl,hl,q⟩:=h;refine ak (xbc (xif (dY (bq (xcB cx T.q10 rfl (xac (xv 0) (xac (xty (T:="str") T.z14 rfl) xa0))))) (xb1 (xret xbl)) xb0)
  (xbc (xif (xor (aA rB (xcB aJ T.g10 PySem.boot_len (xac (xv 0) xa0)) xint (ai _)) (xor1 (aA jG (xcB aJ T.g10 PySem.boot_len (xac (xv 0) xa0)) (xgI T.g15) (ai _)))).xt (xb1 (xret xbl)) xb0)
  (xb1 (xret (xcB (fR rfl) T.z11 rfl (xac (xlc0 (own:=["sign"])
  (xis (xv 0))
  (λ_ _ _ _=>xgm (i:=0) (show (["sign"]:List Str).Nodup by decide)) (λ_ _ _ _=>xq0) (λ_ _ _ _=>(xcmp jH (xv 0) (xgS T.u15) (by with_unfolding_all rfl)))) xa0)))))) ?_
 refine⟨_,rfl,_,_,_,true,rfl, .str _,rV _ _,_,rfl,?_⟩;refine ite2 (λc=>absurd c ∅) (λ_=>?_);refine⟨_,rfl,_,rfl,bigS hl,_,_,rfl,rfl,_,rfl,?_⟩;refine ite2 (λc=>?_) (λc=>?_)
 ·refine ite2 (λ_=>?_) (λc=>absurd rfl c);have e:bF l=false:=by
   have:=of_decide_eq_true c;rw[aw] at this;unfold bF;rw[decide_eq_false (show ¬ 1<=l.length by omega)];rfl
  rw[e] at q;exact q H (Same.refl H)
 refine⟨_,rfl,_,rfl,bigS hl,_,_,rfl,rfl,_,rfl,?_⟩;have h1:1<=l.length:=by
  have:=of_decide_eq_false (Bool.eq_false_iff.mpr c);rw[aw] at this;omega
 refine ite2 (λd=>?_) (λd=>?_)
 ·have e:bF l=false:=by
   have:=of_decide_eq_true d;rw[aw] at this;unfold bF;rw[decide_eq_false (show ¬ l.length<=12 by omega),Bool.and_false];rfl
  rw[e] at q;exact q H (Same.refl H)
 have h2:l.length<=12:=by
  have:=of_decide_eq_false (Bool.eq_false_iff.mpr d);rw[aw] at this;omega
 refine⟨_,rfl,_,rfl,?_⟩;refine tW (λ_=>true) pF (bigS hl) ?_ ?_
 ·intro c hc H' sm C N hC hN;refine⟨(nfLe.refl _ _ _).set ∅ _,?_⟩;refine⟨_,rfl,_,_,rfl,rfl,?_⟩;have:=hC H' (Same.refl H') rfl;have e:pF (.str ⟨#[c]⟩) = .bl (!(Builtin.Str.occurrences (S nameSigns) (S [c]) 0 (S nameSigns).length 1).isEmpty):=by
   rw[iH];show V.bl ([c].all nameSigns.contains)=_;simp
  rw[e] at this;exact this
 intro D H' hD sm eD;refine⟨D,l.map nameSigns.contains,rfl,SqL.of ?_,?_⟩
 ·rw[eD,gq,List.filter_eq_self.mpr (λ_ _=>rfl),l30,l30];congr 2;refine l60 λc _=>?_;show V.bl ([c].all nameSigns.contains)=_;simp
 ·have e:bF l=(l.map nameSigns.contains).all id:=by
   unfold bF;rw[decide_eq_true h1,decide_eq_true h2,List.all_map];simp
  rw[<- e];exact q H' sm
abbrev lU:Stmt:=top 19
def pZ (F:Fun K "name_of" "name_of" lU f fd)(T:Tx mg)(Dp:Def P w K mg base 1 "is_name" ["thing"] spName):FnOk P w K mg base CX0 2 f fd ["thing"] spNameOf:=by
 have sc:FnScope ["thing"] ["thing"] (ab lU):=mkS;refine F.oks sc λH Q hr h=>?_;obtain⟨l,rfl,hl,hn,q⟩:=h;refine ak (xbc (xif (dY (bq (xcd Dp hr (xac (xv 0) xa0)))) (xb1 xJ) xb0)
  (xb1 (xret (xm0 plainAttrs_str PySem.F.slot_str_lower PySem.F.type_str_lower rQ (xv 0))))) ?_
 refine⟨_,rfl,l,rfl,hl,λH' sm=>⟨_,rfl,?_⟩⟩;refine ite2 (λc=>by rw[hn] at c;cases c) (λ_=>?_);refine⟨_,rfl,rfl,_,rfl,rfl,by rw[aw];exact hl,?_⟩;rw[vg l (sE hn)];exact q H' sm
abbrev vF:Stmt:=top 31
def vG (F:Fun K "rest_of_quote" "rest_of_quote" vF f fd):FnOk P w K mg base CX0 1 f fd ["row"] spRest:=by
 have sc:FnScope ["row"] ["row"] (ab vF):=mkS;refine F.oks sc λH Q hr h=>?_;obtain⟨l,rfl,hl,q⟩:=h;refine ak (xb1 (xret (xifE (bq (xm plainAttrs_str slot_str_startswith type_str_startswith aH (xv 0) (xac xstr xa0))) (xsl bR (xv 0) (xo1 xint) xo0) (xsl bR (xv 0) (xo1 xint) xo0)))) ?_;refine⟨_,rfl,rfl,_,_,rfl,rfl,bigS hl,_,rfl,?_⟩;have e:=d9 l [62,32];refine ite2 (λc=>?_) (λc=>?_)
 ·have c':[62,32].isPrefixOf l=true:=e.symm.trans c;refine⟨_,rfl,_,rfl,_,rfl,bigS hl,?_⟩;rw[show lK l=l.drop 2 by unfold lK;rw[if_pos c']] at q;rw[show Txt.slice (S l) (some 2) none=_ from dH l 2];exact q
 ·have c':¬ [62,32].isPrefixOf l=true:=λz=>c (e.trans z);refine⟨_,rfl,_,rfl,_,rfl,bigS hl,?_⟩;rw[show lK l=l.drop 1 by unfold lK;rw[if_neg c']] at q;rw[show Txt.slice (S l) (some 1) none=_ from dH l 1];exact q
abbrev vH:Stmt:=top 32
def vI (F:Fun K "heading_level" "heading_level" vH f fd)(T:Tx mg):FnOk P w K mg base CX0 1 f fd ["bare"] spHead:=by
 have sc:FnScope ["bare","level"] ["bare"] (ab vH):=mkS;refine F.oks sc λH Q hr h=>?_;obtain⟨l,rfl,hl,q⟩:=h;refine ak (xbc (xst (i:=1) sc.nd (xop iA (xcB aJ T.g10 PySem.boot_len (xac (xv 0) xa0)) (xcB aJ T.g10 PySem.boot_len (xac (xm plainAttrs_str slot_str_lstrip type_str_lstrip ga (xv 0) (xac xstr xa0)) xa0))))
  (xbc (xif (xor (aA jG (xv 1) (xgI T.z24) (ai _)) (xor1 (dY (bq (xm plainAttrs_str slot_str_startswith type_str_startswith aH (xsl bR (xv 0) (xo1 (xv 1)) xo0) (xac xstr xa0)))))).xt (xb1 (xret xint)) xb0)
  (xb1 (xret (xv 1))))) ?_
 have hdl:(l.dropWhile ([61]:List Nat).contains).length<=l.length:=by have:=gF ([61]:List Nat).contains l;omega
 have elv:((S l).length:Int) - ((Txt.lstripChars (S l) (Str.ofString "=")).length:Nat)=((fL l:Nat):Int):=by
  rw[show Txt.lstripChars (S l) (Str.ofString "=")=_ from fS l [61],aw,aw];have:=gF ([61]:List Nat).contains l;unfold fL;omega
 refine⟨_,rfl,_,rfl,bigS hl,_,rfl,rfl,_,_,rfl,rfl,bigS hl,_,rfl,?_,_,_,rfl,rfl,?_⟩
 ·rw[show Txt.lstripChars (S l) (Str.ofString "=")=_ from fS l [61]];exact bigS nofun
 try dsimp only[tAsg.K0,tDrop.K0,Ends.to_nx,Ends.to_rt]
 rw[elv];refine⟨_,rfl,_,_,rfl,rfl,_,rfl,?_⟩;refine ite2 (λc=>?_) (λc=>?_)
 ·refine ite2 (λ_=>?_) (λc=>absurd rfl c);have:=of_decide_eq_true c;rw[show ed l=0 by unfold ed;rw[if_pos (.inl nofun)]] at q;exact q
 have c':=of_decide_eq_false (Bool.eq_false_iff.mpr c);refine⟨_,rfl,_,rfl,_,rfl,_,rfl,bigS hl,rfl,_,_,rfl,rfl,?_,_,rfl,?_⟩
 ·rw[dH];exact bigS (by rw[l29];omega)
 have e:Txt.startswith (Txt.slice (S l) (some ((fL l:Nat):Int)) none) (Str.ofString " ")=[32].isPrefixOf (l.drop (fL l)):=by
  rw[dH];exact d9 _ [32]
 rw[e];refine ite2 (λd=>?_) (λd=>?_)
 ·rw[show ed l=0 by unfold ed;rw[if_pos (.inr (λz=>by rw[z] at d;cases d))]] at q;exact q
 ·have e3:ed l=fL l:=by
   unfold ed;rw[if_neg];rintro(h |h)
   ·omega
   ·exact d (by rw[Bool.eq_false_iff.mpr h];rfl)
  rw[e3] at q;exact⟨_,rfl,q⟩
abbrev sIsC:Stmt:=top 33
def yf (F:Fun K "is_cells" "is_cells" sIsC f fd)(T:Tx mg)(Du:Def P w K mg base 1 "is_parting_bar" p21 spBar):FnOk P w K mg base CX0 2 f fd ["bare"] spIsC:=by
 have sc:FnScope ["bare"] ["bare"] (ab sIsC):=mkS;refine F.oks sc λH Q hr h=>?_;obtain⟨l,rfl,hl,q⟩:=h;refine ak (xb1 (xret (o8 (xcmp yX (xcB aJ T.g10 PySem.boot_len (xac (xv 0) xa0)) xint (ai _)) (o8 (xm plainAttrs_str slot_str_startswith type_str_startswith aH (xv 0) (xac xstr xa0)) (xone (xcd Du hr (xac (xv 0) (xac (xop iA (xcB aJ T.g10 PySem.boot_len (xac (xv 0) xa0)) xint) xa0)))))))) ?_;refine⟨_,rfl,_,rfl,bigS hl,_,_,rfl,rfl,_,rfl,?_⟩;refine ite2 (λc=>?_) (λc=>?_)
 ·have c1:=of_decide_eq_true c;rw[aw] at c1;have h2:2<=l.length:=by omega
  refine⟨_,rfl,rfl,_,_,rfl,rfl,bigS hl,_,rfl,?_⟩;have e:=d9 l [124];refine ite2 (λd=>?_) (λd=>?_)
  ·have d':[124].isPrefixOf l=true:=e.symm.trans d;refine⟨_,rfl,_,rfl,_,rfl,bigS hl,_,_,rfl,rfl,l,l.length - 1,?_,hl,by omega,?_⟩
   ·rw[aw];show [vS l,V.int ((l.length:Int) - 1)]=[vS l,V.int ((l.length - 1:Nat):Int)];rw[show (l.length:Int) - 1=((l.length - 1:Nat):Int) by omega]
   ·rw[show b8 l=cm l (l.length - 1) by unfold b8;rw[decide_eq_true h2,d',Bool.true_and,Bool.true_and]] at q;exact q
  ·have d':[124].isPrefixOf l=false:=e.symm.trans (Bool.eq_false_iff.mpr d);rw[show b8 l=false by unfold b8;rw[d',Bool.and_false];rfl] at q;exact q
 ·have c1:=of_decide_eq_false (Bool.eq_false_iff.mpr c);rw[aw] at c1;rw[show b8 l=false by unfold b8;rw[decide_eq_false (show ¬ 2<=l.length by omega)];rfl] at q;exact q
abbrev sDef:Stmt:=top 34
def yh (F:Fun K "definition_of" "definition_of" sDef f fd)(T:Tx mg)(Dt:Def P w K mg base 1 "words_of" ["text"] spWords)(Dp:Def P w K mg base 1 "is_name" ["thing"] spName)
  (DJ:Def P w K mg base 2 "name_of" ["thing"] spNameOf):FnOk P w K mg base CX0 3 f fd ["bare"] (spDef K):=by
 have sc:FnScope ["bare","place","words"] ["bare"] (ab sDef):=mkS;refine F.oks sc λ{_ _ _ s _ _}H Q hr h=>?_;obtain⟨l,rfl,hl,q⟩:=h;refine ak (xbc (xst (i:=1) sc.nd (xm plainAttrs_str PySem.F.slot_str_find PySem.F.type_str_find vc (xv 0) (xac (xgS T.z20) xa0)))
  (xbc (xif (xor (aA rB (xv 1) xint (ai _)) (xor1 (dY (bq (xm plainAttrs_str slot_str_startswith type_str_startswith aH (xv 0) (xac xstr xa0)))))).xt (xb1 (xret xnon)) xb0)
  (xbc (xst (i:=2) sc.nd (xcd Dt hr (xac (xsl bR (xv 0) (xo1 (xop bp (xv 1) (xcB aJ T.g10 PySem.boot_len (xac (xgS T.z20) xa0)))) xo0) xa0)))
  (xbc (xif (xand (bq (xm plainAttrs_str slot_str_startswith type_str_startswith aH (xv 0) (xac xstr xa0))) (ie (bq (xcd Dp hr (xac (xsl bR (xv 0) (xo1 xint) (xo1 (xv 1))) xa0))))).xt (xb1 (xret (xtup (xac xstr (xac (xcd DJ hr (xac (xsl bR (xv 0) (xo1 xint) (xo1 (xv 1))) xa0)) (xac (xm plainAttrs_str slot_str_join type_str_join eY xstr (xac (xv 2) xa0)) xa0)))))) xb0)
  (xbc (xif (xand (bq (xcd Dp hr (xac (xsl bR (xv 0) (xo1 xint) (xo1 (xv 1))) xa0))) (ie (aA aI (xcB aF T.g10 PySem.boot_len (xac (xv 2) xa0)) xint (ai _)))).xt (xb1 (xret (xtup (xac xstr (xac (xcd DJ hr (xac (xsl bR (xv 0) (xo1 xint) (xo1 (xv 1))) xa0)) (xac (xix aO (xv 2) xint (λ_ _=>rfl)) xa0)))))) xb0)
  (xb1 (xret xnon))))))) ?_
 refine⟨_,rfl,rfl,_,_,rfl,rfl,bigS hl,?_⟩;have ef:=xO l [93,58,32];cases hf:ii [93,58,32] l with
 |none=>
  rw[hf] at ef;refine⟨_,rfl,_,_,rfl,rfl,_,rfl,?_⟩;refine ite2 (λ_=>?_) (λc=>?_)
  ·refine ite2 (λ_=>?_) (λc=>absurd rfl c);exact q .non H (Same.refl H) (by unfold defC;rw[hf];exact rfl)
  ·exfalso;rw[ef] at c;exact c ∅
 |some p=>
 rw[hf] at ef;dsimp only at ef ⊢;rw[ef];have hp0:(0:Int)<=(p:Int):=Int.natCast_nonneg p
 try dsimp only[tAsg.K0,tDrop.K0,Ends.to_nx,Ends.to_rt,tSeq,al]
 refine s_if _ (t_or false (![91].isPrefixOf l) (λR h=>⟨_,rfl,_,_,rfl,rfl,_,rfl,?_⟩) (λ_ H1 s1=>lL _ (di l [91] hl rfl (λR' h=>⟨_,rfl,h⟩)))) (λH0 s0 c=>?_) (λH0 s0 c=>?_)
 ·rw[show decide ((p:Int) < 0)=false from decide_eq_false nofun];exact h H (Same.refl H)
 ·have c':¬ [91].isPrefixOf l=true:=λz=>by rw[z] at c;cases c
  exact q .non H0 s0 (by unfold defC;rw[hf];simp only[];rw[if_pos c'];exact rfl)
 have h1:[91].isPrefixOf l=true:=by
  cases z:[91].isPrefixOf l with
  |true=>rfl
  |false=>rw[z] at c;cases c
 refine⟨_,rfl,_,rfl,_,rfl,big ∅,_,_,rfl,rfl,_,rfl,_,rfl,bigS hl,l.drop (p+3),?_,?_,λW H1 s1 hW eW=>?_⟩
 ·show [V.str (Txt.slice (S l) (some ((p:Int)+3)) none)]=_;rw[show (p:Int)+3=((p+3:Nat):Int) by omega,dH]
 ·rw[l29];omega
 have hlen2:((l.drop 2).take (p - 2)).length<=1000000:=by rw[l34,l29];omega
 have hlen1:((l.drop 1).take (p - 1)).length<=1000000:=by rw[l34,l29];omega
 have e2:[V.str (Txt.slice (S l) (some 2) (some (p:Int)))]=[vS ((l.drop 2).take (p - 2))]:=by rw[show Txt.slice (S l) (some 2) (some (p:Int))=_ from t8 l 2 p]
 have e1:[V.str (Txt.slice (S l) (some 1) (some (p:Int)))]=[vS ((l.drop 1).take (p - 1))]:=by rw[show Txt.slice (S l) (some 1) (some (p:Int))=_ from t8 l 1 p]
 have hws:(l.drop (p+3)).length<=1000000:=by rw[l29];omega
 try dsimp only[tAsg.K0,tDrop.K0,Ends.to_nx,Ends.to_rt,tSeq,al]
 refine s_if _ (km ([91,94].isPrefixOf l) (bF ((l.drop 2).take (p - 2))) (di l [91,94] hl rfl (λR' h=>⟨_,rfl,h⟩)) (λ_ H2 s2 R h=>?_)) (λH2 s2 c=>?_) (λH2 s2 c=>?_)
 ·exact⟨_,rfl,_,rfl,_,rfl,_,rfl,_,rfl,bigS hl,_,e2,hlen2,λH' s'=>⟨_,rfl,h H' s'⟩⟩
 ·rw[Bool.and_eq_true] at c;refine⟨_,rfl,_,rfl,_,rfl,_,rfl,_,rfl,bigS hl,_,e2,hlen2,c.2,λH3 s3=>⟨rfl,_,rfl,S [32],W,(bj (l.drop (p+3))).map S,rfl,rfl,?_,kj _ hws,bg3,λr hr3=>?_⟩⟩
  ·exact SqL.of (by rw[(s2.trans s3) _ _ eW,pD])
  ·refine q _ _ (((s0.trans s1).trans (s2.trans s3)).trans (ac hr3 _)) ?_;unfold defC;rw[hf];simp only[];rw[if_neg (by rw[h1];simp),if_pos c];refine⟨r,rfl,?_⟩;show upd _ _ _ _=_;rw[aa,fg];rfl
 try dsimp only[Ends.to_nx,Ends.to_rt,tSeq,aY]
 have hsq:∀H',Same H1 H'->SqL K H' W ((bj (l.drop (p+3))).map vS):=λH' s'=>SqL.of (s' _ _ eW);refine s_if _ (km (bF ((l.drop 1).take (p - 1))) (decide ((bj (l.drop (p+3))).length=1)) (λR h=>?_) (λ_ H3 s3 R h=>?_)) (λH3 s3 d=>?_) (λH3 s3 d=>?_)
 ·exact⟨_,rfl,_,rfl,_,rfl,_,rfl,_,rfl,bigS hl,_,e1,hlen1,λH' s'=>⟨_,rfl,h H' s'⟩⟩
 ·refine⟨_,rfl,_,_,rfl, .inl (hsq _ (s2.trans s3)),rfl,_,rfl,?_⟩;rw [l5,lw,show ((((bj (l.drop (p+3))).length:Nat):Int)==1)=decide ((bj (l.drop (p+3))).length=1) by
   rw[Bool.eq_iff_iff];simp;omega]
  exact h H3 (Same.refl H3)
 ·rw[Bool.and_eq_true] at d;obtain⟨d1,d2⟩:=d;have d2:=of_decide_eq_true d2;obtain⟨x,hx⟩:=List.length_eq_one_iff.mp d2;refine⟨_,rfl,_,rfl,_,rfl,_,rfl,_,rfl,bigS hl,_,e1,hlen1,d1,λH4 s4=>⟨_,rfl,W,_,0,vS x,rfl,rfl,hsq _ ((s2.trans s3).trans s4),by rw[hx];rfl,bg3,λr hr3=>?_⟩⟩;refine q _ _ (((s0.trans s1).trans ((s2.trans s3).trans s4)).trans (ac hr3 _)) ?_;unfold defC;rw[hf];simp only[];rw[if_neg (by rw[h1];simp),if_neg (by intro z;rw[z.1,z.2] at c;cases c),if_pos ⟨d1,d2⟩];refine⟨r,rfl,?_⟩;show upd _ _ _ _=_;rw[aa,hx];rfl
 ·refine q _ _ ((s0.trans s1).trans (s2.trans s3)) ?_;unfold defC;rw[hf];simp only[];rw[if_neg (by rw[h1];simp),if_neg (by intro z;rw[z.1,z.2] at c;cases c),if_neg (by intro z;rw[z.1,decide_eq_true z.2] at d;cases d)];rfl
abbrev vJ:Stmt:=top 35
def vK (F:Fun K "item_or_plain" "item_or_plain" vJ f fd)(T:Tx mg)(Di:Def P w K mg base 2 "tidy" ["text"] spTidy):FnOk P w K mg base CX0 3 f fd ["bare"] (spItem K):=by
 have sc:FnScope ["bare","body","far"] ["bare"] (ab vJ):=mkS;refine F.oks sc λH Q hr h=>?_;obtain⟨l,rfl,hl,q⟩:=h;refine ak (xbc (xst (i:=1) sc.nd (xm plainAttrs_str slot_str_lstrip type_str_lstrip ga (xv 0) (xac xstr xa0)))
  (xbc (xst (i:=2) sc.nd (xop iA (xcB aJ T.g10 PySem.boot_len (xac (xv 0) xa0)) (xcB aJ T.g10 PySem.boot_len (xac (xv 1) xa0))))
  (xbc (xif (xor (bq (xm plainAttrs_str slot_str_startswith type_str_startswith aH (xv 1) (xac xstr xa0))) (xor1 (bq (xm plainAttrs_str slot_str_startswith type_str_startswith aH (xv 1) (xac xstr xa0))))).xt (xb1 (xret (xtup (xac xstr (xac (xv 2) (xac (xix f9 (xv 1) xint (λ_ _=>rfl)) (xac (xcd Di hr (xac (xsl bR (xv 1) (xo1 xint) xo0) xa0)) xa0))))))) xb0)
  (xb1 (xret (xtup (xac xstr (xac (xv 2) (xac (xcd Di hr (xac (xv 1) xa0)) xa0))))))))) ?_
 refine⟨_,rfl,rfl,_,_,rfl,rfl,bigS hl,?_⟩
 try dsimp only[tAsg.K0,tDrop.K0,Ends.to_nx,Ends.to_rt]
 rw[show Txt.lstripChars (S l) (Str.ofString " ")=_ from fS l [32]];have hsplit:=gF ([32]:List Nat).contains l;obtain⟨body,v7⟩:∃body,body=l.dropWhile ([32]:List Nat).contains:=⟨_,rfl⟩;rw[<- v7] at hsplit ⊢;have hb:body.length<=1000000:=by omega
 refine⟨_,rfl,_,rfl,bigS hl,_,rfl,_,rfl,bigS hb,_,_,rfl,rfl,?_⟩
 try dsimp only[tAsg.K0,tDrop.K0,Ends.to_nx,Ends.to_rt,tSeq,al]
 rw[aw,aw,show (l.length:Int) - (body.length:Int)=((l.length - body.length:Nat):Int) by omega];refine s_if _ (t_or ([45,32].isPrefixOf body) ([43,32].isPrefixOf body) (di body [45,32] hb rfl (λR' h=>⟨_,rfl,h⟩)) (λ_ H1 s1=>di body [43,32] hb rfl (λR' h=>⟨_,rfl,h⟩))) (λH0 s0 c=>?_) (λH0 s0 c=>?_)
 ·have c':[45,32].isPrefixOf body=true ∨ [43,32].isPrefixOf body=true:=by rwa [Bool.or_eq_true] at c
  have h1:0 < body.length:=by
   rcases c' with c' |c' <;> rw[pre2] at c' <;> exact(List.getElem?_eq_some_iff.mp c'.1).1
  refine ⟨_,rfl,_,rfl,_,_,_,rfl,rfl,bigS hb,at_S h1,_,rfl,_,rfl,_,rfl,bigS hb,body.drop 2,by rw[show Txt.slice (S body) (some 2) none=_ from dH body 2];rfl,by rw[l29];omega,
   λH1 s1=>⟨bg4,λr hr1=>?_⟩⟩
  refine q _ _ ((s0.trans s1).trans (ac hr1 _)) ?_;unfold pw;simp only[];rw[<- v7,if_pos c'];show upd _ _ _ _=_;rw[aa];have e0:body.headD 0=body.getD 0 0:=by cases body <;> rfl
  rw[e0];rfl
 ·have c':¬ ([45,32].isPrefixOf body=true ∨ [43,32].isPrefixOf body=true):=by
   intro z;rw[Bool.or_eq_false_iff] at c;rcases z with z |z
   ·rw[z] at c;exact Bool.noConfusion c.1
   ·rw[z] at c;exact Bool.noConfusion c.2
  refine⟨_,rfl,_,rfl,body,rfl,hb,λH1 s1=>⟨bg3,λr hr1=>?_⟩⟩;refine q _ _ ((s0.trans s1).trans (ac hr1 _)) ?_;unfold pw;simp only[];rw[<- v7,if_neg c'];show upd _ _ _ _=_;rw[aa];rfl
abbrev vL:Stmt:=top 30
def vM (F:Fun K "sort_of" "sort_of" vL f fd)(T:Tx mg)(Di:Def P w K mg base 2 "tidy" ["text"] spTidy)(DT:Def P w K mg base 1 "rest_of_quote" ["row"] spRest)(DU:Def P w K mg base 1 "heading_level" ["bare"] spHead)
  (DV:Def P w K mg base 2 "is_cells" ["bare"] spIsC)(DW:Def P w K mg base 3 "split_cells" ["text"] spCells)(DX:Def P w K mg base 3 "definition_of" ["bare"] (spDef K))(DY:Def P w K mg base 3 "item_or_plain" ["bare"] (spItem K)):
  FnOk P w K mg base CX0 4 f fd ["row"] (spSort K):=by
 have sc:FnScope ["row","bare","level","definition"] ["row"] (ab vL):=mkS;refine F.oks sc λ{_ _ _ s _ _}H Q hr h=>?_;obtain⟨l,rfl,hl,q⟩:=h;refine ak (xbc (xst (i:=1) sc.nd (xm plainAttrs_str PySem.F.slot_str_rstrip PySem.F.type_str_rstrip jU (xv 0) (xac xstr xa0)))
  (xbc (xif (aA aI (xv 1) xstr (ai _)) (xb1 (xret (xtup (xac xstr xa0)))) xb0)
  (xbc (xif (bq (xm plainAttrs_str slot_str_startswith type_str_startswith aH (xv 1) (xac xstr xa0))) (xb1 (xret (xtup (xac xstr (xac (xcd DT hr (xac (xv 0) xa0)) xa0))))) xb0)
  (xbc (xif (aA aI (xv 1) (xgS T.q12) (ai _)) (xb1 (xret (xtup (xac xstr xa0)))) xb0)
  (xbc (xst (i:=2) sc.nd (xcd DU hr (xac (xv 1) xa0)))
  (xbc (xif (aA jG (xv 2) xint (ai _)) (xb1 (xret (xtup (xac xstr (xac (xv 2) (xac (xcd Di hr (xac (xsl bR (xv 1) (xo1 (xv 2)) xo0) xa0)) xa0)))))) xb0)
  (xbc (xif (bq (xcd DV hr (xac (xv 1) xa0))) (xb1 (xret (xtup (xac xstr (xac (xcd DW hr (xac (xsl bR (xv 1) (xo1 xint) (xo1 (xun fZ xint))) xa0)) xa0))))) xb0)
  (xbc (xst (i:=3) sc.nd (xcd DX hr (xac (xv 1) xa0)))
  (xbc (xif (aA oN (xv 3) xnon (ai _)) (xb1 (xret (xv 3))) xb0)
  (xb1 (xret (xcd DY hr (xac (xv 1) xa0))))))))))))) ?_
 refine⟨_,rfl,rfl,_,_,rfl,rfl,bigS hl,?_⟩
 try dsimp only[tAsg.K0,tDrop.K0,Ends.to_nx,Ends.to_rt,tSeq,al]
 rw[show Txt.rstripChars (S l) (Str.ofString " ")=S (si l) from mI l [32]];have hbl:=ss l;obtain⟨b,hb⟩:∃b,b=si l:=⟨_,rfl⟩;rw[<- hb] at hbl ⊢;have hbl:b.length<=1000000:=by omega
 have mk:∀(r:Srt) ,gB l=r->∀p H',Same H H'->SrtAt K H' p r->Q (.ref p) H':=λr e p H' s' h=>q p H' s' (by rw[e];exact h);refine s_if _ (t_eq b [] rfl (λR' h=>⟨_,rfl,h⟩)) (λH0 s0 c=>?_) (λH0 s0 c=>?_)
 ·have c:=of_decide_eq_true c;refine⟨bg1,λr hr1=>mk .empty ?_ _ _ (s0.trans (ac hr1 _)) aa⟩;unfold gB;simp only[];rw[<- hb,if_pos c]
 have c1:=of_decide_eq_false c
 try dsimp only[Ends.to_nx,Ends.to_rt,aY]
 refine s_if _ (di b [62] hbl rfl (λR' h=>⟨_,rfl,h⟩)) (λH1 s1 c=>?_) (λH1 s1 c2=>?_)
 ·refine⟨_,rfl,l,rfl,hl,bg2,λr hr1=>mk (.quote (lK l)) ?_ _ _ ((s0.trans s1).trans (ac hr1 _)) aa⟩;unfold gB;simp only[];rw[<- hb,if_neg c1,if_pos c]
 have c2:=Bool.eq_false_iff.mp c2
 try dsimp only[Ends.to_nx,Ends.to_rt,aY]
 refine s_if _ (t_eq b [126,126,126] rfl (λR' h=>⟨_,rfl,h⟩)) (λH2 s2 c=>?_) (λH2 s2 c3=>?_)
 ·have c:=of_decide_eq_true c;refine⟨bg1,λr hr1=>mk .fence ?_ _ _ (((s0.trans s1).trans s2).trans (ac hr1 _)) aa⟩;unfold gB;simp only[];rw[<- hb,if_neg c1,if_neg c2,if_pos c]
 have c3:=of_decide_eq_false c3
 try dsimp only[Ends.to_nx,Ends.to_rt,aY]
 have s02:=(s0.trans s1).trans s2;refine⟨_,rfl,b,rfl,hbl,?_⟩;refine⟨_,rfl,_,_,rfl,rfl,_,rfl,?_⟩;refine ite2 (λc=>?_) (λc4=>?_)
 ·have c:=of_decide_eq_true c;refine⟨_,rfl,_,rfl,_,rfl,_,rfl,_,rfl,bigS hbl,b.drop (ed b),by rw[dH];rfl,by rw[l29];omega,λH3 s3=>⟨bg3,λr hr1=>mk (.heading (ed b) (ff (b.drop (ed b)))) ?_ _ _ ((s02.trans s3).trans (ac hr1 _)) aa⟩⟩;unfold gB;simp only[];rw[<- hb,if_neg c1,if_neg c2,if_neg c3,if_pos nofun]
 have c4:¬ ed b > 0:=by
  have:=of_decide_eq_false (Bool.eq_false_iff.mpr c4);omega
 try dsimp only[Ends.to_nx,Ends.to_rt,aY]
 refine⟨_,rfl,b,rfl,hbl,_,rfl,?_⟩;refine ite2 (λc=>?_) (λc5=>?_)
 ·have h2:2<=b.length:=by
   unfold b8 at c;rw[Bool.and_eq_true,Bool.and_eq_true] at c;exact of_decide_eq_true c.1.1
  refine⟨_,rfl,_,rfl,_,rfl,_,rfl,_,rfl,bigS hbl,(b.drop 1).take (b.length - 2),?_,by rw[l34,l29];omega,λr H3 s3 hr3 er=>⟨bg2,λp hp=>?_⟩⟩
  ·show [V.str (Txt.slice (S b) (some 1) (some (-1)))]=_;rw[gw,pE b h2]
  ·have hrp:r≠p:=λz=>by rw[<- z,er] at hp;cases hp
   refine mk (.cells (j2 ((b.drop 1).take (b.length - 2)))) ?_ _ _ ((s02.trans s3).trans (ac hp _)) ⟨r,aa,by rw[ad hrp];exact er⟩;unfold gB;simp only[];rw[<- hb,if_neg c1,if_neg c2,if_neg c3,if_neg c4,if_pos c]
 try dsimp only[Ends.to_nx,Ends.to_rt,aY]
 refine⟨_,rfl,b,rfl,hbl,λv H3 s3 hv=>?_⟩;refine⟨_,rfl,rfl,_,rfl,?_⟩;have es:gB l=match defC b with |some d=>d |none=>pw b:=by
  unfold gB;simp only[];rw[<- hb,if_neg c1,if_neg c2,if_neg c3,if_neg c4,if_neg c5]
  all_goals (cases defC b <;> rfl)
 cases hd:defC b with
 |some d=>
  rw[hd] at hv es;obtain⟨p,rfl,hp⟩:=hv;exact⟨_,rfl,mk d es p H3 (s02.trans s3) hp⟩
 |none=>
  rw[hd] at hv es;cases hv;exact⟨_,rfl,b,rfl,hbl,λp H4 s4 h4=>mk _ es p H4 ((s02.trans s3).trans s4) h4⟩
end
section
variable {K:Frag}{σ:St}{H:Hp}{ta tb:TE}{a b:List Nat}
def zu (h1 : Ev ta σ H (vS a)) (h2 : Ev tb σ H (vS b)) : Ev (tOp rEq ta tb) σ H (.bl (decide (a = b))) := fun R r => h1 _ (h2 _ ⟨rfl,by
 have:decide (vS a=vS b)=decide (a=b):=decide_eq_decide.mpr ⟨λh=>iX (V.str.inj h),λh=>by rw[h]⟩;rw[this];exact r⟩)
def zv (h1 : Ev ta σ H (vS a)) (h2 : Ev tb σ H (vS b)) : Ev (tOp rNe ta tb) σ H (.bl (decide (a ≠ b))) := fun R r => h1 _ (h2 _ ⟨rfl,by
 have:(!decide (vS a=vS b))=decide (a≠b):=by
  rw[<- decide_not];exact decide_eq_decide.mpr ⟨λh e=>h (by rw[e]),λh e=>h (iX (V.str.inj e))⟩
 rw[this];exact r⟩)
def vN {p q : Bool} (h1 : Ev ta σ H (.bl p)) (h2 : p = true -> Ev tb σ H (.bl q)) : Ev (tAndV ta tb) σ H (.bl (p && q)) := fun R r => h1 _ ⟨p,rfl,by
 cases p with
 |false=>exact iteF r
 |true=>exact iteT (h2 rfl _ r)⟩
def yi {f:Str->Str->V}{y:Str}(h:Ev ta σ H (vS a))(hl:a.length<=1000000):Ev (tBM K "str" (rS2 f) ta (tCons (tC (.str y)) tNil)) σ H (f (S a) y):=λR r=>h _ ⟨rfl,_,_,rfl,rfl,bigS hl,r⟩
end
section
abbrev gU:Stmt:=top 24
inductive spCellText (vs:List V)(H:Hp)(Q:VK)(u3:XK):Prop
 |mk (l:List Nat)(_:vs=[vS l])(_:l.length<=1000000)(_:Q (vS (Lm.escC l)) H)
def lV (F:Fun K "cell_text" "cell_text" gU f fd):FnOk P w K mg base CX0 1 f fd ["text"] spCellText:=by
 have sc:FnScope ["text"] ["text"] (ab gU):=mkS;refine F.oks sc λH Q hr h=>?_;obtain⟨l,rfl,hl,q⟩:=h;refine ak (xb1 (xret (o9 (xv 0) ∅ ∅))) ?_;refine⟨_,rfl,_,rfl,by rw[aw];exact hl,?_⟩;rw[show Txt.replace (S l) (Str.ofString "|") (Str.ofString "\\|")=S (Lm.escC l) from lF 124 [92,124] l];exact q
abbrev vO:Stmt:=top 25
inductive spRule (vs:List V)(H:Hp)(Q:VK)(u3:XK):Prop
 |mk (l:List Nat)(_:vs=[vS l])(_:l.length<=1000000)(_:∀H',Same H H'->Q (.bl (il l)) H')
def vP (F:Fun K "is_rule" "is_rule" vO f fd):FnOk P w K mg base CX0 1 f fd ["text"] spRule:=by
 have sc:FnScope ["text","dashes"] ["text"] (ab vO):=mkS;refine F.oks sc λH Q hr h=>?_;obtain⟨l,rfl,hl,q⟩:=h;refine ak (xbc (xst (i:=1) sc.nd (xifE (bq (xm plainAttrs_str PySem.F.slot_str_endswith PySem.F.type_str_endswith lA (xv 0) (xac xstr xa0))) (xsl bR (xv 0) xo0 (xo1 (xun fZ xint))) (xv 0)))
  (xb1 (xret (o8 (xcmp iQ (xv 1) xstr (ai _)) (xone (xcmp aI (xm plainAttrs_str PySem.F.slot_str_strip PySem.F.type_str_strip rP (xv 1) (xac xstr xa0)) xstr (ai _))))))) ?_
 have key:∀d,d=pQ l->Ev (tAndV (tOp rNe (tVar 1) (tC (.str (Str.ofString "")))) (tOp rEq (tBM K "str" (rS2 λz y => .str (Txt.stripChars z y)) (tVar 1) (tCons (tC (.str (Str.ofString "-"))) tNil)) (tC (.str (Str.ofString ""))))) [some (vS l),some (vS d)] H (.bl (il l)):=by
  intro d hd;have hdl:d.length<=1000000:=by
   rw[hd];unfold pQ;split
   ·rw[List.length_dropLast];omega
   ·exact hl
  have e:il l=(decide (d≠[])&&decide ((Txt.stripChars (S d) (S [45])).cps.toList=[])):=by
   rw[Bool.eq_iff_iff,sK,<- hd,Bool.and_eq_true,decide_eq_true_iff,decide_eq_true_iff,<- pR];refine and_congr_right λ_=>⟨λz=>by rw[z],λz=>?_⟩;rw[<- S_of (Txt.stripChars (S d) (S [45])),z]
  rw[e];refine vN (zv (ev_v rfl) (bU (b:=[]) rfl)) λ_=>zu ?_ (bU (b:=[]) rfl);rw[show vS (Txt.stripChars (S d) (S [45])).cps.toList=V.str (Txt.stripChars (S d) (S [45])) by show V.str (S _)=_;rw[S_of]];exact yi (f:=λz y => .str (Txt.stripChars z y)) (ev_v rfl) hdl
 refine⟨_,rfl,rfl,_,_,rfl,rfl,bigS hl,_,rfl,?_⟩;rw[show Txt.endswith (S l) (Str.ofString ":")=decide (l.getLast? = some 58) from x8 l 58];refine ite2 (λe=>?_) (λe=>?_)
 ·refine pL (σ:=[some (vS l),none]) (H:=H) hl (ev_v (k:=0) rfl) pJ (pK (pI (i:=1) (g:=λi => .int (-i)) ev_c rfl)) (sI l) _ ?_;exact key l.dropLast (if_pos (of_decide_eq_true e)).symm _ (q H (Same.refl H))
 ·refine⟨_,rfl,?_⟩;exact key l (if_neg (λz=>e (decide_eq_true z))).symm _ (q H (Same.refl H))
end
end K12
namespace L2
open PySem PySem.Spec PyProof.Rows
open Builtin Builtin.Str
end L2
namespace Lm
open PySem PySem.Spec L2 Lw PyProof.Rows Builtin Builtin.Str
end Lm
namespace Lw
open PySem L2 Lm
def kv (l:List Nat):(bD l).length<=2 * l.length:=by
 unfold bD
 induction l with
 |nil=>exact l7 _
 |cons x l ih=>
  rw[l56,l6,l9];have:(grd x).length<=2:=by unfold grd;split <;> simp
  omega
def ky {l:List Nat}(h:Asc l):Asc (bD l):=λc hc=>by
 obtain⟨x,hx,hc⟩:=l51.mp hc;unfold grd at hc;split at hc
 ·rcases l8.mp hc with z |z
  ·omega
  ·rw[l14.mp z];exact h x hx
 ·rw[l14.mp hc];exact h x hx
def kz (b:Bool)(t:List Nat):(bt b t).length<=t.length+1:=by
 unfold bt;split
 ·exact l7 _
 ·omega
def kA {b:Bool}{t:List Nat}(h:Asc t):Asc (bt b t):=by
 unfold bt;split
 ·intro c hc;rcases l8.mp hc with z |z
  ·omega
  ·exact h c z
 ·exact h
def mT (p:P1):(raw1 p).length<=2 * sz1 p:=by
 cases p with
 |plain s=>exact kv _
 |code s=>show ([96]++s.cps.toList++[96]).length<=2 * (s.cps.toList.length+2);rw[l6,l6];show 1+_+1<=_;omega
 |link w n=>
  show ([91]++bG w.cps.toList++bD w.cps.toList++[93,40]++n.cps.toList++[41]).length<=2 * (w.cps.toList.length+n.cps.toList.length+20);have h1:=kv w.cps.toList;have h2:(bG w.cps.toList).length<=1:=by unfold bG;split <;> simp
  simp only[l6,l9,l32];omega
 |note n=>show ([91,94]++n.cps.toList++[93]).length<=2 * (n.cps.toList.length+20);simp only[l6,l9,l32];omega
def aE (l:List Nat)(h:l.all (λc=>decide (c < 128))=true):Asc l:=λc hc=>of_decide_eq_true (l49.mp h c hc)
def mU {p:P1}(h:Ok1 p):Asc (raw1 p):=by
 cases p with
 |plain s=>exact ky h.1
 |code s=>exact av (av (aE _ rfl) h) (aE _ rfl)
 |link w n=>
  have h2:Asc (bG w.cps.toList):=by unfold bG;split <;> exact aE _ rfl
  exact av (av (av (av (av (aE _ rfl) h2) (ky h.1)) (aE _ rfl)) h.2) (aE _ rfl)
 |note n=>exact av (av (aE _ rfl) h) (aE _ rfl)
def mV:∀{b:Bool} {ps:List P1},(∀p∈ps,Ok1 p)->(eF b ps).length<=3 * (ps.map sz1).sum/\Asc (eF b ps)
 |_,[],_=>⟨l7 _,λ_ z=>nomatch z⟩
 |b,p::r,h=>by
  obtain⟨i1,i2⟩:=mV (b:=ek (.one p)) (ps:=r) λq hq=>h q (l15 _ hq);have hp:=h p l10;have h1:=mT p;have h2:=kz b (raw1 p);have h3:=pT hp;refine⟨?_,av (kA (mU hp)) i2⟩;show (bt b (raw1 p)++eF _ r).length<=_;rw[l6,l20,l35];omega
def vQ {p:PC}(h:OkC p):(rawP p).length<=3 * szC p/\Asc (rawP p)/\1<=szC p:=by
 cases p with
 |one p=>
  have h1:=mT p;exact⟨by show (raw1 p).length<=3 * sz1 p;omega,mU h,pT h⟩
 |strong ps=>
  obtain⟨i1,i2⟩:=mV (b:=false) h;refine⟨?_,av (av (aE _ rfl) i2) (aE _ rfl),by show 1<=_+2;omega⟩;show ([42]++eF false ps++[42]).length<=3 * ((ps.map sz1).sum+2);rw[l6,l6];show 1+_+1<=_;omega
def qa:∀{b:Bool} {D:List PC},(∀p∈D,OkC p)->(raws b D).length<=4 * (D.map szC).sum/\Asc (raws b D)
 |_,[],_=>⟨l7 _,λ_ z=>nomatch z⟩
 |b,p::r,h=>by
  obtain⟨i1,i2⟩:=qa (b:=ek p) (D:=r) λq hq=>h q (l15 _ hq);obtain⟨h1,h2,h3⟩:=vQ (h p l10);have h4:=kz b (rawP p);refine⟨?_,av (kA h2) i2⟩;show (bt b (rawP p)++raws _ r).length<=_;rw[l6,l20,l35];omega
def Ls {α:Type}(R:Addr->α->Prop):List Addr->List α->Prop
 | [],[]=>True
 |a::as,x::xs=>R a x/\Ls R as xs
 |_,_=>False
section
variable {α:Type}{R R':Addr->α->Prop}{as:List Addr}{xs:List α}
def Ls.mono (h:Ls R as xs)(k:∀a x,R a x->R' a x):Ls R' as xs:=by
 induction as generalizing xs with
 |nil=>
  cases xs with
  |nil=>trivial
  |cons _ _=>exact h.elim
 |cons a as ih=>
  cases xs with
  |nil=>exact h.elim
  |cons x xs=>exact⟨k _ _ h.1,ih h.2⟩
def Ls.len (h:Ls R as xs):as.length=xs.length:=by
 induction as generalizing xs with
 |nil=>
  cases xs with
  |nil=>rfl
  |cons _ _=>exact h.elim
 |cons a as ih=>
  cases xs with
  |nil=>exact h.elim
  |cons x xs=>exact congrArg (· + 1) (ih h.2)
def Ls.get {i:Nat}{v:V}(h:Ls R as xs)(hv:(as.map V.ref)[i]? = some v):∃a x,v = .ref a/\xs[i]? = some x/\xs.drop i=x::xs.drop (i+1)/\R a x:=by
 induction as generalizing xs i with
 |nil=>cases hv
 |cons a as ih=>
  cases xs with
  |nil=>exact h.elim
  |cons x xs=>
   cases i with
   |zero=>cases hv;exact⟨a,x,rfl,rfl,rfl,h.1⟩
   |succ i=>
    obtain⟨a',x',h1,h2,h3,h4⟩:=ih (i:=i) h.2 (by simpa using hv);exact⟨a',x',h1,by simpa using h2,by simpa using h3,h4⟩
def Ls.snoc {a:Addr}{x:α}(h:Ls R as xs)(k:R a x):Ls R (as++[a]) (xs++[x]):=by
 induction as generalizing xs with
 |nil=>
  cases xs with
  |nil=>exact⟨k,trivial⟩
  |cons _ _=>exact h.elim
 |cons _ _ ih=>
  cases xs with
  |nil=>exact h.elim
  |cons _ _=>exact⟨h.1,ih h.2⟩
end
def LAt {α:Type}(R:Hp->Addr->α->Prop)(H:Hp)(l:Addr)(xs:List α):Prop:=∃as:List Addr,H l=some (.lst (as.map V.ref))/\Ls (R H) as xs
def MoR {α:Type}(R:Hp->Addr->α->Prop):Prop:=∀G G' a x,Same G G'->R G a x->R G' a x
def LAt.same {α:Type}{R:Hp->Addr->α->Prop}(m:MoR R){H H':Hp}{l:Addr}{xs:List α}(s:Same H H')(h:LAt R H l xs):LAt R H' l xs:=
 let ⟨as,e,k⟩:=h;⟨as,s _ _ e,k.mono λa x=>m _ _ a x s⟩
def gV {α:Type}{R:Hp->Addr->α->Prop}(m:MoR R):MoR (LAt R):=λ_ _ _ _ s h=>h.same m s
def PL (c:Cp)(H:Hp)(l:Addr)(ps:List PC):Prop:=∃as:List Addr,H l=some (.lst (as.map V.ref))/\PCs c H as ps
def gW {c:Cp}:MoR (PL c):=λ_ _ _ _ s ⟨as,e,k⟩=>⟨as,s _ _ e,k.same s⟩
structure EnF (β:Type) where
 sign:Bool
 parts:List PC
 within:List β
def En:Nat->Type
 |0=>Empty
 |n+1=>EnF (En n)
def cw (b:Bool):List Nat:=if b then [43] else [45]
def dE:(n:Nat)->En n->PyData
 |0,e=>nomatch e
 |n+1,e => .tuple [.str (S (cw (EnF.sign e))), .list ((EnF.parts e).map dP), .list ((EnF.within e).map (dE n))]
def bW:(n:Nat)->List Nat->List (En n)->List (List Nat)
 |0,_,_=>[]
 |n+1,ah,es=>es.flatMap λe=>(ah++cw (EnF.sign e)++[32]++raws false (EnF.parts e))::bW n (ah++[32,32]) (EnF.within e)
structure Cb where
 cp:Cp
 Heading:Addr
 Para:Addr
 Literal:Addr
 Quote:Addr
 Naming:Addr
 Noting:Addr
 Entry:Addr
 Listing:Addr
 Table:Addr
inductive BkF (β:Type) where
 |heading (n:Nat) (ps:List PC)
 |para (ps:List PC)
 |lst (es:List (En 6))
 |table (hd:List (List PC)) (sd:List Bool) (ls:List (List (List PC)))
 |lit (ls:List (List Nat))
 |quote (bs:List β)
 |name (n t:List Nat)
 |note (n:List Nat) (ps:List PC)
def Bl:Nat->Type
 |0=>BkF Empty
 |n+1=>BkF (Bl n)
def cr (b:Bool):List Nat:=if b then [114,105,103,104,116] else [108,101,102,116]
def bI (cs:List (List PC)):PyData := .list (cs.map λps => .list (ps.map dP))
def dBF {β:Type}(f:β->PyData):BkF β->PyData
 | .heading n ps => .tuple [.str "heading", .int n, .list (ps.map dP)]
 | .para ps => .tuple [.str "para", .list (ps.map dP)]
 | .lst es => .tuple [.str "list", .list (es.map (dE 6))]
 | .table hd sd ls => .tuple [.str "table",bI hd, .list (sd.map λb => .str (S (cr b))), .list (ls.map bI)]
 | .lit ls => .tuple [.str "literal", .list (ls.map λl => .str (S l))]
 | .quote bs => .tuple [.str "quote", .list (bs.map f)]
 | .name n t => .tuple [.str "name", .str (S n), .str (S t)]
 | .note n ps => .tuple [.str "note", .str (S n), .list (ps.map dP)]
def dB:(n:Nat)->Bl n->PyData
 |0,b=>dBF (λz:Empty=>nomatch z) b
 |n+1,b=>dBF (dB n) b
def fP (r:List Nat):List Nat:=if r=[] then [62] else [62,32]++r
def betw:List (List (List Nat))->List (List Nat)
 | []=>[]
 |r::rs=>r++rs.flatMap λq=>[]::q
def kC (ps:List PC):List Nat:=Lm.escC (if il (raws false ps) then 92::raws false ps else raws false ps)
def im (ts:List (List Nat)):List Nat:=[124]++ts.flatMap λt=>if t=[] then [32,124] else [32]++t++[32,124]
def b9 (cs:List (List PC)):List Nat:=im (cs.map kC)
def cW (sd:List Bool):List Nat:=im (sd.map λb=>if b then [45,45,58] else [45,45,45])
def fN {β:Type}(plain:List Nat->Bool)(f:β->List (List Nat)):BkF β->List (List Nat)
 | .heading n ps=>[List.replicate n 61++[32]++raws false ps]
 | .para ps=>[if plain (raws false ps) then raws false ps else 92::raws false ps]
 | .lst es=>bW 6 [] es
 | .table hd sd ls=>if hd=[] then ls.map b9 else [b9 hd,cW sd]++ls.map b9
 | .lit ls=>[[126,126,126]]++ls++[[126,126,126]]
 | .quote bs=>if bs.isEmpty then [[62]] else (betw (bs.map f)).map fP
 | .name n t=>[[91]++n++[93,58,32]++t]
 | .note n ps=>[[91,94]++n++[93,58,32]++raws false ps]
def cI (plain:List Nat->Bool):(n:Nat)->Bl n->List (List Nat)
 |0,b=>fN plain (λz:Empty=>nomatch z) b
 |n+1,b=>fN plain (cI plain n) b
def EAt (c:Cb):(n:Nat)->Hp->Addr->En n->Prop
 |0,_,_,e=>nomatch e
 |n+1,H,a,e=>∃dx lp le,H a=some (.ins c.Entry dx [("sign",vS (cw (EnF.sign e))),("parts", .ref lp),("entries", .ref le)])/\PL c.cp H lp (EnF.parts e)/\LAt (EAt c n) H le (EnF.within e)
theorem gX {c:Cb}:∀n:Nat,MoR (EAt c n)
 |0=>λ_ _ _ e=>nomatch e
 |n+1=>λ_ _ _ _ s ⟨dx,lp,le,e,h1,h2⟩=>⟨dx,lp,le,s _ _ e,gW _ _ _ _ s h1,h2.same (gX n) s⟩
def BAtF {β:Type}(c:Cb)(R:Hp->Addr->β->Prop)(H:Hp)(a:Addr):BkF β->Prop
 | .heading n ps=>∃dx l,H a=some (.ins c.Heading dx [("level", .int n),("parts", .ref l)])/\PL c.cp H l ps
 | .para ps=>∃dx l,H a=some (.ins c.Para dx [("parts", .ref l)])/\PL c.cp H l ps
 | .lst es=>∃dx l,H a=some (.ins c.Listing dx [("entries", .ref l)])/\LAt (EAt c 6) H l es
 | .table hd sd ls=>∃dx lh lsd ll,H a=some (.ins c.Table dx [("head", .ref lh),("sides", .ref lsd),("lines", .ref ll)])/\LAt (PL c.cp) H lh hd/\H lsd=some (.lst (sd.map λb=>vS (cr b)))/\LAt (LAt (PL c.cp)) H ll ls
 | .lit ls=>∃dx l,H a=some (.ins c.Literal dx [("lines", .ref l)])/\H l=some (.lst (ls.map vS))
 | .quote bs=>∃dx l,H a=some (.ins c.Quote dx [("blocks", .ref l)])/\LAt R H l bs
 | .name n t=>∃dx,H a=some (.ins c.Naming dx [("name",vS n),("target",vS t)])
 | .note n ps=>∃dx l,H a=some (.ins c.Noting dx [("name",vS n),("parts", .ref l)])/\PL c.cp H l ps
def qb {β:Type}{c:Cb}{R:Hp->Addr->β->Prop}(m:MoR R):MoR (BAtF c R):=λG G' a b s h=>by
 cases b with
 |heading n ps=>obtain⟨dx,l,e,k⟩:=h;exact⟨dx,l,s _ _ e,gW _ _ _ _ s k⟩
 |para ps=>obtain⟨dx,l,e,k⟩:=h;exact⟨dx,l,s _ _ e,gW _ _ _ _ s k⟩
 |lst es=>obtain⟨dx,l,e,k⟩:=h;exact⟨dx,l,s _ _ e,k.same (gX 6) s⟩
 |table hd sd ls=>obtain⟨dx,l1,l2,l3,e,k1,k2,k3⟩:=h;exact⟨dx,l1,l2,l3,s _ _ e,k1.same gW s,s _ _ k2,k3.same (gV gW) s⟩
 |lit ls=>obtain⟨dx,l,e,k⟩:=h;exact⟨dx,l,s _ _ e,s _ _ k⟩
 |quote bs=>obtain⟨dx,l,e,k⟩:=h;exact⟨dx,l,s _ _ e,k.same m s⟩
 |name n t=>obtain⟨dx,e⟩:=h;exact⟨dx,s _ _ e⟩
 |note n ps=>obtain⟨dx,l,e,k⟩:=h;exact⟨dx,l,s _ _ e,gW _ _ _ _ s k⟩
def BAt (c:Cb):(n:Nat)->Hp->Addr->Bl n->Prop
 |0,H,a,b=>BAtF c (λ_ _ (z:Empty)=>nomatch z) H a b
 |n+1,H,a,b=>BAtF c (BAt c n) H a b
theorem dr {c:Cb}:∀n:Nat,MoR (BAt c n)
 |0=>qb λ_ _ _ z=>nomatch z
 |n+1=>qb (dr n)
def RowsOk (rs:List (List Nat)):Prop:=rs.length<=100000/\∀r∈rs,r.length<=100000/\Asc r
structure OkPs (ps:List PC):Prop where
 len:ps.length<=1000
 ok:∀p∈ps,OkC p
 sum:(ps.map szC).sum<=20000
def OkPs.r2 {ps:List PC}(h:OkPs ps):∀p∈ps,R2 p:=yd h.ok (by have:=h.sum;omega)
def OkCs (cs:List (List PC)):Prop:=cs.length<=1000/\∀ps∈cs,OkPs ps
def OkE:(n:Nat)->En n->Prop
 |0,e=>nomatch e
 |n+1,e=>OkPs (EnF.parts e)/\(EnF.within e).length<=1000/\∀x∈EnF.within e,OkE n x
def OkBF {β:Type}(ok:β->Prop):BkF β->Prop
 | .heading n ps=>n<=3/\OkPs ps
 | .para ps=>OkPs ps
 | .lst es=>es.length<=1000/\∀e∈es,OkE 6 e
 | .table hd sd ls=>OkCs hd/\sd.length<=1000/\ls.length<=1000/\∀l∈ls,OkCs l
 | .lit ls=>ls.length<=1000/\∀l∈ls,Asc l/\l.length<=1000
 | .quote bs=>bs.length<=1000/\∀b∈bs,ok b
 | .name n t=>(Asc n/\n.length<=1000)/\Asc t/\t.length<=1000
 | .note n ps=>(Asc n/\n.length<=1000)/\OkPs ps
def OkB:(n:Nat)->Bl n->Prop
 |0,b=>OkBF (λz:Empty=>nomatch z) b
 |n+1,b=>OkBF (OkB n) b
theorem sO {α:Type}{R:Addr->α->Prop}:∀{as:List Addr} {xs:List α},as.length=xs.length->(∀(i:Nat) a x,as[i]? = some a->xs[i]? = some x->R a x)->Ls R as xs
 | [],[],_,_=>trivial
 |a::as,x::xs,hl,h=>⟨h 0 a x rfl rfl,sO (by simpa using hl) λi b y hb hy=>h (i+1) b y (by simpa using hb) (by simpa using hy)⟩
def qc {K:Frag}{a:Addr}{xs:List V}{k:Nat}{fr:List Nat}{g:TG}{tt:TT}{te:TE}{σ:St}{H0:Hp}{Q:Addr->Hp->Prop}(R:Nat->Addr->Hp->Prop)(hR:∀i b G G',Same G G'->R i b G->R i b G')(hx:SqL K H0 a xs)(hl:xs.length<=1000000)
  (ht:∀(i:Nat) x,xs[i]? = some x->∀H',Same H0 H'->∀(C:V->Hp->Prop)(N:Hp->Prop),(∀b H4,Same H' H4->H' b=none->R i b (dif H' H4)->C (.ref b) H4) →
   g x (nfS k fr σ) H' λσ2 H2=>nfLe k fr σ σ2/\tt σ2 H2 λb H3=>if b=true then te σ2 H3 C else N H3)
  (hq:∀D H' (bs:List Addr),H0 D=none->Same H0 H'->H' D=some (.lst (bs.map V.ref))->bs.length=xs.length->(∀(i:Nat) b,bs[i]? = some b->R i b (dif H0 H'))->Q D H'):rLC k fr g tt te σ (Itl K a) H0 Q:=by
 intro D hD;refine⟨λi m acc H=>m=xs.length - i/\i<=xs.length/\Same H0 H/\H D=some (.lst acc)/\∃bs:List Addr,acc=bs.map V.ref/\bs.length=i/\NewQ H0 [D] H λG=>∀(j:Nat) b,bs[j]? = some b->R j b G,⟨xs.length,by simp,l16 _,ac hD _,aa,[],rfl,rfl,NewQ.triv λj b h=>by simp at h⟩,?_⟩;rintro i m acc H ⟨rfl,hi,sm,hDa,bs,rfl,hbl,hn⟩;refine⟨hDa,?_⟩;by_cases hlt:i < xs.length
 ·refine .inr ⟨⟨xs,xs[i],sm.seq hx,by simp[hlt]⟩,λx H' y=>?_⟩;obtain⟨e,y⟩:=y;rw[e];refine ht i x (y xs (sm.seq hx)) _ sm _ _ λb H4 s4 hb rb=>?_;refine⟨s4 _ _ hDa,by rw[l5,sizeLine_eq];omega,xs.length - (i+1),by omega,rfl,hlt,aj hD (sm.trans s4),aa,bs++[b],by rw[l17];rfl,by rw[l6,hbl];rfl,?_⟩;refine NewQ.upd ?_ l10;refine NewQ.join (hn.same s4) (NewQ.of (H3:=H) (R:=R i b) sm (λb' hb'=>by rw[l14.mp hb',hDa];exact λz=>nomatch z) rb) (λG G' s h j b' hj=>hR _ _ _ _ s (h j b' hj)) (λG G' s h=>hR _ _ _ _ s h) λG h1 h2 j b' hj=>?_;by_cases hji:j < bs.length
  ·rw[List.getElem?_append_left hji] at hj;exact h1 j b' hj
  ·rw[List.getElem?_append_right nofun] at hj;obtain⟨hj0,_⟩:=List.getElem?_eq_some_iff.mp hj;have hje:j=i:=by simp at hj0;omega
   subst hje;rw[hbl,Nat.sub_self] at hj;cases hj;exact h2
 ·have e:i=xs.length:=by omega
  subst e;exact .inl ⟨⟨xs,sm.seq hx,l7 _⟩,hq D H bs hD sm hDa hbl (hn.dif λG G' s h j b' hj=>hR _ _ _ _ s (h j b' hj))⟩
end Lw
namespace K12
open PySem L2 Lm Lw
structure TxB (K:Frag)(mg:Str->Option Value)(c:Cb)(BT:Addr):Prop extends TxR K mg c.cp BT where
 q12:∃t,mg "FENCE"=some (.str (S [126,126,126]) t)
 q14:mg "enumerate"=none
 u13:Inst K c.Heading
 g18:Inst K c.Para
 z22:Inst K c.Literal
 q13:Inst K c.Quote
 u14:Inst K c.Naming
 g13:Inst K c.Noting
 q11:Inst K c.Entry
 z18:Inst K c.Listing
 g11:Inst K c.Table
 q22:NoAttr K c.Heading "level"
 q18:NoAttr K c.Heading "parts"
 u19:NoAttr K c.Para "parts"
 u23:NoAttr K c.Literal "lines"
 g14:NoAttr K c.Quote "blocks"
 g23:NoAttr K c.Naming "name"
 z23:NoAttr K c.Naming "target"
 q23:NoAttr K c.Noting "name"
 g19:NoAttr K c.Noting "parts"
 u24:NoAttr K c.Entry "sign"
 z19:NoAttr K c.Entry "parts"
 q19:NoAttr K c.Entry "entries"
 u20:NoAttr K c.Listing "entries"
 z15:NoAttr K c.Table "head"
 g24:NoAttr K c.Table "sides"
 g20:NoAttr K c.Table "lines"
section
variable {c:Cb}{BT:Addr}
inductive spInitL (C:Addr)(fl:Str)(vs:List V)(H:Hp)(Q:VK)(u3:XK):Prop
 |mk (x dx l xs)(_:vs=[.ref x, .ref l])(_:H x=some (.ins C dx []))(_:H l=some (.lst xs))(_:∀p H',H p=none->KeepX x H H'->H' p=some (.lst xs)->H' x=some (.ins C dx [(fl, .ref p)])->Q .non H')
inductive spInitVL (C:Addr)(f1 f2:Str)(vs:List V)(H:Hp)(Q:VK)(u3:XK):Prop
 |mk (x dx v l xs)(_:vs=[.ref x,v, .ref l])(_:H x=some (.ins C dx []))(_:H l=some (.lst xs))(_:∀p H',H p=none->KeepX x H H'->H' p=some (.lst xs)->H' x=some (.ins C dx [(f1,v),(f2, .ref p)])->Q .non H')
inductive spInitE (C:Addr)(vs:List V)(H:Hp)(Q:VK)(u3:XK):Prop
 |mk (x dx v l xs m ys)(_:vs=[.ref x,v, .ref l, .ref m])(_:H x=some (.ins C dx []))(_:H l=some (.lst xs))(_:H m=some (.lst ys))(_:∀p r H',H p=none->H r=none->KeepX x H H'->H' p=some (.lst xs)->H' r=some (.lst ys)->H' x=some (.ins C dx [("sign",v),("parts", .ref p),("entries", .ref r)])->Q .non H')
def ca {x p:Addr}{H:Hp}{o:HO}(h:H p=none):KeepX x H (upd H p o):=λb o' _ e=>(ad (nq h e)).trans e
def keep_upd {x:Addr}{H:Hp}{o:HO}:KeepX x H (upd H x o):=λb o' nb e=>(ad nb).trans e
def ax {x b:Addr}{H H':Hp}(k:KeepX x H H')(hb:b≠x)(h:H' b=none):H b=none:=by
 cases e:H b with
 |none=>rfl
 |some o=>rw[k b o hb e] at h;cases h
abbrev cX:Stmt:=meth 38 0
abbrev gY:Stmt:=meth 39 0
abbrev cY:Stmt:=meth 40 0
abbrev fv:Stmt:=meth 41 0
abbrev dM:Stmt:=meth 42 0
abbrev dN:Stmt:=meth 43 0
abbrev fw:Stmt:=meth 47 0
abbrev cZ:Stmt:=meth 48 0
abbrev fx:Stmt:=meth 53 0
def lW (F:Fun K "__init__" "Para.__init__" gY f fd)(T:TxB K mg c BT):FnOk P w K mg base CX0 1 f fd p13 (spInitL c.Para "parts"):=by
 have sc:FnScope p13 p13 (ab gY):=mkS;refine F.oks sc λH Q hr h=>?_;obtain⟨x,dx,l,xs,rfl,e,el,q⟩:=h;refine ak (xb1 (aV (xv 0) (xcTy ao T.u10 rfl (xac (xv 1) xa0)))) ?_;refine⟨_,rfl,l,_,rfl, .inl (SqL.of el),λp hp=>⟨_,rfl,x,_,dx,_,rfl,ac hp _ _ _ e,T.g18.cls,T.u19,by decide,?_⟩⟩;have hpx:p≠x:=(nq e hp);exact q p _ hp ((ca hp).trans keep_upd) ((ad hpx).trans aa) aa
def io (F:Fun K "__init__" "Literal.__init__" cY f fd)(T:TxB K mg c BT):FnOk P w K mg base CX0 1 f fd p22 (spInitL c.Literal "lines"):=by
 have sc:FnScope p22 p22 (ab cY):=mkS;refine F.oks sc λH Q hr h=>?_;obtain⟨x,dx,l,xs,rfl,e,el,q⟩:=h;refine ak (xb1 (aV (xv 0) (xcTy ao T.u10 rfl (xac (xv 1) xa0)))) ?_;refine⟨_,rfl,l,_,rfl, .inl (SqL.of el),λp hp=>⟨_,rfl,x,_,dx,_,rfl,ac hp _ _ _ e,T.z22.cls,T.u23,by decide,?_⟩⟩;have hpx:p≠x:=(nq e hp);exact q p _ hp ((ca hp).trans keep_upd) ((ad hpx).trans aa) aa
def kD (F:Fun K "__init__" "Quote.__init__" fv f fd)(T:TxB K mg c BT):FnOk P w K mg base CX0 1 f fd p23 (spInitL c.Quote "blocks"):=by
 have sc:FnScope p23 p23 (ab fv):=mkS;refine F.oks sc λH Q hr h=>?_;obtain⟨x,dx,l,xs,rfl,e,el,q⟩:=h;refine ak (xb1 (aV (xv 0) (xcTy ao T.u10 rfl (xac (xv 1) xa0)))) ?_;refine⟨_,rfl,l,_,rfl, .inl (SqL.of el),λp hp=>⟨_,rfl,x,_,dx,_,rfl,ac hp _ _ _ e,T.q13.cls,T.g14,by decide,?_⟩⟩;have hpx:p≠x:=(nq e hp);exact q p _ hp ((ca hp).trans keep_upd) ((ad hpx).trans aa) aa
def ip (F:Fun K "__init__" "Listing.__init__" cZ f fd)(T:TxB K mg c BT):FnOk P w K mg base CX0 1 f fd p29 (spInitL c.Listing "entries"):=by
 have sc:FnScope p29 p29 (ab cZ):=mkS;refine F.oks sc λH Q hr h=>?_;obtain⟨x,dx,l,xs,rfl,e,el,q⟩:=h;refine ak (xb1 (aV (xv 0) (xcTy ao T.u10 rfl (xac (xv 1) xa0)))) ?_;refine⟨_,rfl,l,_,rfl, .inl (SqL.of el),λp hp=>⟨_,rfl,x,_,dx,_,rfl,ac hp _ _ _ e,T.z18.cls,T.u20,by decide,?_⟩⟩;have hpx:p≠x:=(nq e hp);exact q p _ hp ((ca hp).trans keep_upd) ((ad hpx).trans aa) aa
def iq (F:Fun K "__init__" "Heading.__init__" cX f fd)(T:TxB K mg c BT):FnOk P w K mg base CX0 1 f fd p30 (spInitVL c.Heading "level" "parts"):=by
 have sc:FnScope p30 p30 (ab cX):=mkS;refine F.oks sc λH Q hr h=>?_;obtain⟨x,dx,v,l,xs,rfl,e,el,q⟩:=h;refine ak (xbc (aV (xv 0) (xv 1))
  (xb1 (aV (xv 0) (xcTy ao T.u10 rfl (xac (xv 2) xa0))))) ?_
 have hlx:l≠x:=(nq e el);refine⟨_,rfl,_,rfl,x,_,dx,_,rfl,e,T.u13.cls,T.q22,by decide,?_⟩;refine⟨_,rfl,l,_,rfl, .inl (SqL.of ((ad hlx).trans el)),λp hp=>⟨_,rfl,x,_,dx,_,rfl,ac hp _ _ _ aa,T.u13.cls,T.q18,by show 1 < 1000;decide,?_⟩⟩;have hpx:p≠x:=(nq aa hp);exact q p _ (by rwa [ad hpx] at hp) ((keep_upd.trans (ca hp)).trans keep_upd) ((ad hpx).trans aa) aa
def je (F:Fun K "__init__" "Noting.__init__" dN f fd)(T:TxB K mg c BT):FnOk P w K mg base CX0 1 f fd p31 (spInitVL c.Noting "name" "parts"):=by
 have sc:FnScope p31 p31 (ab dN):=mkS;refine F.oks sc λH Q hr h=>?_;obtain⟨x,dx,v,l,xs,rfl,e,el,q⟩:=h;refine ak (xbc (aV (xv 0) (xv 1))
  (xb1 (aV (xv 0) (xcTy ao T.u10 rfl (xac (xv 2) xa0))))) ?_
 have hlx:l≠x:=(nq e el);refine⟨_,rfl,_,rfl,x,_,dx,_,rfl,e,T.g13.cls,T.q23,by decide,?_⟩;refine⟨_,rfl,l,_,rfl, .inl (SqL.of ((ad hlx).trans el)),λp hp=>⟨_,rfl,x,_,dx,_,rfl,ac hp _ _ _ aa,T.g13.cls,T.g19,by show 1 < 1000;decide,?_⟩⟩;have hpx:p≠x:=(nq aa hp);exact q p _ (by rwa [ad hpx] at hp) ((keep_upd.trans (ca hp)).trans keep_upd) ((ad hpx).trans aa) aa
def jf (F:Fun K "__init__" "Naming.__init__" dM f fd)(T:TxB K mg c BT):FnOk P w K mg base CX0 1 f fd p32 (spInit2 c.Naming "name" "target"):=by
 have sc:FnScope p32 p32 (ab dM):=mkS;refine F.oks sc λH Q hr h=>?_;obtain⟨x,dx,v,u,rfl,e,q⟩:=h;refine ak (xbc (aV (xv 0) (xv 1))
  (xb1 (aV (xv 0) (xv 2)))) ?_
 refine⟨_,rfl,_,rfl,x,_,dx,_,rfl,e,T.u14.cls,T.g23,by decide,?_⟩;exact⟨_,rfl,_,rfl,x,_,dx,_,rfl,aa,T.u14.cls,T.z23,by show 1 < 1000;decide,q⟩
def kF (F:Fun K "__init__" "Entry.__init__" fw f fd)(T:TxB K mg c BT):FnOk P w K mg base CX0 1 f fd p24 (spInitE c.Entry):=by
 have sc:FnScope p24 p24 (ab fw):=mkS;refine F.oks sc λH Q hr h=>?_;obtain⟨x,dx,v,l,xs,m,ys,rfl,e,el,em,q⟩:=h;refine ak (xbc (aV (xv 0) (xv 1))
  (xbc (aV (xv 0) (xcTy ao T.u10 rfl (xac (xv 2) xa0)))
  (xb1 (aV (xv 0) (xcTy ao T.u10 rfl (xac (xv 3) xa0)))))) ?_
 have hlx:l≠x:=(nq e el);have hmx:m≠x:=(nq e em);refine⟨_,rfl,_,rfl,x,_,dx,_,rfl,e,T.q11.cls,T.u24,by decide,?_⟩;refine⟨_,rfl,l,_,rfl, .inl (SqL.of ((ad hlx).trans el)),λp hp=>⟨_,rfl,x,_,dx,_,rfl,ac hp _ _ _ aa,T.q11.cls,T.z19,by show 1 < 1000;decide,?_⟩⟩;have hpx:p≠x:=(nq aa hp);have hpH:H p=none:=by rwa [ad hpx] at hp
 have hmp:m≠p:=(nq hpH em);refine⟨_,rfl,m,_,rfl, .inl (SqL.of ((ad hmx).trans ((ad hmp).trans ((ad hmx).trans em)))),λr hr'=>⟨_,rfl,x,_,dx,_,rfl,ac hr' _ _ _ aa,T.q11.cls,T.q19,by show 2 < 1000;decide,?_⟩⟩;have hrx:r≠x:=λz=>by rw[z,aa] at hr';cases hr'
 have hrp:p≠r:=λz=>by rw[<- z,ad hpx,aa] at hr';cases hr'
 have k2:=(keep_upd.trans (ca (x:=x) (o := .lst xs) hp)).trans (keep_upd (x:=x) (o := .ins c.Entry dx (putF "parts" (.ref p) (putF "sign" v []))));exact q p r _ hpH (ax k2 hrx hr') ((k2.trans (ca hr')).trans keep_upd) ((ad hpx).trans ((ad hrp).trans ((ad hpx).trans aa))) ((ad hrx).trans aa) aa
def LV (H:Hp)(l:Addr)(xss:List (List V)):Prop:=LAt (λH a (xs:List V)=>H a=some (.lst xs)) H l xss
def ir:MoR LV:=gV λ_ _ _ _ s h=>s _ _ h
abbrev sOwn:Stmt:=top 54
inductive spOwn (vs:List V)(H:Hp)(Q:VK)(u3:XK):Prop
 |mk (l:Addr)(xss:List (List V))(_:vs=[.ref l])(_:LV H l xss)(_:xss.length<=100000)(_:∀r H',Same H H'->H r=none->LV (dif H H') r xss->Q (.ref r) H')
def ul (F:Fun K "own_cells" "own_cells" sOwn f fd)(T:TxB K mg c BT):FnOk P w K mg base CX0 1 f fd ["cells"] spOwn:=by
 have sc:FnScope ["cells"] ["cells"] (ab sOwn):=mkS;refine F.oks sc λ{_ _ _ s vs _}H Q hr h=>?_;obtain⟨l,xss,rfl,⟨as,el,hls⟩,hl,q⟩:=h;refine ak (xb1 (xret (xlc0 (own:=["cell"])
  (xil (xv 0))
  (λ_ _ _ _=>xgm (i:=0) (show (["cell"]:List Str).Nodup by decide)) (λ_ _ _ _=>xq0) (λ_ _ _ _=>(xcTy i3 T.u10 rfl (xac (xv 0) xa0)))))) ?_
 have w6:=hls.len;refine⟨_,rfl,l,rfl,⟨_,SqL.of el⟩,?_⟩;refine qc (λi a' G=>G a'=some (.lst (xss.getD i []))) (λ_ _ _ _ s h=>s _ _ h) (SqL.of el) (by rw[l5];omega) ?_ ?_
 ·intro i x hx H2 s2 C N hC;obtain⟨a,xs,rfl,hxi,_,e⟩:=hls.get hx;refine⟨(nfLe.refl _ _ _).set ∅ _,iteT (B:=N H2) ⟨_,rfl,a,xs,rfl, .inl (SqL.of (s2 _ _ e)),λp hp=>hC p _ (ac hp _) hp ?_⟩⟩;rw[l33,hxi,am hp];exact aa
 ·intro D H2 bs hD s2 eD hbl hbs;refine q D H2 s2 hD ⟨bs,by rw[am hD];exact eD,?_⟩;refine sO (by rw[hbl,l5,w6]) λi b x hb hx=>?_;have:=hbs i b hb;rwa [l33,hx] at this
inductive spInitT (C:Addr)(vs:List V)(H:Hp)(Q:VK)(u3:XK):Prop
 |mk (x dx h sd ln hss sv lss)(_:vs=[.ref x, .ref h, .ref sd, .ref ln])(_:H x=some (.ins C dx []))(_:LV H h hss)(_:hss.length<=100000)(_:H sd=some (.lst sv))(_:LAt LV H ln lss)(_:lss.length<=100000)(_:∀l∈lss,l.length<=100000)(_:∀h' s' l' H',KeepX x H H'->LV (dif H H') h' hss->dif H H' s'=some (.lst sv)->LAt LV (dif H H') l' lss->H' x=some (.ins C dx [("head", .ref h'),("sides", .ref s'),("lines", .ref l')])->Q .non H')
def offX (H:Hp)(x:Addr):Hp:=λb=>if b=x then none else H b
def qd {H H':Hp}{x:Addr}(k:KeepX x H H'):Same (offX H x) H':=λb o e=>by
 unfold offX at e;split at e
 ·cases e
 ·rename_i hb;exact k b o hb e
def mW {H:Hp}{x a:Addr}{xs:List V}{C dx:Addr}{fs:List (Str×V)}(hx:H x=some (.ins C dx fs))(e:H a=some (.lst xs)):offX H x a=some (.lst xs):=by
 unfold offX;rw[if_neg (nq hx e)];exact e
def LV.off {H:Hp}{x l:Addr}{xss:List (List V)}{C dx:Addr}{fs:List (Str×V)}(hx:H x=some (.ins C dx fs))(h:LV H l xss):LV (offX H x) l xss:=let ⟨as,e,k⟩:=h;⟨as,mW hx e,k.mono λ_ _ z=>mW hx z⟩
def um {H H1 H2 H3:Hp}{x:Addr}(hx:H x≠none)(h1:∀b,b≠x->H1 b=none->H b=none)(hx1:H1 x≠none)(k:KeepX x H2 H3):Same (dif H1 H2) (dif H H3):=λb o e=>by
 obtain⟨n,e⟩:=bv e;have hb:b≠x:=λz=>hx1 (z▸n);rw[am (h1 b hb n)];exact k b o hb e
def kI (F:Fun K "__init__" "Table.__init__" fx f fd)(T:TxB K mg c BT)(Dm:Def P w K mg base 1 "own_cells" ["cells"] spOwn):FnOk P w K mg base CX0 2 f fd p33 (spInitT c.Table):=by
 have sc:FnScope p33 p33 (ab fx):=mkS;refine F.oks sc λ{_ _ _ s _ _}H Q hr h=>?_;obtain⟨x,dx,h,sd,ln,hss,sv,lss,rfl,e,eh,lh,es,⟨as,el,hls⟩,ll,lll,q⟩:=h;refine ak (xbc (aV (xv 0) (xcd Dm hr (xac (xv 1) xa0)))
  (xbc (aV (xv 0) (xcTy ao T.u10 rfl (xac (xv 2) xa0)))
  (xb1 (aV (xv 0) (xlc0 (own:=["line"])
  (xil (xv 3))
  (λ_ _ _ _=>xgm (i:=0) (show (["line"]:List Str).Nodup by decide)) (λ_ _ _ _=>xq0) (λ_ _ _ _=>(xcd Dm hr (xac (xv 0) xa0)))))))) ?_
 refine⟨_,rfl,h,hss,rfl,eh,lh,λr1 H1 s1 hr1 d1=>⟨_,rfl,x,_,dx,_,rfl,s1 _ _ e,T.g11.cls,T.z15,by decide,?_⟩⟩;have hsx:sd≠x:=(nq e es);have hlx:ln≠x:=(nq e el);refine⟨_,rfl,sd,_,rfl, .inl (SqL.of ((ad hsx).trans (s1 _ _ es))),λp hp=>⟨_,rfl,x,_,dx,_,rfl,ac hp _ _ _ aa,T.g11.cls,T.g24,by show 1 < 1000;decide,?_⟩⟩;have hpx:p≠x:=(nq aa hp);have hp1:H1 p=none:=by rwa [ad hpx] at hp
 have k1:KeepX x H H1:=λb o _ h=>s1 _ _ h;have k4:KeepX x H1 (upd (upd (upd H1 x (.ins c.Table dx (putF "head" (.ref r1) []))) p (.lst sv)) x (.ins c.Table dx (putF "sides" (.ref p) (putF "head" (.ref r1) [])))):=(keep_upd.trans (ca hp)).trans keep_upd;have e4p:upd (upd (upd H1 x (.ins c.Table dx (putF "head" (.ref r1) []))) p (.lst sv)) x (.ins c.Table dx (putF "sides" (.ref p) (putF "head" (.ref r1) []))) p=some (.lst sv):=(ad hpx).trans aa;have e4x:upd (upd (upd H1 x (.ins c.Table dx (putF "head" (.ref r1) []))) p (.lst sv)) x (.ins c.Table dx (putF "sides" (.ref p) (putF "head" (.ref r1) []))) x=some (.ins c.Table dx [("head", .ref r1),("sides", .ref p)]):=aa;refine⟨_,rfl,ln,rfl,⟨_,SqL.of (k4 _ _ hlx (s1 _ _ el))⟩,?_⟩;generalize upd (upd (upd H1 x (.ins c.Table dx (putF "head" (.ref r1) []))) p (.lst sv)) x (.ins c.Table dx (putF "sides" (.ref p) (putF "head" (.ref r1) [])))=H4 at k4 e4p e4x ⊢;have kk:=k1.trans k4;refine qc (λi b G=>LV G b (lss.getD i [])) (λi b G G' s h=>ir _ _ _ _ s h) (SqL.of (kk _ _ hlx el)) (by rw[l5,hls.len];omega) ?_ ?_
 ·intro i v hv H5 s5 C N hC;obtain⟨a,xs,rfl,hxi,_,hl⟩:=hls.get hv;have hm:=l18 hxi;refine⟨(nfLe.refl _ _ _).set ∅ _,iteT (B:=N H5) ⟨_,rfl,a,xs,rfl,ir _ _ _ _ ((qd kk).trans s5) (hl.off e),lll _ hm,λb H6 s6 hb d6=>hC b H6 s6 hb ?_⟩⟩;rw[l33,hxi];exact d6
 ·intro D H5 bs hD s5 eD hbl hbs;refine⟨_,rfl,x,_,dx,_,rfl,s5 _ _ e4x,T.g11.cls,T.g20,by show 2 < 1000;decide,?_⟩;have kH5:KeepX x H4 H5:=λb o _ h=>s5 _ _ h;have k46:=kH5.trans (keep_upd (o := .ins c.Table dx (putF "lines" (.ref D) [("head", .ref r1),("sides", .ref p)])));have nn:H x≠none:=nz e;have n4:H4 x≠none:=nz e4x;have n1:H1 x≠none:=by rw[s1 _ _ e];exact λz=>nomatch z
  have nD : LAt LV (dif H4 H5) D lss := ⟨bs,by rw[am hD];exact eD,sO (by rw[hbl,l5,hls.len]) λi b y hb hy=>by
   have:=hbs i b hb;rwa [l33,hy] at this⟩
  refine q r1 p D _ (kk.trans k46) (ir _ _ _ _ (um nn (λb hb z=>z) nn (k4.trans k46)) d1) ?_ (nD.same ir (um nn (λb hb z=>ax kk hb z) n4 keep_upd)) aa;rw[am (ax k1 hpx hp1)];exact k46 _ _ hpx e4p
end
def eG {α β:Type}(xs:List α)(g:α->β)(d:β):(List.range xs.length).map (λi=>((xs[i]?).map g).getD d)=xs.map g:=by
 apply List.ext_getElem?;intro i;rw[List.getElem?_map,List.getElem?_map];by_cases hi:i < xs.length
 ·rw[List.getElem?_range hi,List.getElem?_eq_getElem hi];simp only[Option.map_some,List.getElem?_eq_getElem hi,Option.getD_some]
 ·rw[List.getElem?_eq_none (by rw[l50];omega),List.getElem?_eq_none nofun];rfl
def dn_k {G:Hp}{k:Str}(h:(PyData.strOk k&&decide (k.length<=100000))=true:=by decide):Dn G (.str k) (.str k):=by
 rw[Bool.and_eq_true] at h;exact .str k h.1 (of_decide_eq_true h.2)
def dn_S {G:Hp}{l:List Nat}(h:Asc l/\l.length<=1000):Dn G (vS l) (.str (S l)):=(dq h.1 nofun).dn
theorem vR {G:Hp}:∀{ls:List (List Nat)},(∀l∈ls,Asc l/\l.length<=1000)->DnAll G (ls.map vS) (ls.map λl=>PyData.str (S l))
 | [],_ => .nil
 |l::ls,h => .cons (dn_S (h l l10)) (vR λx hx=>h x (l15 _ hx))
def cN {H0 H:Hp}{t:Addr}{xs:List V}{ds:List PyData}(s:Same H0 H)(ht:H t=none)(d:DnAll (dif H0 H) xs ds):Same H0 (upd H t (.tup xs))/\Dn (dif H0 (upd H t (.tup xs))) (.ref t) (.tuple ds):=
 ⟨s.trans (ac ht _), .tup (by rw[am (s.free ht),aa]) (d.same (aX (Same.refl _) (ac ht _)))⟩
def qe {H0 H:Hp}{t:Addr}{xs:List V}{ds:List PyData}(s:Same H0 H)(ht:H t=none)(d:DnAll (dif H0 H) xs ds)(hl:xs.length<=100000):Same H0 (upd H t (.lst xs))/\Dn (dif H0 (upd H t (.lst xs))) (.ref t) (.list ds):=
 ⟨s.trans (ac ht _), .lst (by rw[am (s.free ht),aa]) (d.same (aX (Same.refl _) (ac ht _))) hl⟩
inductive spTB {β:Type}(c:Cb)(R:Hp->Addr->β->Prop)(f:β->PyData)(ok:β->Prop)(S:BkF β->Prop)(vs:List V)(H:Hp)(Q:VK)(u3:XK):Prop
 |mk (a b)(_:vs=[.ref a])(_:BAtF c R H a b)(_:S b)(_:OkBF ok b)(_:∀v H',Same H H'->Dn (dif H H') v (dBF f b)->Q v H')
inductive spTC (c:Cb)(vs:List V)(H:Hp)(Q:VK)(u3:XK):Prop
 |mk (l:Addr)(cs:List (List PC))(_:vs=[.ref l])(_:LAt (PL c.cp) H l cs)(_:OkCs cs)(_:∀r H',Same H H'->Dn (dif H H') (.ref r) (bI cs)->Q (.ref r) H')
inductive spTEs (c:Cb)(n:Nat)(vs:List V)(H:Hp)(Q:VK)(u3:XK):Prop
 |mk (l:Addr)(es:List (En n))(_:vs=[.ref l])(_:LAt (EAt c n) H l es)(_:es.length<=1000)(_:∀e∈es,OkE n e)(_:∀r H',Same H H'->Dn (dif H H') (.ref r) (.list (es.map (dE n)))->Q (.ref r) H')
inductive spTE (c:Cb)(n:Nat)(vs:List V)(H:Hp)(Q:VK)(u3:XK):Prop
 |mk (a:Addr)(e:En n)(_:vs=[.ref a])(_:EAt c n H a e)(_:OkE n e)(_:∀v H',Same H H'->Dn (dif H H') v (dE n e)->Q v H')
def MV (P:Program)(w:World)(K:Frag)(mg:Str->Option Value)(base:Heap)(k:Nat){β:Type}(m:Str)(R:Hp->Addr->β->Prop)(ok:β->Prop)(post:β->Hp->V->Hp->Prop):Prop:=
 ∀b,ok b->∀H a,R H a b->∃C dx fs sp,H a=some (.ins C dx fs)/\fs.lookup m=none/\MethV P w K mg base k C m ["self"] sp/\∀Q E,(∀v H',post b H v H'->Q v H')->sp [.ref a] H Q E
inductive tellsB {β:Type}(f:β->PyData)(b:β)(H:Hp)(v:V)(H':Hp):Prop
 |mk (_:Same H H')(_:Dn (dif H H') v (f b))
section
variable {c:Cb}{BT:Addr}{β:Type}{R:Hp->Addr->β->Prop}{fB:β->PyData}{ok:β->Prop}
abbrev c7:Stmt:=meth 38 1
abbrev gZ:Stmt:=meth 39 1
abbrev c8:Stmt:=meth 40 1
abbrev fy:Stmt:=meth 41 1
abbrev dQ:Stmt:=meth 42 1
abbrev dR:Stmt:=meth 43 1
abbrev fz:Stmt:=meth 47 1
abbrev c9:Stmt:=meth 48 1
abbrev fA:Stmt:=meth 53 1
def iu (F:Fun K "told" "Heading.told" c7 f fd)(T:TxB K mg c BT)(Dc:Def P w K mg base 4 "told_parts" ["parts"] (spTolds c.cp R2)):FnOk P w K mg base CX0 5 f fd ["self"] (spTB c R fB ok λb=>∃n ps,b = .heading n ps):=by
 have sc:FnScope ["self"] ["self"] (ab c7):=mkS;refine F.oks sc λH Q hr h=>?_;obtain⟨a,b,rfl,ha,⟨n,ps,rfl⟩,hok,q⟩:=h;obtain⟨dx,l,e,as,el,hps⟩:=ha;refine ak (xb1 (xret (xtup (xac xstr (xac (xfld (xv 0)) (xac (xcd Dc hr (xac (xfld (xv 0)) xa0)) xa0)))))) ?_;have y7:OkPs ps:=hok.2;refine⟨_,rfl,a,_,dx,_,_,rfl,e,T.u13.cls,T.q22,rfl,_,rfl,a,_,dx,_,_,rfl,e,T.u13.cls,T.q18,rfl,l,as,ps,rfl,el,hps,y7.r2,by rw[hps.len];have:=y7.len;omega,λr H1 s1 d1=>⟨bg3,λt ht=>?_⟩⟩;obtain⟨a1,a2⟩:=cN s1 ht (.cons (dn_k (k:="heading")) (.cons (.int _) (.cons d1 .nil)));exact q _ _ a1 a2
def lX (F:Fun K "told" "Para.told" gZ f fd)(T:TxB K mg c BT)(Dc:Def P w K mg base 4 "told_parts" ["parts"] (spTolds c.cp R2)):FnOk P w K mg base CX0 5 f fd ["self"] (spTB c R fB ok λb=>∃ps,b = .para ps):=by
 have sc:FnScope ["self"] ["self"] (ab gZ):=mkS;refine F.oks sc λH Q hr h=>?_;obtain⟨a,b,rfl,ha,⟨ps,rfl⟩,hok,q⟩:=h;obtain⟨dx,l,e,as,el,hps⟩:=ha;refine ak (xb1 (xret (xtup (xac xstr (xac (xcd Dc hr (xac (xfld (xv 0)) xa0)) xa0))))) ?_;have y7:OkPs ps:=hok;refine⟨_,rfl,a,_,dx,_,_,rfl,e,T.g18.cls,T.u19,rfl,l,as,ps,rfl,el,hps,y7.r2,by rw[hps.len];have:=y7.len;omega,λr H1 s1 d1=>⟨bg2,λt ht=>?_⟩⟩;obtain⟨a1,a2⟩:=cN s1 ht (.cons (dn_k (k:="para")) (.cons d1 .nil));exact q _ _ a1 a2
def jg (F:Fun K "told" "Noting.told" dR f fd)(T:TxB K mg c BT)(Dc:Def P w K mg base 4 "told_parts" ["parts"] (spTolds c.cp R2)):FnOk P w K mg base CX0 5 f fd ["self"] (spTB c R fB ok λb=>∃n ps,b = .note n ps):=by
 have sc:FnScope ["self"] ["self"] (ab dR):=mkS;refine F.oks sc λH Q hr h=>?_;obtain⟨a,b,rfl,ha,⟨n,ps,rfl⟩,hok,q⟩:=h;obtain⟨dx,l,e,as,el,hps⟩:=ha;refine ak (xb1 (xret (xtup (xac xstr (xac (xfld (xv 0)) (xac (xcd Dc hr (xac (xfld (xv 0)) xa0)) xa0)))))) ?_;have y7:OkPs ps:=hok.2;refine⟨_,rfl,a,_,dx,_,_,rfl,e,T.g13.cls,T.q23,rfl,_,rfl,a,_,dx,_,_,rfl,e,T.g13.cls,T.g19,rfl,l,as,ps,rfl,el,hps,y7.r2,by rw[hps.len];have:=y7.len;omega,λr H1 s1 d1=>⟨bg3,λt ht=>?_⟩⟩;obtain⟨a1,a2⟩:=cN s1 ht (.cons (dn_k (k:="note")) (.cons (dn_S hok.1) (.cons d1 .nil)));exact q _ _ a1 a2
def jh (F:Fun K "told" "Naming.told" dQ f fd)(T:TxB K mg c BT):FnOk P w K mg base CX0 1 f fd ["self"] (spTB c R fB ok λb=>∃n t,b = .name n t):=by
 have sc:FnScope ["self"] ["self"] (ab dQ):=mkS;refine F.oks sc λH Q hr h=>?_;obtain⟨a,b,rfl,ha,⟨n,u,rfl⟩,hok,q⟩:=h;obtain⟨dx,e⟩:=ha;refine ak (xb1 (xret (xtup (xac xstr (xac (xfld (xv 0)) (xac (xfld (xv 0)) xa0)))))) ?_;refine⟨_,rfl,a,_,dx,_,_,rfl,e,T.u14.cls,T.g23,rfl,_,rfl,a,_,dx,_,_,rfl,e,T.u14.cls,T.z23,rfl,bg3,λt ht=>?_⟩;obtain⟨a1,a2⟩:=cN (Same.refl H) ht (.cons (dn_k (k:="name")) (.cons (dn_S hok.1) (.cons (dn_S hok.2) .nil)));exact q _ _ a1 a2
def iw (F:Fun K "told" "Literal.told" c8 f fd)(T:TxB K mg c BT):FnOk P w K mg base CX0 1 f fd ["self"] (spTB c R fB ok λb=>∃ls,b = .lit ls):=by
 have sc:FnScope ["self"] ["self"] (ab c8):=mkS;refine F.oks sc λH Q hr h=>?_;obtain⟨a,b,rfl,ha,⟨ls,rfl⟩,hok,q⟩:=h;obtain⟨dx,l,e,el⟩:=ha;refine ak (xb1 (xret (xtup (xac xstr (xac (xcTy ao T.u10 rfl (xac (xfld (xv 0)) xa0)) xa0))))) ?_;refine⟨_,rfl,a,_,dx,_,_,rfl,e,T.z22.cls,T.u23,rfl,l,_,rfl, .inl (SqL.of el),λp hp=>⟨bg2,λt ht=>?_⟩⟩;obtain⟨b1,b2⟩:=qe (Same.refl H) hp (vR hok.2) (by rw[l5];have:=hok.1;omega);obtain⟨a1,a2⟩:=cN b1 ht (.cons (dn_k (k:="literal")) (.cons b2 .nil));exact q _ _ a1 a2
def iy {k:Nat}(F:Fun K "told" "Listing.told" c9 f fd)(T:TxB K mg c BT)(DZ:Def P w K mg base k "told_entries" ["entries"] (spTEs c 6)):FnOk P w K mg base CX0 (k+1) f fd ["self"] (spTB c R fB ok λb=>∃es,b = .lst es):=by
 have sc:FnScope ["self"] ["self"] (ab c9):=mkS;refine F.oks sc λH Q hr h=>?_;obtain⟨a,b,rfl,ha,⟨es,rfl⟩,hok,q⟩:=h;obtain⟨dx,l,e,hl⟩:=ha;refine ak (xb1 (xret (xtup (xac xstr (xac (xcd DZ hr (xac (xfld (xv 0)) xa0)) xa0))))) ?_;refine⟨_,rfl,a,_,dx,_,_,rfl,e,T.z18.cls,T.u20,rfl,l,es,rfl,hl,hok.1,hok.2,λr H1 s1 d1=>⟨bg2,λt ht=>?_⟩⟩;obtain⟨a1,a2⟩:=cN s1 ht (.cons (dn_k (k:="list")) (.cons d1 .nil));exact q _ _ a1 a2
abbrev lY:Stmt:=top 49
def kJ {k n:Nat}(F:Fun K "told_entries" "told_entries" lY f fd)(hM:MV P w K mg base k "told" (EAt c n) (OkE n) (tellsB (dE n))):FnOk P w K mg base CX0 (k+1) f fd ["entries"] (spTEs c n):=by
 have sc:FnScope ["entries"] ["entries"] (ab lY):=mkS;refine F.oks sc λH Q hr h=>?_;obtain⟨l,es,rfl,⟨as,el,hls⟩,hl,hok,q⟩:=h;refine ak (xb1 (xret (xlc0 (own:=["entry"])
  (xil (xv 0))
  (λ_ _ _ _=>xgm (i:=0) (show (["entry"]:List Str).Nodup by decide)) (λ_ _ _ _=>xq0) (λ_ _ _ _=>(vp (k:=k) (xv 0) hr.mono))))) ?_
 have w6:=hls.len;refine⟨_,rfl,l,rfl,⟨_,SqL.of el⟩,?_⟩;refine fk (λi=>((es[i]?).map (dE n)).getD .none) (SqL.of el) (by rw[l5];omega) ?_ ?_
 ·intro i x hx H2 s2 C N hC;obtain⟨a,e,rfl,hei,_,ha⟩:=hls.get hx;obtain⟨Cc,dx,fs,sp,e1,e2,V,hsp⟩:=hM e (hok e (l18 hei)) H2 a (gX n _ _ _ _ s2 ha);refine⟨(nfLe.refl _ _ _).set ∅ _,iteT (B:=N H2) ⟨_,rfl,a,Cc,dx,fs,_,sp,rfl,e1,e2,V,hsp _ _ λv H4 ⟨s4,d4⟩=>hC v H4 s4 ?_⟩⟩;rw[hei];exact d4
 ·intro D H2 hD s2 dD;rw[l5,w6,eG] at dD;exact q D H2 s2 dD
def kK {k n:Nat}(F:Fun K "told" "Entry.told" fz f fd)(T:TxB K mg c BT)(Dc:Def P w K mg base 4 "told_parts" ["parts"] (spTolds c.cp R2))(DZ:Def P w K mg base k "told_entries" ["entries"] (spTEs c n)):FnOk P w K mg base CX0 (k+5) f fd ["self"] (spTE c (n+1)):=by
 have sc:FnScope ["self"] ["self"] (ab fz):=mkS;refine F.oks sc λH Q hr h=>?_;obtain⟨a,en,rfl,⟨dx,lp,le,e,⟨as,el,hps⟩,hle⟩,⟨y7,hl,hw⟩,q⟩:=h;refine ak (xb1 (xret (xtup (xac (xfld (xv 0)) (xac (xcd Dc hr (xac (xfld (xv 0)) xa0)) (xac (xcd DZ hr (xac (xfld (xv 0)) xa0)) xa0)))))) ?_;refine⟨_,rfl,a,_,dx,_,_,rfl,e,T.q11.cls,T.u24,rfl,_,rfl,a,_,dx,_,_,rfl,e,T.q11.cls,T.z19,rfl,lp,as,_,rfl,el,hps,y7.r2,by rw[hps.len];have:=y7.len;omega,λr H1 s1 d1=>?_⟩;refine⟨_,rfl,a,_,dx,_,_,rfl,s1 _ _ e,T.q11.cls,T.q19,rfl,le,_,rfl,hle.same (gX n) s1,hl,hw,λr2 H2 s2 d2=>⟨bg3,λt ht=>?_⟩⟩;have hsg:∀b:Bool,Asc (cw b)/\(cw b).length<=1000:=λb=>by cases b <;> exact⟨aE _ rfl,by decide⟩
 obtain⟨a1,a2⟩:=cN (s1.trans s2) ht (.cons (dn_S (hsg _)) (.cons (d1.same (aX (Same.refl _) s2)) (.cons (d2.same (aX s1 (Same.refl _))) .nil)));exact q _ _ a1 a2
abbrev qf:Stmt:=top 55
def sP (F:Fun K "told_cells" "told_cells" qf f fd)(Dc:Def P w K mg base 4 "told_parts" ["parts"] (spTolds c.cp R2)):FnOk P w K mg base CX0 5 f fd ["cells"] (spTC c):=by
 have sc:FnScope ["cells"] ["cells"] (ab qf):=mkS;refine F.oks sc λH Q hr h=>?_;obtain⟨l,cs,rfl,⟨as,el,hls⟩,hok,q⟩:=h;refine ak (xb1 (xret (xlc0 (own:=["cell"])
  (xil (xv 0))
  (λ_ _ _ _=>xgm (i:=0) (show (["cell"]:List Str).Nodup by decide)) (λ_ _ _ _=>xq0) (λ_ _ _ _=>(xcd Dc hr (xac (xv 0) xa0)))))) ?_
 have w6:=hls.len;have hl:=hok.1;refine⟨_,rfl,l,rfl,⟨_,SqL.of el⟩,?_⟩;refine fk (λi=>((cs[i]?).map λps=>PyData.list (ps.map dP)).getD .none) (SqL.of el) (by rw[l5];omega) ?_ ?_
 ·intro i x hx H2 s2 C N hC;obtain⟨a,ps,rfl,hei,_,as2,e2,hps⟩:=hls.get hx;have y7:=hok.2 ps (l18 hei);refine⟨(nfLe.refl _ _ _).set ∅ _,iteT (B:=N H2) ⟨_,rfl,a,as2,ps,rfl,s2 _ _ e2,hps.same s2,y7.r2,by rw[hps.len];have:=y7.len;omega,λr H4 s4 d4=>hC _ H4 s4 ?_⟩⟩;rw[hei];exact d4
 ·intro D H2 hD s2 dD;rw[l5,w6,eG] at dD;exact q D H2 s2 dD
def kL {k:Nat}(F:Fun K "told" "Quote.told" fy f fd)(T:TxB K mg c BT)(hM:MV P w K mg base k "told" R ok (tellsB fB))(mR:MoR R):FnOk P w K mg base CX0 (k+1) f fd ["self"] (spTB c R fB ok λb=>∃bs,b = .quote bs):=by
 have sc:FnScope ["self"] ["self"] (ab fy):=mkS;refine F.oks sc λH Q hr h=>?_;obtain⟨a,b,rfl,ha,⟨bs,rfl⟩,hok,q⟩:=h;obtain⟨dx,l,e,as,el,hls⟩:=ha;refine ak (xb1 (xret (xtup (xac xstr (xac (xlc0 (own:=["block"])
  (xil (xfld (xv 0)))
  (λ_ _ _ _=>xgm (i:=0) (show (["block"]:List Str).Nodup by decide)) (λ_ _ _ _=>xq0) (λ_ _ _ _=>(vp (k:=k) (xv 0) hr.mono))) xa0))))) ?_
 have w6:=hls.len;have hl:=hok.1;refine⟨_,rfl,a,_,dx,_,_,rfl,e,T.q13.cls,T.g14,rfl,l,rfl,⟨_,SqL.of el⟩,?_⟩;refine fk (λi=>((bs[i]?).map fB).getD .none) (SqL.of el) (by rw[l5];omega) ?_ ?_
 ·intro i x hx H2 s2 C N hC;obtain⟨a,b,rfl,hei,_,ha⟩:=hls.get hx;obtain⟨Cc,dx,fs,sp,e1,e2,V,hsp⟩:=hM b (hok.2 b (l18 hei)) H2 a (mR _ _ _ _ s2 ha);refine⟨(nfLe.refl _ _ _).set ∅ _,iteT (B:=N H2) ⟨_,rfl,a,Cc,dx,fs,_,sp,rfl,e1,e2,V,hsp _ _ λv H4 ⟨s4,d4⟩=>hC v H4 s4 ?_⟩⟩;rw[hei];exact d4
 ·intro D H2 hD s2 dD;rw[l5,w6,eG] at dD;refine⟨bg2,λt ht=>?_⟩;obtain⟨a1,a2⟩:=cN s2 ht (.cons (dn_k (k:="quote")) (.cons dD .nil));exact q _ _ a1 a2
def kM (F:Fun K "told" "Table.told" fA f fd)(T:TxB K mg c BT)(DK:Def P w K mg base 5 "told_cells" ["cells"] (spTC c)):FnOk P w K mg base CX0 6 f fd ["self"] (spTB c R fB ok λb=>∃hd sd ls,b = .table hd sd ls):=by
 have sc:FnScope p22 ["self"] (ab fA):=mkS;refine F.oks sc λH Q hr h=>?_;obtain⟨a,b,rfl,ha,⟨hd,sd,ls,rfl⟩,hok,q⟩:=h;obtain⟨dx,lh,lsd,ll,e,hh,es,as,el,hls⟩:=ha;refine ak (xbc (pb (i:=1) (own:=["line"]) sc.nd
  (xil (xfld (xv 0)))
  (λ_ _ _ _=>xgm (i:=0) (show (["line"]:List Str).Nodup by decide)) (λ_ _ _ _=>xq0) (λ_ _ _ _=>(xcd DK hr (xac (xv 0) xa0))))
  (xb1 (xret (xtup (xac xstr (xac (xcd DK hr (xac (xfld (xv 0)) xa0)) (xac (xcTy ao T.u10 rfl (xac (xfld (xv 0)) xa0)) (xac (xv 1) xa0)))))))) ?_
 rw[oR];have w6:=hls.len;obtain⟨ok1,ok2,ok3,ok4⟩:=hok;refine⟨_,rfl,a,_,dx,_,_,rfl,e,T.g11.cls,T.g20,rfl,ll,rfl,⟨_,SqL.of el⟩,?_⟩;refine fk (λi=>((ls[i]?).map bI).getD .none) (SqL.of el) (by rw[l5];omega) ?_ ?_
 ·intro i x hx H2 s2 C N hC;obtain⟨a,l,rfl,hei,_,ha⟩:=hls.get hx;refine⟨(nfLe.refl _ _ _).set ∅ _,iteT (B:=N H2) ⟨_,rfl,a,l,rfl,gV gW _ _ _ _ s2 ha,ok4 l (l18 hei),λr H4 s4 d4=>hC _ H4 s4 ?_⟩⟩;rw[hei];exact d4
 ·intro D H1 hD s1 d1;rw[l5,w6,eG] at d1
  left
  have hsd:∀b:Bool,Asc (cr b)/\(cr b).length<=1000:=λb=>by cases b <;> exact⟨aE _ rfl,by decide⟩
  refine⟨_,rfl,a,_,dx,_,_,rfl,s1 _ _ e,T.g11.cls,T.z15,rfl,lh,hd,rfl,hh.same gW s1,ok1,λr2 H2 s2 d2=>?_⟩;refine⟨_,rfl,a,_,dx,_,_,rfl,s2 _ _ (s1 _ _ e),T.g11.cls,T.g24,rfl,lsd,_,rfl, .inl (SqL.of (s2 _ _ (s1 _ _ es))),λp hp=>⟨_,rfl,bg4,λt ht=>?_⟩⟩;obtain ⟨b1, b2⟩ := qe (s1.trans s2) hp (ds := sd.map fun b => PyData.str (S (cr b))) (xs := sd.map fun b => vS (cr b)) (by
   have:=vR (G:=dif H H2) (ls:=sd.map cr) (λl hl=>by obtain⟨b,_,rfl⟩:=l23.mp hl;exact hsd b);rw[l30,l30] at this;exact this) (by rw[l5];omega)
  have sp:=ac hp (.lst (sd.map λb=>vS (cr b)));obtain⟨a1,a2⟩:=cN b1 ht (.cons (dn_k (k:="table")) (.cons (d2.same (aX s1 sp)) (.cons b2 (.cons (d1.same (aX (Same.refl _) (s2.trans sp))) .nil))));exact q _ _ a1 a2
end
end K12
namespace Lw
open PySem L2 Lm
def aS (l:List Nat):Bool:=decide (vn (gB l)=pG)
def eI (rs:List (List (List Nat)))(q:List (List Nat)):betw (rs++[q])=betw rs++((if rs.isEmpty then [] else [[]])++q):=by
 cases rs with
 |nil=>show q++[]=[]++([]++q);simp
 |cons r rs=>
  show r++(rs++[q]).flatMap (λq=>[]::q)=(r++rs.flatMap λq=>[]::q)++_;rw[l44];simp
def sQ {rs:List (List (List Nat))}{q:List (List Nat)}(h:q∈rs):q.length<=(betw rs).length/\∀r∈q,r∈betw rs:=by
 obtain⟨a,b,rfl⟩:=List.append_of_mem h;rw[show a++q::b=(a++[q])++b by simp];have:∃z,betw (a++[q]++b)=betw (a++[q])++z:=by
  cases a with
  |nil=>exact⟨b.flatMap λq=>[]::q,by show q++b.flatMap _=(q++[])++_;simp⟩
  |cons x a=>exact⟨b.flatMap λq=>[]::q,by show x++(a++[q]++b).flatMap _=(x++(a++[q]).flatMap _)++_;rw[l44];simp⟩
 obtain⟨z,hz⟩:=this;rw[hz,eI];refine⟨by simp only[l6];omega,λr hr=>?_⟩;exact l54 _ (l31 _ (l31 _ hr))
def RowsOk.sub {rs:List (List (List Nat))}{q:List (List Nat)}(h:RowsOk (betw rs))(hq:q∈rs):RowsOk q:=by
 obtain⟨h1,h2⟩:=sQ hq;exact⟨l13 h1 h.1,λr hr=>h.2 r (h2 r hr)⟩
def RowsOk.unq {rs:List (List Nat)}(h:RowsOk (rs.map fP)):RowsOk rs:=by
 refine⟨by have:=h.1;rwa [l5] at this,λr hr=>?_⟩;obtain⟨h1,h2⟩:=h.2 _ (l43 hr);unfold fP at h1 h2;split at h1
 ·rename_i hz;subst hz;exact⟨by simp,λ_ z=>nomatch z⟩
 ·rename_i hz;rw[if_neg hz] at h2;rw[l6] at h1;exact⟨by omega,λx hx=>h2 x (l31 _ hx)⟩
def sR {K:Frag}{a:Addr}{xs:List V}{g:TG}{tb:TS}{D:Ends}{σ:St}{H:Hp}(Pv:Nat->St->Hp->Prop)(h0:Pv 0 σ H)(hl:∀i σ H,i<=xs.length->Pv i σ H->SqL K H a xs)
  (hs:∀i x σ H T,xs[i]? = some x->Pv i σ H->H T=none->g (.ref T) σ (upd H T (.tup [.int (i:Nat),x])) λσ2 H2=>tb { D with nx:=Pv (i+1),ct:=Pv (i+1),bk:=D.nx } σ2 H2) (hd:∀σ H,Pv xs.length σ H->D.nx σ H):
  ∃W:Nat->Nat->St->Hp->Prop,(∃m,W 0 m σ H)/\∀i m σ H,W i m σ H →
   ((Ite K a).stop i H/\D.nx σ H) ∨ ((Ite K a).go i H/\∃N:St->Hp->Prop,(∀σ' H',N σ' H'->∃m',m' < m/\W (i+1) m' σ' H')/\∀x H',(Ite K a).yld i H x H'->g x σ H' λσ2 H2=>tb { D with nx:=N,ct:=N,bk:=D.nx } σ2 H2):=by
 refine⟨λi m σ H=>m=xs.length - i/\i<=xs.length/\Pv i σ H,⟨xs.length,by simp,l16 _,h0⟩,?_⟩;rintro i m σ H ⟨rfl,hi,p⟩;have q:=hl i σ H hi p;by_cases hlt:i < xs.length
 ·refine .inr ⟨⟨xs,xs[i],q,by simp[hlt]⟩,Pv (i+1),λσ' H' p'=>⟨xs.length - (i+1),by omega,rfl,hlt,p'⟩,?_⟩;rintro x H' ⟨T,y,hy,hT,rfl,rfl⟩;exact hs i y σ H T (hy xs q) p hT
 ·have e:i=xs.length:=by omega
  subst e;exact .inl ⟨⟨xs,q,l7 _⟩,hd σ H p⟩
def eJ {K:Frag}{a:Addr}{xs:List V}{k:Nat}{fr:List Nat}{g:TG}{tt:TT}{te:TE}{σ:St}{H0:Hp}{Q:Addr->Hp->Prop}(ts:List (List Nat))(hx:SqL K H0 a xs)(w6:xs.length=ts.length)(hl:ts.length<=1000000)
  (ht:∀(i:Nat) x t,xs[i]? = some x->ts[i]? = some t->∀H',Same H0 H'->∀(C:V->Hp->Prop)(N:Hp->Prop),(∀H4,Same H' H4->C (vS t) H4) →
   g x (nfS k fr σ) H' λσ2 H2=>nfLe k fr σ σ2/\tt σ2 H2 λb H3=>if b=true then te σ2 H3 C else N H3)
  (hq:∀D H',H0 D=none->Same H0 H'->H' D=some (.lst (ts.map vS))->Q D H'):rLC k fr g tt te σ (Itl K a) H0 Q:=by
 intro D hD;refine⟨λi m acc H=>m=xs.length - i/\i<=xs.length/\Same H0 H/\H D=some (.lst acc)/\acc=(ts.take i).map vS,⟨xs.length,by simp,l16 _,ac hD _,aa,rfl⟩,?_⟩;rintro i m acc H ⟨rfl,hi,sm,hDa,rfl⟩;refine⟨hDa,?_⟩;by_cases hlt:i < xs.length
 ·refine .inr ⟨⟨xs,xs[i],sm.seq hx,by simp[hlt]⟩,λx H' y=>?_⟩;obtain⟨e,y⟩:=y;rw[e];have hti:ts[i]? = some ts[i]:=List.getElem?_eq_getElem nofun;refine ht i x _ (y xs (sm.seq hx)) hti _ sm _ _ λH4 s4=>?_;refine⟨s4 _ _ hDa,by rw[l5,l34,sizeLine_eq];omega,xs.length - (i+1),by omega,rfl,hlt,aj hD (sm.trans s4),aa,?_⟩;rw[l41,hti,l17];rfl
 ·have e:i=xs.length:=by omega
  subst e;refine .inl ⟨⟨xs,sm.seq hx,l7 _⟩,hq D H hD sm ?_⟩;rw[hDa,w6,l38]
theorem mX (c:Nat)(y:List Nat):∀l:List Nat,bA y (aL c l)=l.flatMap λx=>if x=c then y else [x]
 | []=>rfl
 |x::l=>by
  have ih:=mX c y l;by_cases h:x=c
  ·subst h;rw[bL,fc _ _ _ (jX x l),ih,l56,if_pos rfl];rfl
  ·obtain⟨p,t,e1,e2⟩:=aW c x l h;rw[e2,l56,if_neg h,<- ih,e1];cases t with
   |nil=>rfl
   |cons q t=>rfl
def qg (l:List Nat):Lm.escC l=l.flatMap λx=>if x=124 then [92,124] else [x]:=mX 124 [92,124] l
def yj (l:List Nat):l.length<=(Lm.escC l).length:=by
 rw[qg]
 induction l with
 |nil=>exact l7 _
 |cons x l ih=>
  rw[l56,l6,l9];have:1<=(if x=124 then [92,124] else [x]:List Nat).length:=by split <;> simp
  omega
end Lw
namespace K12
open PySem L2 Lm Lw
section
variable {K:Frag}{σ:St}{H:Hp}{ta tb:TE}
def bJ {a C dx:Addr}{fs:List (Str×V)}{v:V}{fl:Str}(h:Ev ta σ H (.ref a))(e:H a=some (.ins C dx fs))(hc:Cls K C)(hn:NoAttr K C fl)(hl:fs.lookup fl=some v):Ev (tFld K ta fl) σ H v:=λR r=>h _ ⟨a,C,dx,fs,v,rfl,e,hc,hn,hl,r⟩
def zw {t:TE}{Q:VK}(h:t σ H λx H1=>tLst.I Q [x] H1):tLst (tCons t tNil) σ H Q:=h
def sU {t:TE}{D:Ends}(h:t σ H λx H1=>tLst.I D.rt [x] H1):tRet (tLst (tCons t tNil)) D σ H:=h
def lZ {tx:TE}{a:List Nat}{x:V}{sp:Sp}{Q:VK}(h1:Ev ta σ H (vS a))(hx:Ev tx σ H x)(h2:sp [x] H (λy H2=>R_op_add_str (vS a) y H2 Q) E0):tOp R_op_add_str ta (tCall sp [] E0 (tCons tx tNil)) σ H Q:=h1 _ (hx _ h2)
end
inductive spWB {β:Type}(c:Cb)(R:Hp->Addr->β->Prop)(fr:β->List (List Nat))(ok:β->Prop)(S:BkF β->Prop)(vs:List V)(H:Hp)(Q:VK)(u3:XK):Prop
 |mk (a b)(_:vs=[.ref a])(_:BAtF c R H a b)(_:S b)(_:OkBF ok b)(_:RowsOk (fN aS fr b))(_:∀r H',Same H H'->H r=none->H' r=some (.lst ((fN aS fr b).map vS))->Q (.ref r) H')
inductive rowsV {β:Type}(fr:β->List (List Nat))(b:β)(H:Hp)(v:V)(H':Hp):Prop
 |mk (_:Same H H')(_:∃r,v = .ref r/\H r=none/\H' r=some (.lst ((fr b).map vS)))
inductive spES (c:Cb)(n:Nat)(vs:List V)(H:Hp)(Q:VK)(u3:XK):Prop
 |mk (l:Addr)(es:List (En n))(ah:List Nat)(_:vs=[.ref l,vS ah])(_:LAt (EAt c n) H l es)(_:es.length<=1000)(_:∀e∈es,OkE n e)(_:RowsOk (bW n ah es))(_:ah.length+2 * n<=1000)(_:∀r H',Same H H'->H r=none->H' r=some (.lst ((bW n ah es).map vS))->Q (.ref r) H')
inductive spRB {β:Type}(R:Hp->Addr->β->Prop)(fr:β->List (List Nat))(ok:β->Prop)(vs:List V)(H:Hp)(Q:VK)(u3:XK):Prop
 |mk (l:Addr)(bs:List β)(_:vs=[.ref l])(_:LAt R H l bs)(_:bs.length<=1000)(_:∀b∈bs,ok b)(_:RowsOk (betw (bs.map fr)))(_:∀r H',Same H H'->H r=none->H' r=some (.lst ((betw (bs.map fr)).map vS))->Q (.ref r) H')
inductive spCR (c:Cb)(vs:List V)(H:Hp)(Q:VK)(u3:XK):Prop
 |mk (l:Addr)(cs:List (List PC))(_:vs=[.ref l])(_:LAt (PL c.cp) H l cs)(_:OkCs cs)(_:(b9 cs).length<=100000)(_:∀H',Same H H'->Q (vS (b9 cs)) H')
inductive spBars (vs:List V)(H:Hp)(Q:VK)(u3:XK):Prop
 |mk (l:Addr)(ts:List (List Nat))(_:vs=[.ref l])(_:H l=some (.lst (ts.map vS)))(_:ts.length<=1000)(_:(im ts).length<=100000)(_:∀H',Same H H'->Q (vS (im ts)) H')
inductive spSR (vs:List V)(H:Hp)(Q:VK)(u3:XK):Prop
 |mk (l:Addr)(sd:List Bool)(_:vs=[.ref l])(_:H l=some (.lst (sd.map λb=>vS (cr b))))(_:sd.length<=1000)(_:(cW sd).length<=100000)(_:∀H',Same H H'->Q (vS (cW sd)) H')
inductive spWC (c:Cb)(vs:List V)(H:Hp)(Q:VK)(u3:XK):Prop
 |mk (l:Addr)(ps:List PC)(_:vs=[.ref l])(_:PL c.cp H l ps)(_:OkPs ps)(_:(kC ps).length<=100000)(_:∀H',Same H H'->Q (vS (kC ps)) H')
inductive spQu (vs:List V)(H:Hp)(Q:VK)(u3:XK):Prop
 |mk (l:List Nat)(_:vs=[vS l])(_:l.length<=100000)(_:∀H',Same H H'->Q (vS (fP l)) H')
section
variable {c:Cb}{BT:Addr}{β:Type}{R:Hp->Addr->β->Prop}{fr:β->List (List Nat)}{ok:β->Prop}
abbrev g8:Stmt:=meth 38 2
abbrev qh:Stmt:=meth 39 2
abbrev g9:Stmt:=meth 40 2
abbrev ji:Stmt:=meth 41 2
abbrev jj:Stmt:=meth 42 2
abbrev jk:Stmt:=meth 43 2
abbrev hE:Stmt:=meth 48 2
abbrev jl:Stmt:=meth 53 2
def jm {r:List Nat}(h:RowsOk [r]):r.length<=100000:=(h.2 r l10).1
def oo (F:Fun K "written" "Naming.written" jj f fd)(T:TxB K mg c BT):FnOk P w K mg base CX0 1 f fd ["self"] (spWB c R fr ok λb=>∃n t,b = .name n t):=by
 have sc:FnScope ["self"] ["self"] (ab jj):=mkS;refine F.oks sc λH Q hr h=>?_;obtain⟨a,b,rfl,ha,⟨n,u,rfl⟩,hok,hro,q⟩:=h;obtain⟨dx,e⟩:=ha;refine ak (xb1 (xret (xlst (xac (xop af (xop af (xop af xstr (xfld (xv 0))) xstr) (xfld (xv 0))) xa0)))) ?_;have hl:=jm hro;simp only[l6,l9,l32] at hl;refine sU ?_;refine bH (bH (bH (bU (b:=[91]) rfl) (bJ (v:=vS n) (ev_v rfl) e T.u14.cls T.g23 rfl) (by simp;omega)) (bU (b:=[93,58,32]) rfl) (by simp;omega)) (bJ (v:=vS u) (ev_v rfl) e T.u14.cls T.z23 rfl) (by simp;omega) _ ⟨bg1,λt ht=>q t _ (ac ht _) ht aa⟩
def oq (F:Fun K "written" "Noting.written" jk f fd)(T:TxB K mg c BT)(De:Def P w K mg base 5 "raw_of" ["parts"] (spRaws c.cp R2)):FnOk P w K mg base CX0 6 f fd ["self"] (spWB c R fr ok λb=>∃n ps,b = .note n ps):=by
 have sc:FnScope ["self"] ["self"] (ab jk):=mkS;refine F.oks sc λH Q hr h=>?_;obtain⟨a,b,rfl,ha,⟨n,ps,rfl⟩,hok,hro,q⟩:=h;obtain⟨dx,l,e,as,el,hps⟩:=ha;refine ak (xb1 (xret (xlst (xac (xop af (xop af (xop af xstr (xfld (xv 0))) xstr) (xcd De hr (xac (xfld (xv 0)) xa0))) xa0)))) ?_;have y7:OkPs ps:=hok.2;have hl:=jm hro;simp only[l6,l9,l32] at hl;refine sU ?_;refine lZ (bH (bH (bU (b:=[91,94]) rfl) (bJ (v:=vS n) (ev_v rfl) e T.g13.cls T.q23 rfl) (by simp;omega)) (bU (b:=[93,58,32]) rfl) (by simp;omega)) (bJ (ev_v rfl) e T.g13.cls T.g19 rfl) ⟨l,as,ps,rfl,el,hps,y7.r2,by rw[hps.len];have:=y7.len;omega,by omega,λH1 s1=>⟨_,_,rfl,rfl,by rw[aw,aw,sizeLine_eq];simp;omega,bg1,λt ht=>?_⟩⟩;rw[cF];exact q t _ (s1.trans (ac ht _)) (s1.free ht) aa
def ma (F:Fun K "written" "Heading.written" g8 f fd)(T:TxB K mg c BT)(De:Def P w K mg base 5 "raw_of" ["parts"] (spRaws c.cp R2)):FnOk P w K mg base CX0 6 f fd ["self"] (spWB c R fr ok λb=>∃n ps,b = .heading n ps):=by
 have sc:FnScope ["self"] ["self"] (ab g8):=mkS;refine F.oks sc λH Q hr h=>?_;obtain⟨a,b,rfl,ha,⟨n,ps,rfl⟩,hok,hro,q⟩:=h;obtain⟨dx,l,e,as,el,hps⟩:=ha;refine ak (xb1 (xret (xlst (xac (xop af (xop af (xop nS xstr (xfld (xv 0))) xstr) (xcd De hr (xac (xfld (xv 0)) xa0))) xa0)))) ?_;have hn:n<=3:=hok.1;have y7:OkPs ps:=hok.2;have hl:=jm hro;simp only[l6,l9,l32] at hl;have hm:Ev (tOp R_op_mul_str (tC (.str "=")) (tFld K (tVar 0) "level")) [some (.ref a)] H (vS (List.replicate n 61)):=λR r=>by
  show tFld _ _ _ _ _ _;refine bJ (v := .int n) (ev_v rfl) e T.u13.cls T.q22 rfl _ ⟨_,_,rfl,rfl,rfl,by omega,by omega,?_⟩;rw[show Txt.mul (Str.ofString "=") (n:Int)=S (List.replicate n 61) from zo 61 n];exact r
 refine sU ?_;refine lZ (bH hm (bU (b:=[32]) rfl) (by simp;omega)) (bJ (ev_v rfl) e T.u13.cls T.q18 rfl) ⟨l,as,ps,rfl,el,hps,y7.r2,by rw[hps.len];have:=y7.len;omega,by omega,λH1 s1=>⟨_,_,rfl,rfl,by rw[aw,aw,sizeLine_eq];simp;omega,bg1,λt ht=>?_⟩⟩;rw[cF];exact q t _ (s1.trans (ac ht _)) (s1.free ht) aa
def sV (F:Fun K "written" "Para.written" qh f fd)(T:TxB K mg c BT)(De:Def P w K mg base 5 "raw_of" ["parts"] (spRaws c.cp R2))(Ya:Def P w K mg base 4 "sort_of" ["row"] (spSort K)):FnOk P w K mg base CX0 6 f fd ["self"] (spWB c R fr ok λb=>∃ps,b = .para ps):=by
 have sc:FnScope ["self","raw"] ["self"] (ab qh):=mkS;refine F.oks sc λH Q hr h=>?_;obtain⟨a,b,rfl,ha,⟨ps,rfl⟩,hok,hro,q⟩:=h;obtain⟨dx,l,e,as,el,hps⟩:=ha;refine ak (xbc (xst (i:=1) sc.nd (xcd De hr (xac (xfld (xv 0)) xa0)))
  (xb1 (xret (xifE (aA aI (xix ar (xcd Ya hr (xac (xv 1) xa0)) xint (λ_ _=>rfl)) xstr (ai _)) (xlst (xac (xv 1) xa0)) (xlst (xac (xop af xstr (xv 1)) xa0)))))) ?_
 rw[oR];have y7:OkPs ps:=hok;have hl:(if aS (raws false ps) then raws false ps else 92::raws false ps).length<=100000:=jm hro;have hl2:(raws false ps).length<=100000:=by
  split at hl
  ·exact hl
  ·rw[l9] at hl;omega
 refine⟨_,rfl,a,_,dx,_,_,rfl,e,T.g18.cls,T.u19,rfl,l,as,ps,rfl,el,hps,y7.r2,by rw[hps.len];have:=y7.len;omega,hl2,λH1 s1=>?_⟩;have q:∀r H',Same H H'->H r=none->H' r=some (.lst [vS (if aS (raws false ps) then raws false ps else 92::raws false ps)])->Q (.ref r) H':=q
 left
 generalize raws false ps=rw0 at hl2 q ⊢;refine⟨_,rfl,rw0,rfl,by omega,λp H2 s2 hp=>?_⟩;obtain⟨ys,ep,_,_⟩:=hp.parts;refine⟨p,_,0,_,rfl,rfl,SqT.of ep,ay (j:=0) rfl,rfl,_,rfl,?_⟩;have hd:decide (vS (vn (gB rw0))=V.str (Str.ofString "plain"))=aS rw0:=by
  unfold aS;exact decide_eq_decide.mpr ⟨λz=>iX (V.str.inj z),λz=>by rw[z];rfl⟩
 rw[hd];have s12:=s1.trans s2;cases hpl:aS rw0 with
 |true=>
  rw[hpl] at q;exact iteT ⟨_,rfl,bg1,λt ht=>q t _ (s12.trans (ac ht _)) (s12.free ht) aa⟩
 |false=>
  rw[hpl] at q;refine iteF (zw ?_);exact bH (bU (b:=[92]) rfl) (ev_v (v:=vS rw0) rfl) (by show 1+_<=_;omega) _ ⟨bg1,λt ht=>q t _ (s12.trans (ac ht _)) (s12.free ht) aa⟩
def md (F:Fun K "written" "Literal.written" g9 f fd)(T:TxB K mg c BT):FnOk P w K mg base CX0 1 f fd ["self"] (spWB c R fr ok λb=>∃ls,b = .lit ls):=by
 have sc:FnScope ["self"] ["self"] (ab g9):=mkS;refine F.oks sc λH Q hr h=>?_;obtain⟨a,b,rfl,ha,⟨ls,rfl⟩,hok,hro,q⟩:=h;obtain⟨dx,l,e,el⟩:=ha;refine ak (xb1 (xret (xop fJ (xop fJ (xlst (xac (xgS T.q12) xa0)) (xfld (xv 0))) (xlst (xac (xgS T.q12) xa0))))) ?_;have hl:ls.length<=1000:=hok.1;have hs:=sizeLine_eq;refine⟨bg1,λt1 h1=>?_⟩;have s1:=ac h1 (.lst [vS [126,126,126]]);have e1:upd H t1 (.lst [vS [126,126,126]]) t1=some (.lst [vS [126,126,126]]):=aa;show tFld _ _ _ _ (upd H t1 (.lst [vS [126,126,126]])) _;generalize upd H t1 (.lst [vS [126,126,126]])=H1 at s1 e1 ⊢;refine bJ (ev_v rfl) (s1 _ _ e) T.z22.cls T.u23 rfl _ ⟨t1,l,_,_,rfl,rfl,e1,s1 _ _ el,by rw[l5,hs];show 1+_<=_;omega,λt2 h2=>⟨bg1,λt3 h3=>?_⟩⟩;have s2:=ac h2 (.lst ([vS [126,126,126]]++ls.map vS));have s3:=ac h3 (.lst [vS [126,126,126]]);refine⟨t2,t3,_,_,rfl,rfl,s3 _ _ aa,aa,by rw[l6,l5,hs];show 1+_+1<=_;omega,λt4 h4=>?_⟩;have s13:=(s1.trans s2).trans s3;refine q t4 _ (s13.trans (ac h4 _)) (s13.free h4) ?_;rw[aa];show _=some (HO.lst (([[126,126,126]]++ls++[[126,126,126]]).map vS));rw[l17,l17];rfl
def mf {k:Nat}(F:Fun K "written" "Listing.written" hE f fd)(T:TxB K mg c BT)(Yb:Def P w K mg base k "entry_rows" p18 (spES c 6)):FnOk P w K mg base CX0 (k+1) f fd ["self"] (spWB c R fr ok λb=>∃es,b = .lst es):=by
 have sc:FnScope ["self"] ["self"] (ab hE):=mkS;refine F.oks sc λH Q hr h=>?_;obtain⟨a,b,rfl,ha,⟨es,rfl⟩,hok,hro,q⟩:=h;obtain⟨dx,l,e,hl⟩:=ha;refine ak (xb1 (xret (xcd Yb hr (xac (xfld (xv 0)) (xac xstr xa0))))) ?_;exact bJ (ev_v rfl) e T.z18.cls T.u20 rfl _ ⟨l,es,[],rfl,hl,hok.1,hok.2,hro,by decide,q⟩
abbrev mh:Stmt:=top 44
def qi (F:Fun K "quoted" "quoted" mh f fd):FnOk P w K mg base CX0 1 f fd ["row"] spQu:=by
 have sc:FnScope ["row"] ["row"] (ab mh):=mkS;refine F.oks sc λH Q hr h=>?_;obtain⟨l,rfl,hl,q⟩:=h;refine ak (xb1 (xret (xifE (aA aI (xv 0) xstr (ai _)) xstr (xop af xstr (xv 0))))) ?_;refine t_eq l [] rfl (ev_v rfl) _ λH1 s1=>?_;have q:=q H1 s1;unfold fP at q;by_cases h:l=[]
 ·rw[decide_eq_true h];rw[if_pos h] at q;exact iteT q
 ·rw[decide_eq_false h];rw[if_neg h] at q;exact iteF (bH (bU (b:=[62,32]) rfl) (ev_v rfl) (by show 2+_<=_;omega) _ q)
abbrev qj:Stmt:=top 45
def sW {k:Nat}(F:Fun K "rows_between" "rows_between" qj f fd)(T:TxB K mg c BT)(hM:MV P w K mg base k "written" R (λb=>ok b/\RowsOk (fr b)) (rowsV fr))(mR:MoR R):FnOk P w K mg base CX0 (k+1) f fd ["blocks"] (spRB R fr ok):=by
 have sc:FnScope ["blocks","rows","number","block"] ["blocks"] (ab qj):=mkS;refine F.oks sc λH Q hr h=>?_;obtain⟨l,bs,rfl,⟨as,el,hls⟩,hbl,hok,hro,q⟩:=h;refine ak (xbc (xst (i:=1) sc.nd (xlst xa0))
  (xbc (xfor PassesOwn.never rfl (xie T.q14 (xac (xv 0) xa0)) (xgt rfl (xgsc (xgm (i:=2) sc.nd) (xgsc (xgm (i:=3) sc.nd) xgs0)))
  (xbc (xif (aA jG (xv 2) xint (ai _)) (xb1 (bo (xmA (xv 1) (xac xstr xa0)))) xb0)
  (xb1 (bo (xm plainAttrs_list slot_list_extend type_list_extend bQ (xv 1) (xac (xmV0 (k:=k) (xv 3) hr.mono) xa0))))))
  (xb1 (xret (xv 1))))) ?_
 have hs:=sizeLine_eq;rw[yY];have w6:=hls.len;refine⟨bg0,λr hr0=>?_⟩;have s1:=ac hr0 (.lst []);have e1:upd H r (.lst []) r=some (.lst []):=aa
 left
 generalize upd H r (.lst [])=H1 at s1 e1 ⊢;refine⟨_,rfl,l,_,rfl,s1 _ _ el,?_⟩;refine sR (xs:=as.map V.ref) (λi σ H'=>∃x2 x3,σ=[some (.ref l),some (.ref r),x2,x3]/\Same H H'/\H' r=some (.lst ((betw ((bs.take i).map fr)).map vS))) ⟨none,none,rfl,s1,e1⟩ ?_ ?_ ?_
 ·rintro i σ H3 _ ⟨_,_,_,s3,_⟩;exact SqL.of (s3 _ _ el)
 ·rintro i x σ H3 U hx ⟨x2,x3,rfl,s3,e3⟩ hU;obtain⟨a,b,rfl,hbi,_,ha⟩:=hls.get hx;have hm:=l18 hbi;have hbm:fr b∈bs.map fr:=l43 hm;have s3':=ac hU (.tup [.int (i:Nat),V.ref a]);have etk:(bs.take (i+1)).map fr=(bs.take i).map fr++[fr b]:=by rw[l41,hbi,l17];rfl
  have hpre:(betw ((bs.take (i+1)).map fr)).length<=(betw (bs.map fr)).length:=by
   have:∀(xs ys:List (List (List Nat))),(betw xs).length<=(betw (xs++ys)).length:=λxs ys=>by
    induction ys generalizing xs with
    |nil=>rw[l25];exact l7 _
    |cons y ys ih=>
     have h1:=ih (xs++[y]);rw[eI,l28] at h1;rw[show xs++y::ys=xs++([y]++ys) from rfl];rw[l6] at h1;omega
   have h2:=this ((bs.take (i+1)).map fr) ((bs.drop (i+1)).map fr);rwa [<- l17,l47] at h2
  have hro1:=hro.1;rw[etk,eI];rw[etk,eI,l6,l6] at hpre;refine⟨U,_,rfl,SqT.of aa,rfl,?_⟩;generalize upd H3 U (.tup [.int (i:Nat),V.ref a])=H4 at s3' ⊢;have s4:=s3.trans s3';have e4:=s3' _ _ e3;refine⟨_,_,rfl,_,_,rfl,rfl,?_⟩;show tSeq _ _ _ [some (V.ref l),some (V.ref r),some (V.int i),some (V.ref a)] H4;have hemp:(bs.take i).map fr=[] ↔ i=0:=by
   rw[List.map_eq_nil_iff];have hil:=(List.getElem?_eq_some_iff.mp hbi).1;constructor
   ·intro z;have:=congrArg List.length z;rw[l34,l32] at this;omega
   ·intro z;rw[z];rfl
  obtain⟨gp,hgp⟩:∃gp:List (List Nat),gp=if ((bs.take i).map fr).isEmpty then [] else [[]]:=⟨_,rfl⟩
  have hgl:gp.length<=1:=by rw[hgp];split <;> simp
  rw[<- hgp] at hpre ⊢;refine cq (λσ' H'=>σ'=[some (V.ref l),some (V.ref r),some (V.int i),some (V.ref a)]/\Same H H'/\H' r=some (.lst ((betw ((bs.take i).map fr)++gp).map vS))) (λN hN=>?_) ?_
  ·refine s_if (decide ((0:Int) < i)) (λR k=>⟨_,rfl,_,_,rfl,rfl,_,rfl,k _ (Same.refl _)⟩) (λH5 s5 z=>?_) λH5 s5 z=>hN _ _ ⟨rfl,s4.trans s5,?_⟩
   ·have z:=of_decide_eq_true z;have e5:=s5 _ _ e4;refine⟨_,rfl, .inl ⟨rfl,_,SqL.of e5⟩,r,_,_,rfl,rfl,e5,by rw[l5,hs];omega,hN _ _ ⟨rfl,aj hr0 (s4.trans s5),?_⟩⟩;rw[aa,hgp,if_neg (by rw[l81,hemp];omega),l17];rfl
   ·have z:=of_decide_eq_false z;rw[hgp,if_pos (by rw[l81,hemp];omega),l25];exact s5 _ _ e4
  ·rintro σ' H5 ⟨rfl,s5,e5⟩;obtain⟨Cc,dx,fs,sp,f1,f2,V,hsp⟩:=hM b ⟨hok b hm,hro.sub hbm⟩ H5 a (mR _ _ _ _ s5 ha);refine⟨_,rfl, .inl ⟨rfl,_,SqL.of e5⟩,_,rfl,a,Cc,dx,fs,_,sp,rfl,f1,f2,V,hsp _ _ λv H6 ⟨s6,q6,hv,n6,e6⟩=>?_⟩;subst hv;refine⟨r,q6,_,_,rfl,rfl,s6 _ _ e5,e6,by rw[l5,l5,l6,hs];omega,?_⟩;refine⟨_,_,rfl,aj hr0 (s5.trans s6),?_⟩;rw[aa,<- l17,l28]
 ·rintro σ H3 ⟨x2,x3,rfl,s3,e3⟩;rw[l5,w6,l38] at e3;exact⟨_,rfl,q r H3 s3 hr0 e3⟩
def qk {k:Nat}(F:Fun K "written" "Quote.written" ji f fd)(T:TxB K mg c BT)(Yu:Def P w K mg base k "rows_between" ["blocks"] (spRB R fr ok))(Yc:Def P w K mg base 1 "quoted" ["row"] spQu)(mR:MoR R):FnOk P w K mg base CX0 (k+2) f fd ["self"] (spWB c R fr ok λb=>∃bs,b = .quote bs):=by
 have sc:FnScope ["self"] ["self"] (ab ji):=mkS;refine F.oks sc λ{cdv A _ s _ _}H Q hr h=>?_;obtain⟨a,b,rfl,ha,⟨bs,rfl⟩,hok,hro,q⟩:=h;obtain⟨dx,l,e,hl⟩:=ha;have hu:(A.deeper (PyProof.Rows.envOfC "Quote.written" (ab ji) s.heap.objs.size f cdv)).units+64 < cLine:=by
  have:=hr.un;omega
 refine ak (xbc (xif (aA (pM hu) (xfld (xv 0)) (xlst xa0) (ai _)) (xb1 (xret (xlst (xac xstr xa0)))) xb0)
  (xb1 (xret (xlc0 (own:=["row"])
  (xil (xcd Yu hr (xac (xfld (xv 0)) xa0)))
  (λ_ _ _ _=>xgm (i:=0) (show (["row"]:List Str).Nodup by decide)) (λ_ _ _ _=>xq0) (λ_ _ _ _=>(xcd Yc hr (xac (xv 0) xa0))))))) ?_
 obtain⟨as,el,hls⟩:=id hl;have w6:=hls.len;refine⟨_,rfl,a,_,dx,_,_,rfl,e,T.q13.cls,T.g14,rfl,bg0,λo ho=>?_⟩;have s1:=ac ho (.lst []);refine⟨l,o,_,rfl,rfl,SqL.of (s1 _ _ el),SqL.of aa,_,rfl,?_⟩;generalize upd H o (.lst [])=H1 at s1 ⊢;have hem:(as.map V.ref).isEmpty=bs.isEmpty:=by
  cases as with
  |nil=>cases bs with
   |nil=>rfl
   |cons _ _=>cases w6
  |cons _ _=>cases bs with
   |nil=>cases w6
   |cons _ _=>rfl
 have q:∀r H',Same H H'->H r=none->H' r=some (.lst ((if bs.isEmpty then [[62]] else (betw (bs.map fr)).map fP).map vS))->Q (.ref r) H':=q;have hro:RowsOk (if bs.isEmpty then [[62]] else (betw (bs.map fr)).map fP):=hro;show (if (as.map V.ref).isEmpty=true then _ else _:Prop);rw[hem];cases hb:bs.isEmpty with
 |true=>
  rw[hb] at q;exact iteT (sU ⟨bg1,λt ht=>q t _ (s1.trans (ac ht _)) (s1.free ht) aa⟩)
 |false=>
  rw[hb] at q hro;refine iteF ?_;have hro2:RowsOk (betw (bs.map fr)):=RowsOk.unq hro;refine⟨_,rfl,a,_,dx,_,_,rfl,s1 _ _ e,T.q13.cls,T.g14,rfl,l,bs,rfl,hl.same mR s1,hok.1,hok.2,hro2,λr H2 s2 hr2 e2=>⟨r,rfl,⟨_,SqL.of e2⟩,?_⟩⟩;have h1:=hro2.1;refine eJ ((betw (bs.map fr)).map fP) (SqL.of e2) (by rw[l5,l5]) (by rw[l5];omega) ?_ ?_
  ·intro i x t hx ht H3 s3 C N hC;rw[List.getElem?_map] at hx ht;cases hri:(betw (bs.map fr))[i]? with
   |none=>rw[hri] at hx;cases hx
   |some rw0=>
    rw[hri] at hx ht;cases hx;cases ht;exact⟨(nfLe.refl _ _ _).set ∅ _,iteT (B:=N H3) ⟨_,rfl,rw0,rfl,(hro2.2 _ (l18 hri)).1,λH4 s4=>hC H4 s4⟩⟩
  ·intro D H3 hD s3 e3;exact q D H3 ((s1.trans s2).trans s3) ((s1.trans s2).free hD) e3
abbrev mi:Stmt:=top 58
def barT (t:List Nat):List Nat:=if t=[] then [32,124] else [32]++t++[32,124]
def qm (ts:List (List Nat)):im ts=[124]++(ts.map barT).flatten:=by
 unfold im;rw[List.flatMap_def];rfl
def qo (F:Fun K "barred" "barred" mi f fd):FnOk P w K mg base CX0 1 f fd ["texts"] spBars:=by
 have sc:FnScope ["texts"] ["texts"] (ab mi):=mkS;refine F.oks sc λH Q hr h=>?_;obtain⟨l,ts,rfl,el,hl,hb,q⟩:=h;refine ak (xb1 (xret (xop af xstr (xm plainAttrs_str slot_str_join type_str_join eY xstr (xac (xlc0 (own:=["text"])
  (xil (xv 0))
  (λ_ _ _ _=>xgm (i:=0) (show (["text"]:List Str).Nodup by decide)) (λ_ _ _ _=>xq0) (λ_ _ _ _=>(xifE (aA aI (xv 0) xstr (ai _)) xstr (xop af (xop af xstr (xv 0)) xstr)))) xa0))))) ?_
 rw[qm] at hb q;rw[l6] at hb;have hm:∀t∈ts,t.length<=100000:=λt ht=>by
  have h1:(barT t).length<=((ts.map barT).flatten).length:=by
   obtain⟨x,y,rfl⟩:=List.append_of_mem ht;rw[l17,l20,l63,l86];simp only[l6];omega
  have h2:t.length<=(barT t).length:=by
   unfold barT;split
   ·rename_i z;rw[z];exact l16 _
   ·simp only[l6];omega
  omega
 refine⟨rfl,_,rfl,l,rfl,⟨_,SqL.of el⟩,?_⟩;refine eJ (ts.map barT) (SqL.of el) (by rw[l5,l5]) (by rw[l5];omega) ?_ ?_
 ·intro i x t hx ht H3 s3 C N hC;rw[List.getElem?_map] at hx ht;cases hri:ts[i]? with
  |none=>rw[hri] at hx;cases hx
  |some t0=>
   rw[hri] at hx ht;cases hx;cases ht;have ht0:=hm t0 (l18 hri);refine⟨(nfLe.refl _ _ _).set ∅ _,iteT (B:=N H3) ?_⟩;refine t_eq t0 [] rfl (ev_v rfl) _ λH4 s4=>?_;have hC:=hC H4 s4;unfold barT at hC;by_cases h:t0=[]
   ·rw[decide_eq_true h];rw[if_pos h] at hC;exact iteT hC
   ·rw[decide_eq_false h];rw[if_neg h] at hC;exact iteF (bH (bH (bU (b:=[32]) rfl) (ev_v rfl) (by show 1+_<=_;omega)) (bU (b:=[32,124]) rfl) (by simp;omega) _ hC)
 ·intro D H3 hD s3 e3;refine⟨S [],_,(ts.map barT).map S,rfl,rfl,SqL.of (e3.trans (by (conv=>rhs;rw[l30]);rfl)),fU _ nofun,?_⟩;rw[fg,cV];refine⟨_,_,rfl,rfl,by show 1+(S _).length<=_;rw[aw,sizeLine_eq];omega,?_⟩;rw[show Str.ofString "|"++S ((ts.map barT).flatten)=S ([124]++(ts.map barT).flatten) from cF [124] _];exact q H3 s3
abbrev sWC:Stmt:=top 59
def zx (F:Fun K "written_cell" "written_cell" sWC f fd)(De:Def P w K mg base 5 "raw_of" ["parts"] (spRaws c.cp R2))(Yd:Def P w K mg base 1 "cell_text" ["text"] spCellText)(Ye:Def P w K mg base 1 "is_rule" ["text"] spRule):FnOk P w K mg base CX0 6 f fd ["parts"] (spWC c):=by
 have sc:FnScope ["parts","raw"] ["parts"] (ab sWC):=mkS;refine F.oks sc λH Q hr h=>?_;obtain⟨l,ps,rfl,⟨as,el,hps⟩,y7,hl,q⟩:=h;refine ak (xbc (xst (i:=1) sc.nd (xcd De hr (xac (xv 0) xa0)))
  (xb1 (xret (xcd Yd hr (xac (xifE (bq (xcd Ye hr (xac (xv 1) xa0))) (xop af xstr (xv 1)) (xv 1)) xa0))))) ?_
 rw[oR];unfold kC at hl q;have hl1:=l13 (yj _) hl;have hl2:(raws false ps).length<=100000:=by
  split at hl1
  ·rw[l9] at hl1;omega
  ·exact hl1
 refine⟨_,rfl,l,as,ps,rfl,el,hps,y7.r2,by rw[hps.len];have:=y7.len;omega,hl2,λH1 s1=>?_⟩
 left
 generalize raws false ps=rw0 at hl hl1 hl2 q ⊢;refine⟨_,rfl,rw0,rfl,by omega,λH2 s2=>⟨_,rfl,?_⟩⟩;have q:=q H2 (s1.trans s2);cases hr:il rw0 with
 |true=>
  rw[hr] at q;exact iteT (bH (bU (b:=[92]) rfl) (ev_v (v:=vS rw0) rfl) (by show 1+_<=_;omega) _ ⟨_,rfl,by rw[l6];show 1+_<=_;omega,q⟩)
 |false=>
  rw[hr] at q;exact iteF ⟨_,rfl,rw0,rfl,by omega,q⟩
abbrev sCR:Stmt:=top 56
def vT {t:List Nat}{ts:List (List Nat)}(h:t∈ts):t.length<=(im ts).length:=by
 rw[qm,l6];obtain⟨x,y,rfl⟩:=List.append_of_mem h;rw[l17,l20,l63,l86];have h2:t.length<=(barT t).length:=by
  unfold barT;split
  ·rename_i z;rw[z];exact l16 _
  ·simp only[l6];omega
 simp only[l6];omega
def zy (F:Fun K "cells_row" "cells_row" sCR f fd)(Dv:Def P w K mg base 1 "barred" ["texts"] spBars)(Yf:Def P w K mg base 6 "written_cell" ["parts"] (spWC c)):FnOk P w K mg base CX0 7 f fd ["cells"] (spCR c):=by
 have sc:FnScope ["cells"] ["cells"] (ab sCR):=mkS;refine F.oks sc λH Q hr h=>?_;obtain⟨l,cs,rfl,⟨as,el,hls⟩,hok,hl,q⟩:=h;refine ak (xb1 (xret (xcd Dv hr (xac (xlc0 (own:=["cell"])
  (xil (xv 0))
  (λ_ _ _ _=>xgm (i:=0) (show (["cell"]:List Str).Nodup by decide)) (λ_ _ _ _=>xq0) (λ_ _ _ _=>(xcd Yf hr (xac (xv 0) xa0)))) xa0)))) ?_
 have w6:=hls.len;have hcl:=hok.1;unfold b9 at hl q;refine⟨_,rfl,l,rfl,⟨_,SqL.of el⟩,?_⟩;refine eJ (cs.map kC) (SqL.of el) (by rw[l5,l5,w6]) (by rw[l5];omega) ?_ ?_
 ·intro i x t hx ht H3 s3 C N hC;obtain⟨a,ps,rfl,hpi,_,hp⟩:=hls.get hx;rw[List.getElem?_map,hpi] at ht;cases ht;have hm:=l18 hpi;exact⟨(nfLe.refl _ _ _).set ∅ _,iteT (B:=N H3) ⟨_,rfl,a,ps,rfl,gW _ _ _ _ s3 hp,hok.2 ps hm,l13 (vT (l43 hm)) hl,λH4 s4=>hC H4 s4⟩⟩
 ·intro D H3 hD s3 e3;exact⟨D,_,rfl,e3,by rw[l5];exact hcl,hl,λH4 s4=>q H4 (s3.trans s4)⟩
abbrev sSR:Stmt:=top 57
def zA (F:Fun K "sides_row" "sides_row" sSR f fd)(Dv:Def P w K mg base 1 "barred" ["texts"] spBars):FnOk P w K mg base CX0 2 f fd ["sides"] spSR:=by
 have sc:FnScope ["sides"] ["sides"] (ab sSR):=mkS;refine F.oks sc λH Q hr h=>?_;obtain⟨l,sd,rfl,el,hsl,hl,q⟩:=h;refine ak (xb1 (xret (xcd Dv hr (xac (xlc0 (own:=["side"])
  (xil (xv 0))
  (λ_ _ _ _=>xgm (i:=0) (show (["side"]:List Str).Nodup by decide)) (λ_ _ _ _=>xq0) (λ_ _ _ _=>(xifE (aA aI (xv 0) xstr (ai _)) xstr xstr))) xa0)))) ?_
 unfold cW at hl q;refine⟨_,rfl,l,rfl,⟨_,SqL.of el⟩,?_⟩;refine eJ (sd.map λb=>if b then [45,45,58] else [45,45,45]) (SqL.of el) (by rw[l5,l5]) (by rw[l5];omega) ?_ ?_
 ·intro i x t hx ht H3 s3 C N hC;rw[List.getElem?_map] at hx ht;cases hri:sd[i]? with
  |none=>rw[hri] at hx;cases hx
  |some b=>
   rw[hri] at hx ht;cases hx;cases ht;refine⟨(nfLe.refl _ _ _).set ∅ _,iteT (B:=N H3) ?_⟩;refine t_eq (cr b) [114,105,103,104,116] rfl (ev_v rfl) _ λH4 s4=>?_;have hC:=hC H4 s4;cases b with
   |true=>exact iteT hC
   |false=>exact iteF hC
 ·intro D H3 hD s3 e3;exact⟨D,_,rfl,e3,by rw[l5];exact hsl,hl,λH4 s4=>q H4 (s3.trans s4)⟩
def qp (F:Fun K "written" "Table.written" jl f fd)(T:TxB K mg c BT)(DL:Def P w K mg base 7 "cells_row" ["cells"] (spCR c))(Yg:Def P w K mg base 2 "sides_row" ["sides"] spSR):FnOk P w K mg base CX0 8 f fd ["self"] (spWB c R fr ok λb=>∃hd sd ls,b = .table hd sd ls):=by
 have sc:FnScope ["self","rows"] ["self"] (ab jl):=mkS;refine F.oks sc λ{cdv A _ s _ _}H Q hr h=>?_;obtain⟨a,b,rfl,ha,⟨hd,sd,ls,rfl⟩,hok,hro,q⟩:=h;obtain⟨dx,lh,lsd,ll,e,hh,es,as,el,hls⟩:=ha;obtain⟨ok1,ok2,ok3,ok4⟩:=hok;have hu:(A.deeper (PyProof.Rows.envOfC "Table.written" (ab jl) s.heap.objs.size f cdv)).units+64 < cLine:=by
  have:=hr.un;omega
 refine ak (xbc (pb (i:=1) (own:=["line"]) sc.nd
  (xil (xfld (xv 0)))
  (λ_ _ _ _=>xgm (i:=0) (show (["line"]:List Str).Nodup by decide)) (λ_ _ _ _=>xq0) (λ_ _ _ _=>(xcd DL hr (xac (xv 0) xa0))))
  (xbc (xif (aA (pM hu) (xfld (xv 0)) (xlst xa0) (ai _)) (xb1 (xret (xv 1))) xb0)
  (xb1 (xret (xop fJ (xlst (xac (xcd DL hr (xac (xfld (xv 0)) xa0)) (xac (xcd Yg hr (xac (xfld (xv 0)) xa0)) xa0))) (xv 1)))))) ?_
 have hs:=sizeLine_eq;rw[oR];have w6:=hls.len;have hro:RowsOk (if hd=[] then ls.map b9 else [b9 hd,cW sd]++ls.map b9):=hro;have q:∀r H',Same H H'->H r=none->H' r=some (.lst ((if hd=[] then ls.map b9 else [b9 hd,cW sd]++ls.map b9).map vS))->Q (.ref r) H':=q;have hln:∀l∈ls,(b9 l).length<=100000:=λl hl=>by
  refine(hro.2 _ ?_).1;split
  ·exact l43 hl
  ·exact l31 _ (l43 hl)
 refine⟨_,rfl,a,_,dx,_,_,rfl,e,T.g11.cls,T.g20,rfl,ll,rfl,⟨_,SqL.of el⟩,?_⟩;refine eJ (ls.map b9) (SqL.of el) (by rw[l5,l5,w6]) (by rw[l5];omega) ?_ ?_
 ·intro i x t hx ht H3 s3 C N hC;obtain⟨b,l,rfl,hli,_,hl⟩:=hls.get hx;rw[List.getElem?_map,hli] at ht;cases ht;have hm:=l18 hli;exact⟨(nfLe.refl _ _ _).set ∅ _,iteT (B:=N H3) ⟨_,rfl,b,l,rfl,gV gW _ _ _ _ s3 hl,ok4 l hm,hln l hm,λH4 s4=>hC H4 s4⟩⟩
 intro D H1 hD s1 e1
 left
 obtain⟨has,eh,hhl⟩:=id hh;have hhlen:=hhl.len;refine⟨_,rfl,a,_,dx,_,_,rfl,s1 _ _ e,T.g11.cls,T.z15,rfl,bg0,λo ho=>?_⟩;have s2':=ac ho (.lst []);refine⟨lh,o,_,rfl,rfl,SqL.of (s2' _ _ (s1 _ _ eh)),SqL.of aa,_,rfl,?_⟩;generalize upd H1 o (.lst [])=H2 at s2' ⊢;have s2:=s1.trans s2';have e2:=s2' _ _ e1;show (if (has.map V.ref).isEmpty=true then _ else _:Prop);by_cases hz:hd=[]
 ·subst hz;have:has=[]:=l85 hhlen;subst this;rw[if_pos rfl] at q;exact iteT ⟨_,rfl,q D H2 s2 hD e2⟩
 ·rw[if_neg hz] at q hro;have hne:(has.map V.ref).isEmpty=false:=by
   cases has with
   |nil=>exact absurd (l85 hhlen.symm) hz
   |cons _ _=>rfl
  rw[hne];refine iteF ?_;refine⟨_,rfl,a,_,dx,_,_,rfl,s2 _ _ e,T.g11.cls,T.z15,rfl,lh,hd,rfl,hh.same gW s2,ok1,(hro.2 _ l10).1,λH3 s3=>?_⟩;have s13:=s2.trans s3;refine⟨_,rfl,a,_,dx,_,_,rfl,s13 _ _ e,T.g11.cls,T.g24,rfl,lsd,sd,rfl,s13 _ _ es,ok2,(hro.2 _ (l15 _ l10)).1,λH4 s4=>⟨bg2,λp hp=>?_⟩⟩;have s5:=ac hp (.lst [vS (b9 hd),vS (cW sd)]);have s35:=(s3.trans s4).trans s5;refine⟨_,rfl,p,D,_,_,rfl,rfl,aa,s35 _ _ e2,by rw[l5,l5,hs];show 2+_<=_;omega,λr hr'=>?_⟩;have s15:=s2.trans s35;refine q r _ (s15.trans (ac hr' _)) (s15.free hr') ?_;rw[aa,l17];rfl
def vU {σ:St}{H:Hp}{tx ty:TE}{sp:Sp}{x y:V}{Q:List V->Hp->Prop}(hx:Ev tx σ H x)(hy:Ev ty σ H y)(h:sp [x,y] H (λv H'=>Q [v] H') E0):tCons (tCall sp [] E0 (tCons tx (tCons ty tNil))) tNil σ H Q:=
 (show tx σ H (λx' H1=>ty σ H1 λy' H2=>sp [x',y'] H2 (λv H'=>Q [v] H') E0) from hx _ (hy _ h))
abbrev sES:Stmt:=top 50
def kN {n:Nat}{ah:List Nat}(xs ys:List (EnF (En n))):bW (n+1) ah (xs++ys)=bW (n+1) ah xs++bW (n+1) ah ys:=l44
def sX {n i:Nat}{ah:List Nat}{es:List (En (n+1))}{e:En (n+1)}(h:es[i]? = some e):bW (n+1) ah (es.take (i+1))=bW (n+1) ah (es.take i)++((ah++cw (EnF.sign e)++[32]++raws false (EnF.parts e))::bW n (ah++[32,32]) (EnF.within e))/\∃z,bW (n+1) ah es=bW (n+1) ah (es.take (i+1))++z:=by
 have h1:es.take (i+1)=es.take i++[e]:=by rw[l41,h];rfl
 refine⟨(congrArg (bW (n+1) ah) h1).trans ((kN _ _).trans (congrArg (_ ++ ·) (l25 _))),_,(congrArg (bW (n+1) ah) (l47 (i+1) es).symm).trans (kN _ _)⟩
def zB (c:Cb)(spI:Sp):Nat->Prop
 |0=>True
 |m+1=>∀vs H Q E,spES c m vs H Q E->spI vs H Q E
def yk {k:Nat}(n:Nat){spI:Sp}(F:Fun K "entry_rows" "entry_rows" sES f fd)(T:TxB K mg c BT)(De:Def P w K mg base 5 "raw_of" ["parts"] (spRaws c.cp R2))(Yb:Def P w K mg base k "entry_rows" p18 spI)(hI:zB c spI n):FnOk P w K mg base CX0 (k+6) f fd p18 (spES c n):=by
 have sc:FnScope ["entries","ahead","rows","entry"] p18 (ab sES):=mkS;refine F.oks sc λH Q hr h=>?_;obtain⟨l,es,ah,rfl,⟨as,el,hls⟩,hel,hok,hro,hah,q⟩:=h;refine ak (xbc (xst (i:=2) sc.nd (xlst xa0))
  (xbc (xfor PassesOwn.never rfl (xil (xv 0)) (xgm (i:=3) sc.nd)
  (xbc (bo (xmA (xv 2) (xac (xop af (xop af (xop af (xv 1) (xfld (xv 3))) xstr) (xcd De hr (xac (xfld (xv 3)) xa0))) xa0)))
  (xb1 (bo (xm plainAttrs_list slot_list_extend type_list_extend bQ (xv 2) (xac (xcd Yb hr (xac (xfld (xv 3)) (xac (xop af (xv 1) xstr) xa0))) xa0))))))
  (xb1 (xret (xv 2))))) ?_
 have hs:=sizeLine_eq;rw[yZ];have w6:=hls.len;refine⟨bg0,λr hr0=>?_⟩;have s1:=ac hr0 (.lst []);have e1:upd H r (.lst []) r=some (.lst []):=aa
 left
 generalize upd H r (.lst [])=H1 at s1 e1 ⊢;refine⟨_,rfl,l,rfl,⟨_,SqL.of (s1 _ _ el)⟩,?_⟩;have h0:bW n ah []=[]:=by cases n <;> rfl
 refine bc (xs:=as.map V.ref) (λi σ H'=>∃x3,σ=[some (.ref l),some (vS ah),some (.ref r),x3]/\Same H H'/\H' r=some (.lst ((bW n ah (es.take i)).map vS))) ⟨none,rfl,s1,by rw[l62,h0];exact e1⟩ ?_ ?_ ?_
 ·rintro i σ H3 _ ⟨_,_,s3,_⟩;exact SqL.of (s3 _ _ el)
 ·rintro i x σ H3 hx ⟨x3,rfl,s3,e3⟩;obtain⟨a,en,rfl,hei,_,ha⟩:=hls.get hx;have hm:=l18 hei;cases n with
  |zero=>exact nomatch en
  |succ m=>
   obtain⟨hstep,z,hz⟩:=sX (ah:=ah) hei;obtain⟨dx,lp,le,e,⟨aps,elp,hps⟩,hle⟩:=gX (m+1) _ _ _ _ s3 ha;obtain⟨y7,hwl,hw⟩:=hok en hm;have hsub:∀r0∈(ah++cw (EnF.sign en)++[32]++raws false (EnF.parts en))::bW m (ah++[32,32]) (EnF.within en),r0.length<=100000/\Asc r0:=λr0 hr=>hro.2 r0 (by rw[hz,hstep];exact l54 _ (l31 _ hr));have hcnt:=hro.1;rw[hz,hstep,l6,l6,l9] at hcnt;have hrow:=(hsub _ l10).1;simp only[l6,l9,l32] at hrow;rw[hstep]
   left
   refine⟨_,rfl, .inl ⟨rfl,_,SqL.of e3⟩,?_⟩;refine lZ (bH (bH (a:=ah) (ev_v rfl) (bJ (v:=vS (cw (EnF.sign en))) (ev_v rfl) e T.q11.cls T.u24 rfl) nofun) (bU (b:=[32]) rfl) (by simp;omega)) (bJ (ev_v rfl) e T.q11.cls T.z19 rfl) ⟨lp,aps,_,rfl,elp,hps,y7.r2,by rw[hps.len];have:=y7.len;omega,by omega,λH4 s4=>⟨_,_,rfl,rfl,by rw[aw,aw,sizeLine_eq];simp;omega,?_⟩⟩;rw[cF];refine⟨r,_,_,rfl,rfl,s4 _ _ e3,by rw[l5,hs];omega,?_⟩;have s5:Same H (upd H4 r (.lst ((bW (m+1) ah (es.take i)).map vS++[vS (ah++cw (EnF.sign en)++[32]++raws false (EnF.parts en))]))):=aj hr0 (s3.trans s4);have e5:upd H4 r (.lst ((bW (m+1) ah (es.take i)).map vS++[vS (ah++cw (EnF.sign en)++[32]++raws false (EnF.parts en))])) r=some (.lst ((bW (m+1) ah (es.take i)).map vS++[vS (ah++cw (EnF.sign en)++[32]++raws false (EnF.parts en))])):=aa
   try dsimp only[tAsg.K0,tDrop.K0,Ends.to_nx,Ends.to_rt]
   generalize upd H4 r (.lst ((bW (m+1) ah (es.take i)).map vS++[vS (ah++cw (EnF.sign en)++[32]++raws false (EnF.parts en))]))=H5 at s5 e5 ⊢;obtain⟨dx',lp',le',e',_,hle'⟩:=gX (m+1) _ _ _ _ s5 ha;refine⟨_,rfl, .inl ⟨rfl,_,SqL.of e5⟩,?_⟩;have hf:Ev (tFld K (tVar 3) "entries") [some (V.ref l),some (vS ah),some (V.ref r),some (V.ref a)] H5 (.ref le'):=bJ (ev_v rfl) e' T.q11.cls T.q19 rfl;have hcat:Ev (tOp R_op_add_str (tVar 1) (tC (.str "  "))) [some (V.ref l),some (vS ah),some (V.ref r),some (V.ref a)] H5 (vS (ah++[32,32])):=bH (ev_v rfl) (bU (b:=[32,32]) rfl) (by show _+2<=_;omega);refine vU hf hcat (hI _ _ _ _ ⟨le',_,_,rfl,hle',hwl,hw,⟨by omega,λr0 hr=>hsub r0 (l15 _ hr)⟩,?_,λr2 H6 s6 hr2 e6=>?_⟩)
   ·rw[l6];show _+2+_<=_;omega
   refine⟨r,r2,_,_,rfl,rfl,s6 _ _ e5,e6,by rw[l6,l5,l5,hs];show _+1+_<=_;omega,_,rfl,aj hr0 (s5.trans s6),?_⟩;rw[aa,l17,l20,l28];rfl
 ·rintro σ H3 ⟨x3,rfl,s3,e3⟩;rw[l5,w6,l38] at e3;exact⟨_,rfl,q r H3 s3 hr0 e3⟩
end
open PySem L2 Lm Lw PySem.Builtin.Int
def Tp (t:Addr)(u:Int)(H:Hp):Prop:=∃m:Int,H t=some (.lst [.int m])/\0<=m/\m<=u
def Tp.le {t:Addr}{u v:Int}{H:Hp}(h:Tp t u H)(k:u<=v):Tp t v H:=let ⟨m,a,b,d⟩:=h;⟨m,a,b,l67 d k⟩
def Tp.same {t:Addr}{u:Int}{H H':Hp}(h:Tp t u H)(s:Same H H'):Tp t u H':=let ⟨m,a,b⟩:=h;⟨m,s _ _ a,b⟩
def Tp.ne {t:Addr}{u:Int}{H:Hp}(h:Tp t u H):H t≠none:=by obtain⟨m,a,_⟩:=h;rw[a];exact λz=>nomatch z
structure Scr (K:Frag)(t:Addr)(ns:List Int)(a:Addr)(H:Hp):Prop where
 sq:∀H',KeepX t H H'->SqL K H' a (ns.map V.int)
 bits:∀n∈ns,intBits n<=1048576
def Scr.keep {K:Frag}{t a:Addr}{ns:List Int}{H H':Hp}(h:Scr K t ns a H)(k:KeepX t H H'):Scr K t ns a H':=⟨λH'' k'=>h.sq _ (k.trans k'),h.bits⟩
def ae {t:Addr}{H H':Hp}(s:Same H H'):KeepX t H H':=λ_ _ _ h=>s _ _ h
def ba {A U:TS}{D:Ends}{σ:St}{H:Hp}(h:∀V:TS,(∀D σ H,U D σ H->V D σ H)->tSeq A V D σ H):tSeq A U D σ H:=h U λ_ _ _ x=>x
def gen7 {te:TE}{y0 y1 y2 y3 y4 y5 y6:Str}{A0 A1 A2 A3 A4 A5 A6 U:TS}{D:Ends}{σ:St}{H:Hp}(h:∀B0 B1 B2 B3 B4 B5 B6 V:TS,(∀D σ H,A0 D σ H->B0 D σ H)->(∀D σ H,A1 D σ H->B1 D σ H)->(∀D σ H,A2 D σ H->B2 D σ H)->(∀D σ H,A3 D σ H->B3 D σ H)->(∀D σ H,A4 D σ H->B4 D σ H)->(∀D σ H,A5 D σ H->B5 D σ H)->(∀D σ H,A6 D σ H->B6 D σ H)->(∀D σ H,U D σ H->V D σ H)->(tSeq (tIfS (tTest (tOp rEq te (tC (.str y0)))) B0 aY) (tSeq (tIfS (tTest (tOp rEq te (tC (.str y1)))) B1 aY) (tSeq (tIfS (tTest (tOp rEq te (tC (.str y2)))) B2 aY) (tSeq (tIfS (tTest (tOp rEq te (tC (.str y3)))) B3 aY) (tSeq (tIfS (tTest (tOp rEq te (tC (.str y4)))) B4 aY) (tSeq (tIfS (tTest (tOp rEq te (tC (.str y5)))) B5 aY) (tSeq (tIfS (tTest (tOp rEq te (tC (.str y6)))) B6 aY) (V)))))))) D σ H):(tSeq (tIfS (tTest (tOp rEq te (tC (.str y0)))) A0 aY) (tSeq (tIfS (tTest (tOp rEq te (tC (.str y1)))) A1 aY) (tSeq (tIfS (tTest (tOp rEq te (tC (.str y2)))) A2 aY) (tSeq (tIfS (tTest (tOp rEq te (tC (.str y3)))) A3 aY) (tSeq (tIfS (tTest (tOp rEq te (tC (.str y4)))) A4 aY) (tSeq (tIfS (tTest (tOp rEq te (tC (.str y5)))) A5 aY) (tSeq (tIfS (tTest (tOp rEq te (tC (.str y6)))) A6 aY) (U)))))))) D σ H:=h A0 A1 A2 A3 A4 A5 A6 U (λ_ _ _ x=>x) (λ_ _ _ x=>x) (λ_ _ _ x=>x) (λ_ _ _ x=>x) (λ_ _ _ x=>x) (λ_ _ _ x=>x) (λ_ _ _ x=>x) λ_ _ _ x=>x
structure TxD (mg:Str->Option Value):Prop where
 g10:mg "len"=none
 u11:mg "range"=none
 g16:mg "int"=none
section
abbrev sY:Stmt:=top 61
inductive spDraw (K:Frag)(vs:List V)(H:Hp)(Q:VK)(u3:XK):Prop
 |mk (a t:Addr)(ns:List Int)(j5 u:Int)(_:vs=[.ref a, .ref t, .int j5])(_:Scr K t ns a H)(_:Tp t u H)(_:u<=1000000000000)(_:0 < j5)(_:∀i H',0<=i->i < j5->KeepX t H H'->Tp t (u+1) H'->Q (.int i) H')
def vV (F:Fun K "_law_draw" "_law_draw" sY f fd)(T:TxD mg):FnOk P w K mg base CX0 1 f fd p8 (spDraw K):=by
 have sc:FnScope ["_law_script","_law_tape","_law_many","_law_cell_here","_law_number"] p8 (ab sY):=mkS;refine F.oks sc λ{cdv A _ s _ _}H Q hr h=>?_;obtain⟨a,t,ns,j5,u,rfl,hsc,⟨m,et,m0,m1⟩,hu1,hmany,q⟩:=h;have hu:(A.deeper (PyProof.Rows.envOfC "_law_draw" (ab sY) s.heap.objs.size f cdv)).units+64 < cLine:=by
  have:=hr.un;omega
 refine ak (xbc (xasg (xop bp (xix aO (xv 1) xint (λ_ _=>rfl)) xint) (ve (xv 1) xint iU))
  (xbc (xst (i:=3) sc.nd xint)
  (xbc (xif (aA (xU hu) (xv 0) (xlst xa0) (ai _)) (xb1 (xst (i:=3) sc.nd (xix aO (xv 0) (xop jF (xix aO (xv 1) xint (λ_ _=>rfl)) (xcB aF T.g10 PySem.boot_len (xac (xv 0) xa0))) (λ_ _=>rfl)))) xb0)
  (xbc (xst (i:=4) sc.nd (xop bp (xop bp (xv 3) (xop mB xint (xix aO (xv 1) xint (λ_ _=>rfl)))) xint))
  (xb1 (xret (xop jF (xop uT (xop jF (xop mB (xop jF (xop vw (xv 4) (xv 4)) xint) xint) xint) xint) (xv 2)))))))) ?_
 rw[zc];refine⟨_,rfl,t,_,0, .int m,rfl,rfl,SqL.of et,ay (j:=0) rfl,_,_,rfl,rfl,_,rfl,t,_,0,0,rfl,rfl,et,rfl,?_⟩;have et1:upd H t (.lst [.int (m+1)]) t=some (.lst [.int (m+1)]):=aa;have k1:KeepX t H (upd H t (.lst [.int (m+1)])):=keep_upd
 try dsimp only[tAsg.K0,tDrop.K0,gSub.K2,Ends.to_nx,al]
 show tSeq _ _ _ _ (upd H t (.lst [.int (m+1)]));generalize upd H t (.lst [.int (m+1)])=H1 at et1 k1 ⊢;refine iN ?_;dsimp only[sA,sB];refine cq (λσ' H'=>∃x:Int,σ'=[some (V.ref a),some (V.ref t),some (V.int j5),some (.int x),none]/\intBits x<=1048576/\Same H1 H') (λN hN=>?_) ?_
 ·refine⟨_,rfl,bg0,λo ho=>?_⟩;have s2:=ac ho (.lst []);have e2:upd H1 o (.lst []) o=some (.lst []):=aa;generalize upd H1 o (.lst [])=H2 at s2 e2 ⊢;have q2:SqL K H2 a (ns.map V.int):=hsc.sq H2 (k1.trans (ae s2));refine⟨a,o,_,rfl,rfl,q2,SqL.of e2,_,rfl,?_⟩
  try dsimp only[tAsg.K0,tDrop.K0,Ends.to_nx,Ends.to_rt]
  cases hns:ns with
  |nil=>exact iteF (hN _ _ ⟨0,rfl,by decide,s2⟩)
  |cons n0 nr=>
   rw[<- hns];have hne:(!(ns.map V.int).isEmpty)=true:=by rw[hns];rfl
   rw[if_pos rfl,hne];refine iteT ?_;have hpos:(0:Int) < (ns.map V.int).length:=by rw[hns];simp
   have h1:=Int.emod_nonneg (m+1) (show ((ns.map V.int).length:Int)≠0 by omega);have h2:=Int.emod_lt_of_pos (m+1) hpos;obtain⟨j,hj⟩:∃j:Nat,(m+1) % ((ns.map V.int).length:Int)=(j:Int):=⟨_,(l40 h1).symm⟩;have hjl:j < ns.length:=by rw[l5] at h2 hj;omega
   refine⟨_,rfl,_,rfl,t,_,0, .int (m+1),rfl,rfl,SqL.of (s2 _ _ et1),ay (j:=0) rfl,_,rfl,a,_,rfl, .inl q2,_,_,rfl,rfl,hpos,a,_,_, .int ns[j],rfl,rfl,q2,?_,hN _ _ ⟨_,rfl,hsc.bits _ (l59 hjl),s2⟩⟩;rw[hj];exact ay (by rw[List.getElem?_map,List.getElem?_eq_getElem hjl];rfl)
 rintro σ' H2 ⟨x,rfl,hx,s2⟩;have et2:=s2 _ _ et1;refine⟨_,rfl,_,rfl,t,_,0, .int (m+1),rfl,rfl,SqL.of et2,ay (j:=0) rfl,_,_,rfl,rfl, .inl ⟨by decide,by decide⟩,_,_,rfl,rfl,_,_,rfl,rfl,?_⟩
 left
 have hn:intBits (x+7919 * (m+1)+13)<=1048580:=by
  have h2:=intBits_add_le (intBits_add_le hx (intBits_le_64 (k:=7919 * (m+1)) nofun nofun)) (intBits_le_64 (k:=13) nofun nofun);exact l13 h2 ∅
 refine⟨_,rfl,_,rfl,_,_,rfl,rfl,IntMulOk.of_le hn hn ∅,_,_,rfl,rfl,show (0:Int) < 1000000007 by decide,_,_,rfl,rfl, .inr ⟨by decide,by decide⟩,_,_,rfl,rfl,show (0:Int) < 998244353 by decide,_,_,rfl,rfl,⟨by decide,by decide⟩,_,rfl,_,_,rfl,rfl,hmany,?_⟩;exact q _ _ (Int.emod_nonneg _ nofun) (Int.emod_lt_of_pos _ hmany) (k1.trans (ae s2)) ⟨m+1,et2,by omega,by omega⟩
end
def mj:List Nat:=[32,33,34,35,36,38,39,40,41,42,43,44,45,46,47,48,49,50,51,52,53,54,55,56,57,58,59,60,61,62,63,64,65,66,67,68,69,70,71,72,73,74,75,76,77,78,79,80,81,82,83,84,85,86,87,88,89,90,91,92,93,94,95,96,97,98,99,100,101,102,103,104,105,106,107,108,109,110,111,112,113,114,115,116,117,118,119,120,121,122,123,124,125,126]
def yl:List Nat:=[97,98,32,42,96,91,93,92,124,45,43,61,62,126,58,94,46]
section
def sZ {z:List Nat}{i:Int}{H:Hp}{Q:VK}(hl:z.length<=1000000)(h0:0<=i)(h1:i < z.length)(h:∀c∈z,Q (vS [c]) H):rIxS (vS z) (.int i) H Q:=by
 obtain⟨j,rfl⟩:∃j:Nat,i=(j:Int):=⟨i.toNat,(l40 h0).symm⟩;have hj:j < z.length:=by omega
 exact⟨_,_,z[j],rfl,rfl,bigS hl,ay (by rw[gq];exact List.getElem?_eq_getElem hj),h _ (l59 hj)⟩
abbrev vW:Stmt:=top 62
inductive spText (K:Frag)(vs:List V)(H:Hp)(Q:VK)(u3:XK):Prop
 |mk (a t:Addr)(ns:List Int)(size u:Int)(code:Bool)(_:vs=[.ref a, .ref t, .int size, .bl code])(_:Scr K t ns a H)(_:Tp t u H)(_:u<=900000000000)(_:0<=size)(_:size<=100)(_:∀l H',l.length=size.toNat->Asc l->KeepX t H H'->Tp t (u+3 * size) H'->Q (vS l) H')
def vX (F:Fun K "_law_text" "_law_text" vW f fd)(T:TxD mg)(Da:Def P w K mg base 1 "_law_draw" p8 (spDraw K)):FnOk P w K mg base CX0 2 f fd p25 (spText K):=by
 have sc:FnScope ["_law_script","_law_tape","_law_size","_law_is_code","_law_some_here","_law_text_here","_law_k","_law_sign"] p25 (ab vW):=mkS;refine F.oks sc λH Q hr h=>?_;obtain⟨a,t,ns,size,u,code,rfl,hsc,htp,hu1,z0,z1,q⟩:=h;refine ak (xbc (xst (i:=4) sc.nd xstr)
  (xbc (xst (i:=4) sc.nd (xop af (xv 4) xstr))
  (xbc (xst (i:=5) sc.nd xstr)
  (xbc (xfor PassesOwn.never rfl (xir1 rfl T.u11 (xac (xv 2) xa0)) (xgm (i:=6) sc.nd)
  (xbc (xst (i:=7) sc.nd (xix f9 (xv 4) (xcd Da hr (xac (xv 0) (xac (xv 1) (xac xint xa0)))) (λ_ _=>rfl)))
  (xbc (xif (aA aI (xcd Da hr (xac (xv 0) (xac (xv 1) (xac xint xa0)))) xint (ai _)) (xb1 (xst (i:=7) sc.nd (xix f9 xstr (xcd Da hr (xac (xv 0) (xac (xv 1) (xac xint xa0)))) (λ_ _=>rfl)))) xb0)
  (xbc (xif (xor (xand (aA aI (xv 7) xstr (ai _)) (ie (aA aI (xsl bR (xv 5) (xo1 (xun fZ xint)) xo0) xstr (ai _)))).xt (xor1 (xand (aA aI (xv 7) xstr (ai _)) (ie (bq (xv 3)))).xt)).xt (xb1 (xst (i:=7) sc.nd xstr)) xb0)
  (xb1 (xst (i:=5) sc.nd (xop af (xv 5) (xv 7))))))))
  (xb1 (xret (xv 5))))))) ?_
 have hs:=sizeLine_eq;rw[xE];obtain⟨sz,rfl⟩:∃sz:Nat,size=(sz:Int):=⟨size.toNat,(l40 z0).symm⟩;refine iN ?_;dsimp only[sA,sB];refine⟨_,rfl,_,_,rfl,rfl,by rw[hs];decide,?_⟩
 left
 rw[show Str.ofString " !\"#$&'()*+,-./0123456789:;<=>?@ABCDEFGHIJKLMNOPQRSTUVWXYZ[\\]^_`"++Str.ofString "abcdefghijklmnopqrstuvwxyz{|}~"=S mj by decide];refine iN ?_;dsimp only[sA,sB];refine⟨_,rfl,_,rfl,by omega,by omega,?_⟩;rw[l37];refine bO (n:=sz) (λi σ H'=>∃l x6 x7,σ=[some (.ref a),some (.ref t),some (.int (sz:Nat)),some (.bl code),some (vS mj),some (vS l),x6,x7]/\l.length=i/\Asc l/\KeepX t H H'/\Tp t (u+3 * i) H') ⟨[],none,none,rfl,rfl,(λ_ z=>nomatch z),KeepX.refl,htp.le nofun⟩ ?_ ?_
 ·rintro i σ H3 hi ⟨l,x6,x7,rfl,hl,hasc,k3,tp3⟩;have j8:∀c∈mj,c < 128:=by decide
  have hfew:∀c∈yl,c < 128:=by decide
  refine⟨_,rfl,_,rfl,_,rfl,a,t,ns,94,_,rfl,hsc.keep k3,tp3,by omega,by decide,λj H4 j0 j1 k4 tp4=>?_⟩;refine sZ (z:=mj) ∅ j0 (by show j < 94;exact j1) λc hc=>?_;have hc:=j8 c hc
  left
  refine cq (λσ' H'=>∃c:Nat,σ'=[some (.ref a),some (.ref t),some (.int (sz:Nat)),some (.bl code),some (vS mj),some (vS l),some (.int (0+(i:Int))),some (vS [c])]/\c < 128/\KeepX t H H'/\Tp t (u+3 * (i+1:Nat)) H') (λN hN=>?_) ?_
  ·refine⟨_,rfl,_,rfl,a,t,ns,2,_,rfl,hsc.keep (k3.trans k4),tp4,by omega,by decide,λd H5 d0 d1 k5 tp5=>⟨rfl,_,rfl,?_⟩⟩;refine ite2 (λ_=>?_) λ_=>hN _ _ ⟨c,rfl,hc,(k3.trans k4).trans k5,tp5.le nofun⟩;refine⟨_,rfl,_,rfl,a,t,ns,17,_,rfl,hsc.keep ((k3.trans k4).trans k5),tp5,by omega,by decide,λd H6 d0 d1 k6 tp6=>?_⟩;refine sZ (z:=yl) ∅ d0 (by show d < 17;exact d1) λc hc=>?_;exact hN _ _ ⟨c,rfl,hfew c hc,((k3.trans k4).trans k5).trans k6,tp6.le nofun⟩
  rintro σ' H4 ⟨c,rfl,hc,k4,tp4⟩;refine cq (λσ' H'=>∃c:Nat,σ'=[some (.ref a),some (.ref t),some (.int (sz:Nat)),some (.bl code),some (vS mj),some (vS l),some (.int (0+(i:Int))),some (vS [c])]/\c < 128/\Same H4 H') (λN hN=>?_) ?_
  ·have hlast:∀H',Ev (tSl rSlS (tVar 5) (tPart (tUn (rU λi => .int (-i)) (tC (.int 1)))) iT) [some (.ref a),some (.ref t),some (.int (sz:Nat)),some (.bl code),some (vS mj),some (vS l),some (.int (0+(i:Int))),some (vS [c])] H' (vS (cutL l (some (-1)) none)):=λH'=>pL nofun (ev_v rfl) (pK (pI ev_c rfl)) pJ rfl;refine s_if _ (t_or _ _ (km _ _ (t_eq [c] [32] rfl (ev_v rfl)) λ_ H6 s6=>t_eq _ [32] rfl (hlast H6)) λ_ H6 s6=>km _ _ (t_eq [c] [96] rfl (ev_v rfl)) λ_ H7 s7=>t_bv (ev_v rfl)) (λH6 s6 _=>?_) λH6 s6 _=>hN _ _ ⟨c,rfl,hc,s6⟩;exact hN _ _ ⟨120,rfl,by decide,s6⟩
  rintro σ' H5 ⟨c,rfl,hc,s5⟩;exact bH (ev_v (v:=vS l) rfl) (ev_v (v:=vS [c]) rfl) (by show _+1<=_;omega) _ ⟨l++[c],_,_,rfl,by rw[l6,hl];rfl,av hasc (λx hx=>by rw[l14.mp hx];exact hc),k4.trans (ae s5),tp4.same s5⟩
 ·rintro σ H3 ⟨l,x6,x7,rfl,hl,hasc,k3,tp3⟩;exact⟨_,rfl,q l H3 (by rw[hl,l37]) hasc k3 tp3⟩
end
def NewQ.keep {H H' H4:Hp}{W:List Addr}{R:Hp->Prop}{t:Addr}(h:NewQ H W H' R)(ht:H t≠none)(k:KeepX t H' H4):NewQ H W H4 R:=
 let ⟨G,a,b,d,e⟩:=h;⟨G,λx o z=>k x o (nq (d t ht) z) (a x o z),b,d,e⟩
def cz {H H1 H2:Hp}{t:Addr}(ht:H t≠none)(k:KeepX t H1 H2):Same (dif H H1) (dif H H2):=λb o e=>by
 obtain⟨n,e⟩:=bv e;rw[am n];exact k b o (λz=>ht (z▸n)) e
def bw {H H1 H2:Hp}{t:Addr}(ht:H1 t≠none)(k:KeepX t H H1):Same (dif H1 H2) (dif H H2):=λb o e=>by
 obtain⟨n,e⟩:=bv e;have hb:b≠t:=λz=>ht (z▸n);rw[am (ax k hb n)];exact e
def qq {v:V}{d:PyData}:Mo λG=>Dn G v d:=λ_ _ s h=>h.same s
def cv {vs:List V}{ds:List PyData}:Mo λG=>DnAll G vs ds:=λ_ _ s h=>h.same s
def fW {G:Hp}{vs:List V}{ds:List PyData}{v:V}{d:PyData}(h:DnAll G vs ds)(k:Dn G v d):DnAll G (vs++[v]) (ds++[d]):=h.app (.cons k .nil)
def ml {α:Type}{n:Nat}{k:Nat}{fr:List Nat}{g:TG}{tt:TT}{te:TE}{σ:St}{H0:Hp}{Q:Addr->Hp->Prop}(t:Addr)(u c:Int)(f:α->PyData)(ok:α->Prop)(hl:n<=1000)(h0:Tp t u H0)
  (ht:∀i:Nat,i < n->∀H',KeepX t H0 H'->Tp t (u+c * i) H'->∀(C:V->Hp->Prop)(N:Hp->Prop),(∀v x H4,KeepX t H' H4->Tp t (u+c * i+c) H4->ok x->Dn (dif H' H4) v (f x)->C v H4) →
   g (.int (0+(i:Nat))) (nfS k fr σ) H' λσ2 H2=>nfLe k fr σ σ2/\tt σ2 H2 λb H3=>if b=true then te σ2 H3 C else N H3)
  (hq:∀D H' ys (xs:List α),H0 D=none->KeepX t H0 H'->Tp t (u+c * n) H'->H' D=some (.lst ys)->xs.length=n->(∀x∈xs,ok x)->NewQ H0 [D] H' (λG=>DnAll G ys (xs.map f))->Q D H'):rLC k fr g tt te σ (Itr 0 n) H0 Q:=by
 intro D hD;have htn:=h0.ne;have hDt:D≠t:=λe=>by rw[e] at hD;exact htn hD
 refine ⟨λi m acc H=>m=n - i/\i<=n/\H D=some (.lst acc)/\KeepX t H0 H/\Tp t (u+c * i) H/\∃xs:List α,xs.length=i/\(∀x∈xs,ok x)/\NewQ H0 [D] H (λG=>DnAll G acc (xs.map f)),
  ⟨n,by simp,l16 _,aa,ae (ac hD _),by have:=h0.same (ac hD (.lst []));simpa using this,[],rfl,(λ_ z=>nomatch z),NewQ.triv .nil⟩,?_⟩
 rintro i m acc H ⟨rfl,hi,hDa,sm,tp,xs,hxl,hxo,hn⟩;refine⟨hDa,?_⟩;have hal:acc.length=i:=by
  obtain⟨G,_,_,_,e⟩:=hn;rw[e.len,l5,hxl]
 by_cases hlt:i < n
 ·refine .inr ⟨hlt,?_⟩;rintro x H' ⟨rfl,rfl⟩;refine ht i hlt _ sm tp _ _ λv x H4 s4 tp4 ox dv=>?_;refine⟨s4 _ _ hDt hDa,by rw[sizeLine_eq];omega,n - (i+1),by omega,rfl,hlt,aa,?_,?_,xs++[x],by rw[l6,hxl];rfl,λy hy=>?_,?_⟩
  ·intro b o nb hb;rw[ad (nq hD hb)];exact(sm.trans s4) b o nb hb
  ·obtain⟨m',e,m0,m1⟩:=tp4;refine⟨m',(ad (Ne.symm hDt)).trans e,m0,l67 m1 ?_⟩;have:((i+1:Nat):Int)=(i:Nat)+1:=by omega
   rw[this,Int.mul_add,Int.mul_one];omega
  ·rcases l24.mp hy with z |z
   ·exact hxo y z
   ·rw[l14.mp z];exact ox
  ·rw[l17];refine NewQ.upd ?_ l10;refine NewQ.join (NewQ.keep hn htn s4) ?_ cv qq λG h1 h2=>fW h1 h2;refine⟨dif H' H4,dif_same,λb hb=>bg (by rw[l14.mp hb,hDa];exact λz=>nomatch z),λb hb=>?_,dv⟩;by_cases hbt:b=t
   ·rw[hbt];exact bg tp.ne
   ·refine bg λz=>?_;cases e:H0 b with
    |none=>exact hb e
    |some o=>rw[sm b o hbt e] at z;cases z
 ·have e:i=n:=by omega
  subst e;exact .inl ⟨l7 _,hq D H acc xs hD sm tp hDa hxl hxo hn⟩
section
abbrev qr:Stmt:=top 63
def td:List Nat:=[97,98,99,100,101,102,103,104,105,106,107,108,109,110,111,112,113,114,115,116,117,118,119,120,121,122,48,49,50,51,52,53,54,55,56,57]
def NmOk (l:List Nat):Prop:=Asc l/\l.length<=12
inductive spNames (K:Frag)(vs:List V)(H:Hp)(Q:VK)(u3:XK):Prop
 |mk (a t:Addr)(ns:List Int)(u:Int)(_:vs=[.ref a, .ref t])(_:Scr K t ns a H)(_:Tp t u H)(_:u<=900000000000)(_:∀r (ls:List (List Nat)) H',KeepX t H H'->H r=none->H' r=some (.lst (ls.map vS))->ls.length=5->(∀l∈ls,NmOk l)->Tp t (u+5) H'->Q (.ref r) H')
def ym {Pr:List Nat->Prop}{ys:List V}(h:∀y∈ys,∃l,y=vS l/\Pr l):∃ls:List (List Nat),ys=ls.map vS/\∀l∈ls,Pr l:=by
 induction ys with
 |nil=>exact⟨[],rfl,λ_ z=>nomatch z⟩
 |cons y ys ih=>
  obtain⟨l,rfl,hl⟩:=h y l10;obtain⟨ls,rfl,hls⟩:=ih λz hz=>h z (l15 _ hz);exact ⟨l::ls,rfl,λx hx=>by
   rcases l8.mp hx with rfl |z
   ·exact hl
   ·exact hls x z⟩
def tq (F:Fun K "_law_names" "_law_names" qr f fd)(T:TxD mg)(Da:Def P w K mg base 1 "_law_draw" p8 (spDraw K)):FnOk P w K mg base CX0 2 f fd p16 (spNames K):=by
 have sc:FnScope ["_law_script","_law_tape","_law_some_here","_law_first","_law_size","_law_frame","_law_at","_law_more"] p16 (ab qr):=mkS;refine F.oks sc λ{_ _ _ s _ _}H Q hr h=>?_;obtain⟨a,t,ns,u,rfl,hsc,htp,hu1,q⟩:=h;refine ak (xbc (xset (i:=2) sc.nd rfl (Or.inr rfl) xstr)
  (xbc (xset (i:=3) sc.nd rfl (Or.inr rfl) (xcd Da hr (xac (xv 0) (xac (xv 1) (xac xint xa0)))))
  (xbc (xst (i:=4) sc.nd (xcd Da hr (xac (xv 0) (xac (xv 1) (xac xint xa0)))))
  (xbc (xset (i:=5) sc.nd rfl (Or.inr rfl) (xm plainAttrs_str slot_str_join type_str_join eY xstr (xac (xlc (cl:=[("_law_some_here",s.heap.objs.size+1),("_law_first",s.heap.objs.size+2)]) (own:=["_law_k"]) (fr:=[2,3]) (N':=["_law_k","_law_some_here","_law_first"]) rfl (eZ (xs:=["_law_some_here","_law_first"]) ⟨rfl,⟨rfl,trivial⟩⟩ ⟨rfl,rfl, .inl rfl, .inl rfl,⟨rfl,rfl, .inl rfl, .inl rfl,trivial⟩⟩ ∅) ∅ ∅ (by with_unfolding_all rfl)
  (xir1 rfl T.u11 (xac (xv 4) xa0))
  (λ_ _ _ _=>xgm (i:=0) (show (["_law_k","_law_some_here","_law_first"]:List Str).Nodup by decide)) (λ_ _ _ _=>xq0) (λ_ _ _ _=>(xix f9 (xv 1) (xop jF (xop bp (xv 2) (xop mB xint (xv 0))) xint) (λ_ _=>rfl)))) xa0)))
  (xbc (xif (xand (aA jG (xv 4) xint (ai _)) (ie (aA aI (xcd Da hr (xac (xv 0) (xac (xv 1) (xac xint xa0)))) xint (ai _)))).xt (xb1 (xret (xlc (cl:=[("_law_frame",s.heap.objs.size+3)]) (own:=["_law_k"]) (fr:=[5]) (N':=["_law_k","_law_frame"]) rfl (eZ (xs:=["_law_frame"]) ⟨rfl,trivial⟩ ⟨rfl,rfl, .inl rfl, .inl rfl,trivial⟩ ∅) ∅ ∅ (by with_unfolding_all rfl)
  (xir1 rfl T.u11 (xac xint xa0))
  (λ_ _ _ _=>xgm (i:=0) (show (["_law_k","_law_frame"]:List Str).Nodup by decide)) (λ_ _ _ _=>xq0) (λ_ _ _ _=>(xsl bR (xv 1) xo0 (xo1 (xop bp (xv 0) xint))))))) xb0)
  (xbc (xset (i:=6) sc.nd rfl (Or.inr rfl) (xcd Da hr (xac (xv 0) (xac (xv 1) (xac (xop bp (xv 4) xint) xa0)))))
  (xbc (xset (i:=7) sc.nd rfl (Or.inr rfl) (xcd Da hr (xac (xv 0) (xac (xv 1) (xac xint xa0)))))
  (xb1 (xret (xlc (cl:=[("_law_some_here",s.heap.objs.size+1),("_law_more",s.heap.objs.size+5),("_law_frame",s.heap.objs.size+3),("_law_at",s.heap.objs.size+4)]) (own:=["_law_k"]) (fr:=[5,2,6,7]) (N':=["_law_k","_law_frame","_law_some_here","_law_at","_law_more"]) rfl (eZ (xs:=["_law_frame","_law_some_here","_law_at","_law_more"]) ⟨rfl,⟨rfl,⟨rfl,⟨rfl,trivial⟩⟩⟩⟩ ⟨rfl,rfl, .inl rfl, .inl rfl,⟨rfl,rfl, .inl rfl, .inl rfl,⟨rfl,rfl, .inl rfl, .inl rfl,⟨rfl,rfl, .inl rfl, .inl rfl,trivial⟩⟩⟩⟩ ∅) ∅ ∅ (by with_unfolding_all rfl)
  (xir1 rfl T.u11 (xac xint xa0))
  (λ_ _ _ _=>xgm (i:=0) (show (["_law_k","_law_frame","_law_some_here","_law_at","_law_more"]:List Str).Nodup by decide)) (λ_ _ _ _=>xq0) (λ_ _ _ _=>(xop af (xop af (xsl bR (xv 1) xo0 (xo1 (xv 3))) (xix f9 (xv 2) (xop bp (xv 4) (xv 0)) (λ_ _=>rfl))) (xsl bR (xv 1) (xo1 (xv 3)) xo0))))))))))))) ?_
 have hs:=sizeLine_eq;have j8:∀c∈td,c < 128:=by decide
 rw[zi];refine iN ?_;dsimp only[sA,sB];refine⟨_,rfl,_,rfl,a,t,ns,36,u,rfl,hsc,htp,by omega,by decide,λfi H1 f0 f1 k1 tp1=>?_⟩
 left
 refine⟨_,rfl,_,rfl,a,t,ns,12,_,rfl,hsc.keep k1,tp1,by omega,by decide,λsize H2 z0 z1 k2 tp2=>?_⟩
 left
 obtain⟨sz,rfl⟩:∃sz:Nat,size=(sz:Int):=⟨size.toNat,(l40 z0).symm⟩;have k12:=k1.trans k2;refine⟨rfl,_,rfl,_,rfl,by omega,by omega,?_⟩;rw[l37];refine gG 0 (λv=>∃l,v=vS l/\Asc l/\l.length=1) (by rw[hs];omega) ?_ ?_
 ·intro i hi H3 s3 C N hC;refine⟨(nfLe.refl _ _ _).set ∅ _,iteT (B:=N H3) ⟨_,rfl,_,rfl,_,rfl,_,_,rfl,rfl, .inl ⟨by decide,by decide⟩,_,_,rfl,rfl,_,_,rfl,rfl,show (0:Int) < 36 by decide,?_⟩⟩;exact sZ (z:=td) ∅ (Int.emod_nonneg _ ∅) (Int.emod_lt_of_pos _ ∅) λc hc=>hC _ H3 (Same.refl _) ⟨[c],rfl,(λx hx=>by rw[l14.mp hx];exact j8 c hc),rfl⟩
 intro D H3 ys hD s3 e3 hyl hys;obtain⟨ls,rfl,hls⟩:=ym hys;rw[l5] at hyl;have hfl:∀ls:List (List Nat),(∀l∈ls,Asc l/\l.length=1)->ls.flatten.length=ls.length/\Asc ls.flatten:=λls h=>by
  induction ls with
  |nil=>exact⟨rfl,λ_ z=>nomatch z⟩
  |cons l ls ih=>
   obtain⟨i1,i2⟩:=ih λx hx=>h x (l15 _ hx);obtain⟨h1,h2⟩:=h l l10;rw[l86];exact⟨by rw[l6,l9];omega,av h1 i2⟩
 obtain⟨fl1,fl2⟩:=hfl ls hls;refine⟨S [],D,ls.map S,rfl,rfl,SqL.of (e3.trans (by (conv=>rhs;rw[l30]);rfl)),fU _ nofun,?_⟩;rw[fg,cV];generalize ls.flatten=fm at fl1 fl2 ⊢;rw[hyl] at fl1;clear hls e3 hys hfl
 left
 have k3:=k12.trans (ae s3);have tp3:=tp2.same s3;have fin:∀{r:Addr} {H4 H5:Hp} {ys:List V},KeepX t H H4->Tp t (u+5) H4->H4 r=none->Same H4 H5->H5 r=some (.lst ys)->ys.length=5->(∀y∈ys,∃l,y=vS l/\NmOk l)->Q (.ref r) H5:=λ{r H4 H5 ys} k4 tp4 hr4 s5 e5 hl5 h5=>by
  obtain⟨ls,rfl,hls⟩:=ym h5;rw[l5] at hl5;refine q r ls H5 (k4.trans (ae s5)) (ax k4 (λz=>?_) hr4) e5 hl5 hls (tp4.same s5);rw[z] at hr4;exact tp4.ne hr4
 have hcut:∀lo hi,Asc (cutL fm lo hi)/\(cutL fm lo hi).length<=fm.length:=λlo hi=>by
  unfold cutL;refine⟨λx hx=>fl2 x (List.mem_of_mem_drop (List.mem_of_mem_take hx)),?_⟩;rw[l34,l29];omega
 refine cq (λσ' H'=>σ'=[some (V.ref a),some (V.ref t),some (vS td),some (V.int fi),some (V.int sz),some (vS fm),none,none]/\KeepX t H H'/\Tp t (u+3) H') (λN hN=>?_) ?_
 ·refine⟨_,rfl,_,_,rfl,rfl,_,rfl,?_⟩;refine ite2 (λc=>?_) (λ_=>iteF (hN _ _ ⟨rfl,k3,tp3.le nofun⟩));have c:=of_decide_eq_true c;refine⟨_,rfl,_,rfl,a,t,ns,2,_,rfl,hsc.keep k3,tp3,by omega,by decide,λd H4 d0 d1 k4 tp4=>⟨rfl,_,rfl,?_⟩⟩;have k34:=k3.trans k4;refine ite2 (λ_=>?_) (λ_=>hN _ _ ⟨rfl,k34,tp4.le nofun⟩);refine⟨5,rfl,by decide,by decide,?_⟩;refine gG 0 (λv=>∃l,v=vS l/\NmOk l) (by rw[hs];decide) ?_ λD2 H5 ys hD2 s5 e5 hyl5 hys5=>fin k34 (tp4.le nofun) hD2 s5 e5 hyl5 hys5;intro i hi H5 s5 C N' hC;obtain⟨c1,c2⟩:=hcut none (some (0+(i:Int)+1));refine⟨(nfLe.refl _ _ _).set ∅ _,iteT (B:=N' H5) ?_⟩;exact pL (l:=fm) nofun (ev_v rfl) pJ (pK (λR r=>⟨_,rfl,_,_,rfl,rfl,r⟩)) rfl _ (hC _ H5 (Same.refl _) ⟨_,rfl,c1,by omega⟩)
 rintro σ' H4 ⟨rfl,k4,tp4⟩;refine⟨_,rfl,_,rfl,_,rfl,_,_,rfl,rfl,a,t,ns,(sz:Int)+1,_,rfl,hsc.keep k4,tp4,by omega,by omega,λat0 H5 a0 a1 k5 tp5=>?_⟩
 left
 refine⟨_,rfl,_,rfl,a,t,ns,31,_,rfl,hsc.keep (k4.trans k5),tp5,by omega,by decide,λmo H6 m0 m1 k6 tp6=>?_⟩
 left
 refine⟨5,rfl,by decide,by decide,?_⟩;refine gG 0 (λv=>∃l,v=vS l/\NmOk l) (by rw[hs];decide) ?_ λD2 H7 ys hD2 s7 e7 hyl7 hys7=>fin ((k4.trans k5).trans k6) (tp6.le nofun) hD2 s7 e7 hyl7 hys7;intro i hi H7 s7 C N' hC;obtain⟨c1,c2⟩:=hcut none (some at0);obtain⟨c3,c4⟩:=hcut (some at0) none;have c5:(cutL fm none (some at0)).length+(cutL fm (some at0) none).length<=fm.length:=by
  obtain⟨j,rfl⟩:∃j:Nat,at0=(j:Int):=⟨at0.toNat,(l40 a0).symm⟩;have hc:bT fm.length 0 (some (j:Int))=j:=by show (max 0 (min (if (j:Int) < 0 then (j:Int)+fm.length else j) fm.length)).toNat=j;rw[if_neg nofun];omega
  have hc2:bT fm.length fm.length (some (j:Int))=j:=hc;unfold cutL;rw[hc,hc2];show ((fm.drop 0).take (j - 0)).length+((fm.drop j).take (fm.length - j)).length<=_;rw[l34,l34,l29,l29];omega
 refine⟨(nfLe.refl _ _ _).set ∅ _,iteT (B:=N' H7) ?_⟩;refine pL (l:=fm) nofun (ev_v rfl) pJ (pK (ev_v rfl)) rfl _ ?_;refine⟨_,rfl,_,rfl,_,rfl,_,_,rfl,rfl,sZ (z:=td) ∅ nofun (by show _ < (36:Int);omega) λch hch=>⟨_,_,rfl,rfl,by rw[aw,aw,hs];show _+1<=_;omega,?_⟩⟩;rw[cF];refine pL (l:=fm) nofun (ev_v rfl) (pK (ev_v rfl)) pJ rfl _ ⟨_,_,rfl,rfl,by rw[aw,aw,hs,l6];show _+1+_<=_;omega,?_⟩;rw[cF];refine hC _ H7 (Same.refl _) ⟨_,rfl,av (av c1 λx hx=>by rw[l14.mp hx];exact j8 ch hch) c3,?_⟩;rw[l6,l6];show _+1+_<=12;omega
end
structure Nms (t nm:Addr)(ls:List (List Nat))(H:Hp):Prop where
 at_:H nm=some (.lst (ls.map vS))
 ne:nm≠t
 len:ls.length=5
 ok:∀l∈ls,NmOk l
def Nms.keep {t nm:Addr}{ls:List (List Nat)}{H H':Hp}(h:Nms t nm ls H)(k:KeepX t H H'):Nms t nm ls H':=⟨k _ _ h.ne h.at_,h.ne,h.len,h.ok⟩
def Nms.ix {K:Frag}{t nm:Addr}{ls:List (List Nat)}{H:Hp}{i:Int}{Q:VK}(h:Nms t nm ls H)(h0:0<=i)(h1:i < 5)(k:∀l,NmOk l->Q (vS l) H):rIxL K (.ref nm) (.int i) H Q:=by
 obtain⟨j,rfl⟩:∃j:Nat,i=(j:Int):=⟨i.toNat,(l40 h0).symm⟩;have hj:j < ls.length:=by have:=h.len;omega
 exact⟨nm,_,_,vS ls[j],rfl,rfl,SqL.of h.at_,ay (by rw[List.getElem?_map,List.getElem?_eq_getElem hj];rfl),k _ (h.ok _ (l59 hj))⟩
def S1 (p:P1):Prop:=Ok1 p/\sz1 p<=50
def SP (j4:Bool)(p:PC):Prop:=(j4=true->∃q,p = .one q/\sz1 q<=50)/\OkC p/\szC p<=160
def SP.one {j4:Bool}{q:P1}(h:S1 q):SP j4 (.one q):=⟨λ_=>⟨q,rfl,h.2⟩,h.1,l13 h.2 ∅⟩
structure Drw (K:Frag)(a t nm:Addr)(ns:List Int)(ls:List (List Nat))(u:Int)(H:Hp):Prop where
 sc:Scr K t ns a H
 tp:Tp t u H
 nms:Nms t nm ls H
 le:u<=800000000000
section
def Drw.go {K:Frag}{a t nm:Addr}{ns:List Int}{ls:List (List Nat)}{u u':Int}{H H':Hp}(h:Drw K a t nm ns ls u H)(k:KeepX t H H')(tp:Tp t u' H')(hu:u'<=800000000000):Drw K a t nm ns ls u' H':=⟨h.sc.keep k,tp,h.nms.keep k,hu⟩
def cst (j4:Bool):Int:=if j4 then 40 else 170
def uo (j4:Bool):40<=cst j4/\cst j4<=170:=by cases j4 <;> decide
def bP (j4:Bool):Int:=if j4 then 760000000000 else 740000000000
def bS (j4:Bool):Int:=if j4 then 750000000000 else 730000000000
def yn (j4:Bool):bP j4<=760000000000/\bS j4+10000000000<=bP j4:=by cases j4 <;> decide
inductive spPart (K:Frag)(j4:Bool)(vs:List V)(H:Hp)(Q:VK)(u3:XK):Prop
 |mk (a t nm:Addr)(ns:List Int)(ls:List (List Nat))(u:Int)(bf:Str)(_:vs=[.ref a, .ref t, .ref nm, .str bf, .bl j4])(_:Drw K a t nm ns ls u H)(_:u<=bP j4)(_:∀v p H',KeepX t H H'->Tp t (u+cst j4) H'->SP j4 p->Dn (dif H H') v (dP p)->Q v H')
inductive spSome (K:Frag)(j4:Bool)(vs:List V)(H:Hp)(Q:VK)(u3:XK):Prop
 |mk (a t nm:Addr)(ns:List Int)(ls:List (List Nat))(u:Int)(j5:Nat)(_:vs=[.ref a, .ref t, .ref nm, .int j5, .bl j4])(_:Drw K a t nm ns ls u H)(_:u<=bS j4)(_:j5<=4)(_:∀r xs (ps:List PC) H',KeepX t H H'->Tp t (u+cst j4 * j5) H'->H r=none->H' r=some (.lst xs)->ps.length=j5->(∀p∈ps,SP j4 p)->NewQ H [r] H' (λG=>DnAll G xs (ps.map dP))->Q (.ref r) H')
abbrev vY:Stmt:=top 64
def qt {m:Nat}{j4:Bool}{spI:Sp}(F:Fun K "_law_part" "_law_part" vY f fd)(T:TxD mg)(Da:Def P w K mg base 1 "_law_draw" p8 (spDraw K))(Dg:Def P w K mg base 2 "_law_text" p25 (spText K))
  (DG:Def P w K mg base m "_law_some" p26 spI)(hI:j4=false->∀vs H Q E,spSome K true vs H Q E->spI vs H Q E):FnOk P w K mg base CX0 (m+3) f fd p27 (spPart K j4):=by
 have sc:FnScope ["_law_script","_law_tape","_law_names_here","_law_before","_law_is_inner","_law_kind","_law_text_here","_law_words"] p27 (ab vY):=mkS;refine F.oks sc λH Q hr h=>?_;obtain⟨a,t,nm,ns,ls,u,bf,rfl,dw,hu1,q⟩:=h;obtain⟨bl,_⟩:=yn j4;refine ak (xbc (xst (i:=5) sc.nd (xcd Da hr (xac (xv 0) (xac (xv 1) (xac xint xa0)))))
  (xbc (xif (xand (aA rB (xv 5) xint (ai _)) (ie (aA iQ (xv 3) xstr (ai _)))).xt (xbc (xst (i:=6) sc.nd (xcd Dg hr (xac (xv 0) (xac (xv 1) (xac (xop bp xint (xcd Da hr (xac (xv 0) (xac (xv 1) (xac xint xa0))))) (xac xbl xa0))))))
  (xbc (xif (aA aI (xcd Da hr (xac (xv 0) (xac (xv 1) (xac xint xa0)))) xint (ai _)) (xb1 (xst (i:=6) sc.nd (xop af xstr (xv 6)))) xb0)
  (xb1 (xret (xtup (xac xstr (xac (xv 6) xa0))))))) xb0)
  (xbc (xif (aA aI (xv 5) xint (ai _)) (xb1 (xret (xtup (xac xstr (xac (xcd Dg hr (xac (xv 0) (xac (xv 1) (xac (xop bp xint (xcd Da hr (xac (xv 0) (xac (xv 1) (xac xint xa0))))) (xac xbl xa0))))) xa0))))) xb0)
  (xbc (xif (xand (aA aI (xv 5) xint (ai _)) (ie (dY (bq (xv 4))))).xt (xb1 (xret (xtup (xac xstr (xac (xcd DG hr (xac (xv 0) (xac (xv 1) (xac (xv 2) (xac (xop bp xint (xcd Da hr (xac (xv 0) (xac (xv 1) (xac xint xa0))))) (xac xbl xa0)))))) xa0))))) xb0)
  (xbc (xif (xor (aA aI (xv 5) xint (ai _)) (xor1 (aA aI (xv 5) xint (ai _)))).xt (xbc (xst (i:=7) sc.nd (xcd Dg hr (xac (xv 0) (xac (xv 1) (xac (xop bp xint (xcd Da hr (xac (xv 0) (xac (xv 1) (xac xint xa0))))) (xac xbl xa0))))))
  (xb1 (xret (xtup (xac xstr (xac (xix aO (xlst (xac (xv 7) (xac (xop af xstr (xv 7)) xa0))) (xcd Da hr (xac (xv 0) (xac (xv 1) (xac xint xa0)))) (λ_ _=>rfl)) (xac (xix aO (xv 2) (xcd Da hr (xac (xv 0) (xac (xv 1) (xac xint xa0)))) (λ_ _=>rfl)) xa0))))))) xb0)
  (xb1 (xret (xtup (xac xstr (xac (xix aO (xv 2) (xcd Da hr (xac (xv 0) (xac (xv 1) (xac xint xa0)))) (λ_ _=>rfl)) xa0)))))))))) ?_
 have hs:=sizeLine_eq;rw[xF];refine ba λU0 eU=>?_;refine⟨_,rfl,_,rfl,a,t,ns,8,u,rfl,dw.sc,dw.tp,by omega,by decide,λkd H1 kd0 kd1 k1 tp1=>?_⟩
 left
 refine eU _ _ _ ?_;have dw1:=dw.go k1 tp1 nofun;obtain⟨cl,cl2⟩:=uo j4;have fin2:∀{k:Str} {v:V} {d:PyData} {p:PC} {H2:Hp},(PyData.strOk k&&decide (k.length<=100000))=true->KeepX t H H2->Tp t (u+cst j4) H2->Dn (dif H H2) v d->dP p = .tuple [.str k,d]->SP j4 p->∀t0,H2 t0=none->Q (.ref t0) (upd H2 t0 (.tup [.str k,v])):=λ{k v d p H2} hk k2 tp2 dv e hp t0 ht0=>by
  have sn:=ac ht0 (.tup [.str k,v]);refine q _ p _ (k2.trans (ae sn)) (tp2.same sn) hp ?_;rw[e];have hne:t0≠t:=λz=>by rw[z] at ht0;exact tp2.ne ht0
  exact .tup (by rw[am (ax k2 hne ht0),aa]) (.cons (dn_k hk) (.cons (dv.same (aX (Same.refl _) sn)) .nil))
 have dS:∀{G:Hp} {l:List Nat},Asc l->l.length<=30->Dn G (vS l) (.str (S l)):=λh1 h2=>(dq h1 nofun).dn;refine s_if _ (km _ _ (λR k=>⟨_,rfl,_,_,rfl,rfl,_,rfl,k _ (Same.refl _)⟩) λ_ H2 s2 R k=>⟨_,rfl,rfl,_,rfl,k _ (Same.refl _)⟩) (λH2 s2 _=>?_) λH2 s2 _=>?_
 ·have k2:=k1.trans (ae s2);have tp2:=tp1.same s2;refine⟨_,rfl,_,rfl,_,rfl,_,rfl,a,t,ns,6,_,rfl,dw.sc.keep k2,tp2,by omega,by decide,λd H3 d0 d1 k3 tp3=>⟨_,_,rfl,rfl,a,t,ns,1+d,_,false,rfl,dw.sc.keep (k2.trans k3),tp3,by omega,by omega,by omega,λl H4 hl ha k4 tp4=>?_⟩⟩
  left
  have k24:=(k2.trans k3).trans k4;have hl7:1<=l.length/\l.length<=6:=by omega
  refine cq (λσ' H'=>∃l:List Nat,σ'=[some (V.ref a),some (V.ref t),some (V.ref nm),some (V.str bf),some (V.bl j4),some (V.int kd),some (vS l),none]/\Asc l/\1<=l.length/\l.length<=7/\KeepX t H H'/\Tp t (u+cst j4) H') (λN hN=>?_) ?_
  ·refine⟨_,rfl,_,rfl,a,t,ns,3,_,rfl,dw.sc.keep k24,tp4,by omega,by decide,λe H5 e0 e1 k5 tp5=>⟨rfl,_,rfl,?_⟩⟩;refine ite2 (λ_=>?_) (λ_=>hN _ _ ⟨l,rfl,ha,hl7.1,by omega,k24.trans k5,tp5.le nofun⟩);exact bH (bU (b:=[58]) rfl) (ev_v (v:=vS l) rfl) (by show 1+_<=_;omega) _ (hN _ _ ⟨[58]++l,rfl,av (aE _ rfl) ha,by rw[l6];show 1<=1+_;omega,by rw[l6];show 1+_<=_;omega,k24.trans k5,tp5.le nofun⟩)
  rintro σ' H5 ⟨l,rfl,ha,hl1,hl2,k5,tp5⟩;refine⟨_,rfl,bg2,λt0 ht0=>fin2 (p := .one (.plain (S l))) ∅ k5 tp5 (dS ha nofun) rfl (.one ⟨⟨ha,λz=>?_⟩,?_⟩) t0 ht0⟩
  ·have:l=[]:=z;rw[this] at hl1;cases hl1
  ·show l.length<=50;omega
 have k2:=k1.trans (ae s2);have tp2:=tp1.same s2;clear s2
 try dsimp only[Ends.to_nx,Ends.to_rt,aY]
 refine s_if _ (λR k=>⟨_,rfl,rfl,_,rfl,k _ (Same.refl _)⟩) (λH3 s3 _=>?_) λH3 s3 _=>?_
 ·have k3:=k2.trans (ae s3);refine⟨_,rfl,_,rfl,_,rfl,_,rfl,a,t,ns,4,_,rfl,dw.sc.keep k3,tp2.same s3,by omega,by decide,λd H4 d0 d1 k4 tp4=>⟨_,_,rfl,rfl,a,t,ns,1+d,_,true,rfl,dw.sc.keep (k3.trans k4),tp4,by omega,by omega,by omega,λl H5 hl ha k5 tp5=>?_⟩⟩;have hl7:l.length<=4:=by omega
  exact⟨bg2,λt0 ht0=>fin2 (p := .one (.code (S l))) ∅ ((k3.trans k4).trans k5) (tp5.le nofun) (dS ha nofun) rfl (.one ⟨ha,by show l.length+2<=50;omega⟩) t0 ht0⟩
 have k3:=k2.trans (ae s3);have tp3:=tp2.same s3;clear s3
 try dsimp only[Ends.to_nx,Ends.to_rt,aY]
 have link:∀H4,KeepX t H H4->Tp t (u+1) H4->∀X:Ends,X.rt=Q->tSeq (tAsg (tCall (spText K) [] E0 (tCons (tVar 0) (tCons (tVar 1) (tCons (tOp (rI0 λi j => .int (i+j)) (tC (.int 1)) (tCall (spDraw K) [] E0 (tCons (tVar 0) (tCons (tVar 1) (tCons (tC (.int 4)) tNil))))) (tCons (tC (.bl false)) tNil))))) (al 7))
   (tRet (tTup (tCons (tC (.str "link")) (tCons (tOp (rIxL K) (tLst (tCons (tVar 7) (tCons (tOp R_op_add_str (tC (.str "^")) (tVar 7)) tNil))) (tCall (spDraw K) [] E0 (tCons (tVar 0) (tCons (tVar 1) (tCons (tC (.int 2)) tNil))))) (tCons (tOp (rIxL K) (tVar 2) (tCall (spDraw K) [] E0 (tCons (tVar 0) (tCons (tVar 1) (tCons (tC (.int 5)) tNil))))) tNil)))))
   X [some (V.ref a),some (V.ref t),some (V.ref nm),some (V.str bf),some (V.bl j4),some (V.int kd),none,none] H4:=λH4 k4 tp4 X hX=>by
  refine⟨_,rfl,_,rfl,_,rfl,_,rfl,a,t,ns,4,_,rfl,dw.sc.keep k4,tp4,by omega,by decide,λd H5 d0 d1 k5 tp5=>⟨_,_,rfl,rfl,a,t,ns,1+d,_,false,rfl,dw.sc.keep (k4.trans k5),tp5,by omega,by omega,by omega,λl H6 hl ha k6 tp6=>?_⟩⟩
  left
  have hl7:l.length<=4:=by omega
  have k46:=(k4.trans k5).trans k6;refine⟨_,rfl,bH (bU (b:=[94]) rfl) (ev_v (v:=vS l) rfl) (by show 1+_<=_;omega) _ ⟨bg2,λo ho=>?_⟩⟩;have so:=ac ho (.lst [vS l,vS ([94]++l)]);have eo:upd H6 o (.lst [vS l,vS ([94]++l)]) o=some (.lst [vS l,vS ([94]++l)]):=aa;generalize upd H6 o (.lst [vS l,vS ([94]++l)])=H7 at so eo ⊢;have k47:=k46.trans (ae so);refine⟨_,rfl,_,rfl,a,t,ns,2,_,rfl,dw.sc.keep k47,tp6.same so,by omega,by decide,λe H8 e0 e1 k8 tp8=>?_⟩;have hot:o≠t:=λz=>by rw[z] at ho;exact tp6.ne ho
  have eo8:=k8 _ _ hot eo;have hw:∃wd:List Nat,atI [vS l,vS ([94]++l)] e=some (vS wd)/\Asc wd/\wd.length<=5:=by
   have:e=0 ∨ e=1:=by omega
   rcases this with z |z
   ·exact⟨l,by rw[z];exact ay (j:=0) rfl,ha,by omega⟩
   ·exact⟨[94]++l,by rw[z];exact ay (j:=1) rfl,av (aE _ rfl) ha,by rw[l6];show 1+_<=_;omega⟩
  obtain⟨wd,hat,hwa,hwl⟩:=hw;refine⟨o,_,_,vS wd,rfl,rfl,SqL.of eo8,hat,?_⟩;have k48:=k47.trans k8;refine⟨_,rfl,_,rfl,_,rfl,a,t,ns,5,_,rfl,dw.sc.keep k48,tp8,by omega,by decide,λn H9 n0 n1 k9 tp9=>(dw.nms.keep (k48.trans k9)).ix n0 n1 λnl hnl=>⟨bg3,λt0 ht0=>?_⟩⟩;have k49:=k48.trans k9;have sn:=ac ht0 (.tup [V.str "link",vS wd,vS nl]);have hne:t0≠t:=λz=>by rw[z] at ht0;exact tp9.ne ht0
  rw[hX];refine q _ (.one (.link (S wd) (S nl))) _ (k49.trans (ae sn)) ((tp9.same sn).le nofun) (.one ⟨⟨hwa,hnl.1⟩,?_⟩) ?_
  ·show wd.length+nl.length+20<=50;have:=hnl.2;omega
  ·have hn2:=hnl.2;exact .tup (by rw[am (ax k49 hne ht0),aa]) (.cons (dn_k ∅) (.cons (dS hwa nofun) (.cons (dS hnl.1 nofun) .nil)))
 have tail : ∀ H4, KeepX t H H4 -> Tp t (u + 1) H4 -> ∀ X : Ends, X.rt = Q -> tSeq (tIfS (tOr (tTest (tOp rEq (tVar 5) (tC (.int 5)))) (tTest (tOp rEq (tVar 5) (tC (.int 4))))) (tSeq (tAsg (tCall (spText K) [] E0 (tCons (tVar 0) (tCons (tVar 1) (tCons (tOp (rI0 λi j => .int (i+j)) (tC (.int 1)) (tCall (spDraw K) [] E0 (tCons (tVar 0) (tCons (tVar 1) (tCons (tC (.int 4)) tNil))))) (tCons (tC (.bl false)) tNil))))) (al 7))
   (tRet (tTup (tCons (tC (.str "link")) (tCons (tOp (rIxL K) (tLst (tCons (tVar 7) (tCons (tOp R_op_add_str (tC (.str "^")) (tVar 7)) tNil))) (tCall (spDraw K) [] E0 (tCons (tVar 0) (tCons (tVar 1) (tCons (tC (.int 2)) tNil))))) (tCons (tOp (rIxL K) (tVar 2) (tCall (spDraw K) [] E0 (tCons (tVar 0) (tCons (tVar 1) (tCons (tC (.int 5)) tNil))))) tNil)))))) aY)
   (tRet (tTup (tCons (tC (.str "note")) (tCons (tOp (rIxL K) (tVar 2) (tCall (spDraw K) [] E0 (tCons (tVar 0) (tCons (tVar 1) (tCons (tC (.int 5)) tNil))))) tNil)))) X [some (V.ref a),some (V.ref t),some (V.ref nm),some (V.str bf),some (V.bl j4),some (V.int kd),none,none] H4:=λH4 k4 tp4 X hX=>by
  refine s_if _ (t_or _ _ (λR k=>⟨_,rfl,rfl,_,rfl,k _ (Same.refl _)⟩) λ_ H5 s5 R k=>⟨_,rfl,rfl,_,rfl,k _ (Same.refl _)⟩) (λH5 s5 _=>link H5 (k4.trans (ae s5)) (tp4.same s5) _ hX) λH5 s5 _=>?_;have k5:=k4.trans (ae s5);refine⟨_,rfl,_,rfl,_,rfl,a,t,ns,5,_,rfl,dw.sc.keep k5,tp4.same s5,by omega,by decide,λn H6 n0 n1 k6 tp6=>(dw.nms.keep (k5.trans k6)).ix n0 n1 λnl hnl=>⟨bg2,λt0 ht0=>?_⟩⟩;have hn2:=hnl.2;rw[hX];exact fin2 (p := .one (.note (S nl))) ∅ (k5.trans k6) (tp6.le nofun) (dS hnl.1 nofun) rfl (.one ⟨hnl.1,by show nl.length+20<=50;omega⟩) t0 ht0
 refine s_if (decide (V.int kd=V.int 4) && !j4) (km _ _ (λR k=>⟨_,rfl,rfl,_,rfl,k _ (Same.refl _)⟩) λ_ H4 s4=>lL _ (t_bv (ev_v rfl))) (λH4 s4 z=>?_) λH4 s4 _=>tail H4 (k3.trans (ae s4)) (tp3.same s4) _ rfl;have hin:j4=false:=by
  rw[Bool.and_eq_true] at z;cases j4 with
  |true=>exact Bool.noConfusion z.2
  |false=>rfl
 subst hin;have k4:=k3.trans (ae s4);have tp4:=tp3.same s4;refine⟨_,rfl,_,rfl,_,rfl,_,rfl,_,rfl,a,t,ns,3,_,rfl,dw.sc.keep k4,tp4,by omega,by decide,λd H5 d0 d1 k5 tp5=>⟨_,_,rfl,rfl,?_⟩⟩;obtain⟨dn,rfl⟩:∃dn:Nat,d=(dn:Int):=⟨d.toNat,(l40 d0).symm⟩;refine hI rfl _ _ _ _ ⟨a,t,nm,ns,ls,_,1+dn,rfl,dw.go (k4.trans k5) tp5 nofun,by have h1:u<=740000000000:=hu1;show _<=(750000000000:Int);omega,by omega,λr xs ps H6 k6 tp6 hr6 e6 hpl hps hn=>⟨bg2,λt0 ht0=>?_⟩⟩;have k46:=(k4.trans k5).trans k6;have sn:=ac ht0 (.tup [V.str "strong",V.ref r]);have hne:t0≠t:=λz=>by rw[z] at ht0;exact tp6.ne ht0
 have hrt:r≠t:=λz=>by rw[z] at hr6;exact tp5.ne hr6
 have hrH:=ax (k4.trans k5) hrt hr6;have hps1:∃qs:List P1,ps=qs.map .one/\∀q∈qs,Ok1 q/\sz1 q<=50:=by
  clear hn hpl
  induction ps with
  |nil=>exact⟨[],rfl,λ_ z=>nomatch z⟩
  |cons p ps ih=>
   obtain⟨qs,rfl,hqs⟩:=ih λx hx=>hps x (l15 _ hx);obtain⟨h1,h2,_⟩:=hps p l10;obtain⟨q0,rfl,h3⟩:=h1 rfl;refine⟨q0::qs,rfl,λx hx=>?_⟩;rcases l8.mp hx with rfl |z
   ·exact⟨h2,h3⟩
   ·exact hqs x z
 obtain⟨qs,rfl,hqs⟩:=hps1;rw[l5] at hpl;have em:(qs.map PC.one).map dP=qs.map Lw.d1:=by rw[l30];rfl
 rw[em] at hn;have hxl:xs.length=qs.length:=by
  obtain⟨G,_,_,_,e⟩:=hn;rw[e.len,l5]
 refine q _ (.strong qs) _ (k46.trans (ae sn)) ((tp6.same sn).le (by rw[show cst true=40 from rfl,show cst false=170 from rfl];omega)) ⟨(λz=>Bool.noConfusion z),(λx hx=>(hqs x hx).1),?_⟩ ?_
 ·show (qs.map sz1).sum+2<=160;have hsum:(qs.map sz1).sum<=50 * qs.length:=by
   clear hn em hxl hpl hps
   induction qs with
   |nil=>exact l7 _
   |cons q0 qs ih=>
    have h1:=(hqs q0 l10).2;have h2:=ih λx hx=>hqs x (l15 _ hx);rw[l20,l35,l9];omega
  omega
 ·refine .tup (by rw[am (ax k46 hne ht0),aa]) (.cons (dn_k ∅) (.cons (.lst (xs:=xs) ?_ ?_ nofun) .nil))
  ·rw[am hrH];exact sn _ _ e6
  ·have d6:DnAll (dif H5 H6) xs (qs.map Lw.d1):=hn.dif cv;exact d6.same ((bw tp5.ne (k4.trans k5)).trans (aX (Same.refl _) sn))
end
end K12
namespace Lw
open PySem L2 Lm
def kO {G:Hp}{v:V}{k s:Str}(h:Dn G v (.tuple [.str k, .str s])):∃a,v = .ref a/\G a=some (.tup [.str k, .str s]):=by
 cases h with |tup e r=>cases r with |cons a r=>cases r with |cons b r=>cases r;cases a;cases b;exact⟨_,rfl,e⟩
def yo {G:Hp}{v:V}{k s n:Str}(h:Dn G v (.tuple [.str k, .str s, .str n])):∃a,v = .ref a/\G a=some (.tup [.str k, .str s, .str n]):=by
 cases h with |tup e r=>cases r with |cons a r=>cases r with |cons b r=>cases r with |cons c r=>cases r;cases a;cases b;cases c;exact⟨_,rfl,e⟩
def qu {G:Hp}{v:V}{k:Str}{d:PyData}(h:Dn G v (.tuple [.str k,d])):∃a y,v = .ref a/\G a=some (.tup [.str k,y])/\Dn G y d:=by
 cases h with |tup e r=>cases r with |cons a r=>cases r with |cons b r=>cases r;cases a;exact⟨_,_,rfl,e,b⟩
def S_ex (s:Str):∃l,s=S l:=⟨_,(S_of s).symm⟩
def tu {H:Hp}{xs:List V}{ps:List PC}{i:Nat}{x:V}(da:DnAll H xs (ps.map dP))(hx:xs[i]? = some x):∃p,ps[i]? = some p/\ps.drop i=p::ps.drop (i+1)/\Dn H x (dP p):=by
 obtain⟨hil,_⟩:=List.getElem?_eq_some_iff.mp hx;have hl:=da.len;rw[l5] at hl;have hi:i < ps.length:=by omega
 refine⟨ps[i],List.getElem?_eq_getElem hi,List.drop_eq_getElem_cons hi,?_⟩;obtain⟨v,h1,h2⟩:=da.get (i:=i) (d:=dP ps[i]) (by rw[List.getElem?_map,List.getElem?_eq_getElem hi];rfl);rw[hx] at h1;cases h1;exact h2
def jn {H:Hp}{v:V}{p:PC}(h:Dn H v (dP p)):∃a ys,v = .ref a/\H a=some (.tup (.str (kdP p)::ys)):=by
 match p,h with
 | .one (.plain _),h=>obtain⟨a,e,k⟩:=kO h;exact⟨a,_,e,k⟩
 | .one (.code _),h=>obtain⟨a,e,k⟩:=kO h;exact⟨a,_,e,k⟩
 | .one (.link _ _),h=>obtain⟨a,e,k⟩:=yo h;exact⟨a,_,e,k⟩
 | .one (.note _),h=>obtain⟨a,e,k⟩:=kO h;exact⟨a,_,e,k⟩
 | .strong _,h=>obtain⟨a,y,e,k,_⟩:=qu h;exact⟨a,_,e,k⟩
def Gs1:P1->Prop
 | .plain s=>StrG s
 | .code s=>StrG s
 | .link w n=>StrG w/\StrG n
 | .note n=>StrG n
def hJ {G:Hp}{v:V}{s:Str}(h:Dn G v (.str s)):StrG s:=by cases h with |str _ a b=>exact⟨a,b⟩
def jo {G:Hp}{v:V}:∀{p:P1},Dn G v (d1 p)->Gs1 p
 | .plain _,h=>let ⟨_,_,_,_,k⟩:=qu h;hJ k
 | .code _,h=>let ⟨_,_,_,_,k⟩:=qu h;hJ k
 | .note _,h=>let ⟨_,_,_,_,k⟩:=qu h;hJ k
 | .link _ _,h=>by cases h with |tup _ r=>cases r with |cons _ r=>cases r with |cons a r=>cases r with |cons b _=>exact⟨hJ a,hJ b⟩
def uq {te:TE}{v:V}{i:Nat}{D:Ends}{σ:St}{H:Hp}(e:Ev te σ H v)(h:D.nx (σ.set i (some v)) H):tAsg te (al i) D σ H:=e _ h
end Lw
namespace K12
open PySem L2 Lm Lw PySem.Builtin.Int
section
abbrev vZ:Stmt:=top 65
def qv {m:Nat}{j4:Bool}(F:Fun K "_law_some" "_law_some" vZ f fd)(T:TxD mg)(Yh:Def P w K mg base m "_law_part" p27 (spPart K j4)):FnOk P w K mg base CX0 (m+1) f fd p26 (spSome K j4):=by
 have sc:FnScope ["_law_script","_law_tape","_law_names_here","_law_many","_law_is_inner","_law_parts_here","_law_before","_law_k"] p26 (ab vZ):=mkS;refine F.oks sc λH Q hr h=>?_;obtain⟨a,t,nm,ns,ls,u,j5,rfl,dw,hu1,hm4,q⟩:=h;obtain⟨bl,bl2⟩:=yn j4;obtain⟨cl,cl2⟩:=uo j4;have hs:=sizeLine_eq;refine ak (xbc (xst (i:=5) sc.nd (xlst xa0))
  (xbc (xst (i:=6) sc.nd xstr)
  (xbc (xfor PassesOwn.never rfl (xir1 rfl T.u11 (xac (xv 3) xa0)) (xgm (i:=7) sc.nd)
  (xbc (bo (xmA (xv 5) (xac (xcd Yh hr (xac (xv 0) (xac (xv 1) (xac (xv 2) (xac (xv 6) (xac (xv 4) xa0)))))) xa0)))
  (xb1 (xst (i:=6) sc.nd (xix ar (xix aO (xv 5) (xun fZ xint) (λ_ _=>rfl)) xint (λ_ _=>rfl))))))
  (xb1 (xret (xv 5)))))) ?_
 rw[xF];refine ba λU0 eU=>?_;refine⟨bg0,λr hr0=>?_⟩;have s1:=ac hr0 (.lst []);have e1:upd H r (.lst []) r=some (.lst []):=aa
 left
 refine eU _ _ _ ?_;generalize upd H r (.lst [])=H1 at s1 e1 ⊢;refine iN ?_;dsimp only[sA,sB];refine⟨_,rfl,_,rfl,by omega,by omega,?_⟩;rw[l37];have hrt:r≠t:=λz=>by rw[z] at hr0;exact dw.tp.ne hr0
 refine bO (n:=j5) (λi σ H'=>∃(xs:List V) (ps:List PC) (bf:Str) (x7:Option V),σ=[some (V.ref a),some (V.ref t),some (V.ref nm),some (V.int j5),some (V.bl j4),some (.ref r),some (.str bf),x7]/\KeepX t H H'/\Tp t (u+cst j4 * i) H'/\H' r=some (.lst xs)/\ps.length=i/\(∀p∈ps,SP j4 p)/\NewQ H [r] H' (λG=>DnAll G xs (ps.map dP)))
  ⟨[],[],_,none,rfl,ae s1,by have:=dw.tp.same s1;simpa using this,e1,rfl,(λ_ z=>nomatch z),NewQ.triv .nil⟩ ?_ ?_
 ·rintro i σ H3 hi ⟨xs,ps,bf,x7,rfl,k3,tp3,er3,hpl,hps,hn⟩;have hxl:xs.length=i:=by
   obtain⟨G,_,_,_,e⟩:=hn;rw[e.len,l5,hpl]
  have hmul:cst j4 * i<=170 * 4:=l67 (l93 cl2 nofun) nofun;have hmul0:0<=cst j4 * i:=l68 nofun nofun;refine⟨_,rfl, .inl ⟨rfl,_,SqL.of er3⟩,_,rfl,_,rfl,_,rfl,_,rfl,_,rfl,a,t,nm,ns,ls,_,bf,rfl,dw.go k3 tp3 nofun,by omega,λv p H4 k4 tp4 hp dv=>?_⟩;have er4:=k4 _ _ hrt er3;refine⟨r,xs,v,rfl,rfl,er4,by rw[hs];omega,?_⟩;obtain⟨b,ys,rfl,eb⟩:=jn dv.out;have hbr:b≠r:=(nq er4 eb);have hne:=dw.tp.ne;have k5:KeepX t H (upd H4 r (.lst (xs++[V.ref b]))):=λx o hx e=>(ad (nq hr0 e)).trans ((k3.trans k4) x o hx e);have tp5:Tp t (u+cst j4 * (i+1:Nat)) (upd H4 r (.lst (xs++[V.ref b]))):=by
   obtain⟨m',e,m0,m1⟩:=tp4;refine⟨m',(ad (Ne.symm hrt)).trans e,m0,l67 m1 ?_⟩;have:((i+1:Nat):Int)=(i:Nat)+1:=by omega
   rw[this,Int.mul_add,Int.mul_one];omega
  have er5:upd H4 r (.lst (xs++[V.ref b])) r=some (.lst (xs++[V.ref b])):=aa;have eb5:upd H4 r (.lst (xs++[V.ref b])) b=some (.tup (V.str (kdP p)::ys)):=(ad hbr).trans eb;have hn5:NewQ H [r] (upd H4 r (.lst (xs++[V.ref b]))) (λG=>DnAll G (xs++[V.ref b]) ((ps++[p]).map dP)):=by
   rw[l17];refine NewQ.upd ?_ l10;refine NewQ.join (NewQ.keep hn hne k4) ?_ cv qq λG h1 h2=>fW h1 h2;refine⟨dif H3 H4,dif_same,λx hx=>bg (by rw[l14.mp hx,er3];exact λz=>nomatch z),λx hx=>?_,dv⟩;by_cases hxt:x=t
   ·rw[hxt];exact bg tp3.ne
   ·refine bg λz=>?_;cases e:H x with
    |none=>exact hx e
    |some o=>rw[k3 x o hxt e] at z;cases z
  try dsimp only[tAsg.K0,tDrop.K0,Ends.to_nx,Ends.to_rt]
  generalize upd H4 r (.lst (xs++[V.ref b]))=H5 at k5 tp5 er5 eb5 hn5 ⊢;refine uq (eg (ko (ev_v rfl) (pI ev_c rfl) (SqL.of er5) (rH _ _)) ev_c (SqT.of eb5) (ay (j:=0) rfl)) ?_;exact ⟨_,ps++[p],_,_,rfl,k5,tp5,er5,by rw[l6,hpl];rfl,λx hx=>by
   rcases l24.mp hx with z |z
   ·exact hps x z
   ·rw[l14.mp z];exact hp,hn5⟩
 ·rintro σ H3 ⟨xs,ps,bf,x7,rfl,k3,tp3,er3,hpl,hps,hn⟩;exact⟨_,rfl,q r xs ps H3 k3 tp3 hr0 er3 hpl hps hn⟩
end
end K12
namespace Lm
open PySem PySem.Builtin PySem.Builtin.Str
theorem qw (sep:PySem.Str)(c:Nat):∀(rest:List PySem.Str) (acc:Array Nat),c∈(rest.foldl (λacc p=>acc++sep.cps++p.cps) acc).toList->c∈acc.toList ∨ c∈sep.cps.toList ∨ ∃p∈rest,c∈p.cps.toList
 | [],acc,h => .inl h
 |p::r,acc,h=>by
  rcases qw sep c r _ h with k |k |⟨q,hq,k⟩
  ·rw[Array.toList_append,Array.toList_append,l24,l24] at k;rcases k with (k |k) |k
   ·exact .inl k
   ·exact .inr (.inl k)
   ·exact .inr (.inr ⟨p,l10,k⟩)
  ·exact .inr (.inl k)
  ·exact .inr (.inr ⟨q,l15 _ hq,k⟩)
def jp (l y z:List Nat):∃r,Txt.replace (S l) (S y) (S z)=S r/\(∀c∈r,c∈l ∨ c∈z)/\r.length<=l.length+(l.length+1) * z.length:=by
 unfold Txt.replace;split
 ·exact⟨l,rfl,λc hc => .inl hc,l66 _ _⟩
 ·generalize hg:glued (S z) (partsBetween (S l) (occurrences (S l) (S y) 0 (S l).length ((S l).length+1)) (S y).length)=g;refine⟨g.cps.toList,rfl,λc hc=>?_,?_⟩
  ·have hsub:∀p∈partsBetween (S l) (occurrences (S l) (S y) 0 (S l).length ((S l).length+1)) (S y).length,∀c∈p.cps.toList,c∈l:=λp hp c hc=>by
    unfold partsBetween at hp;obtain⟨⟨i,j⟩,_,rfl⟩:=l23.mp hp;have hc:c∈((S l).cps.extract i j).toList:=hc;rw[Array.toList_extract,List.extract_eq_drop_take] at hc;exact List.mem_of_mem_drop (List.mem_of_mem_take hc)
   rw[<- hg] at hc;revert hsub hc;cases partsBetween (S l) (occurrences (S l) (S y) 0 (S l).length ((S l).length+1)) (S y).length with
   |nil=>intro hc _;exact nomatch (show c∈([]:List Nat) from hc)
   |cons p ps=>
    intro hc hsub;rcases qw _ c ps _ hc with k |k |⟨q,hq,k⟩
    ·exact .inl (hsub p l10 c k)
    ·exact .inr k
    ·exact .inl (hsub q (l15 _ hq) c k)
  ·have h1:=StrLaws.occ_length_le (S l) (S y) 0 (S l).length ((S l).length+1);have hy:(glued (S y) (partsBetween (S l) (occurrences (S l) (S y) 0 (S l).length ((S l).length+1)) (S y).length)).length=(S l).length:=by rw[StrLaws.glued_between_self]
   rw[size_glued,length_partsBetween,l84] at hy;have hz:=size_glued (S z) (partsBetween (S l) (occurrences (S l) (S y) 0 (S l).length ((S l).length+1)) (S y).length);rw[hg] at hz;rw[length_partsBetween,l84] at hz;have h2:=l53 (S z).length h1;show g.length<=_;simp only[aw] at h2 hy hz;omega
end Lm
namespace L2
open PySem PySem.Spec PyProof.Rows
section
variable {X:Cx}{a b:Expr}{rest:List Expr}{ta tb:TE}{pos:Pos}
inductive tOrS.I (tb:TE)(σ:St)(Q:VK)(x:V)(H1:Hp):Prop
 |mk (z)(_:x = .str z)(_:z.length<=sizeLine)(_:if z.length=0 then tb σ H1 Q else Q (.str z) H1)
def tOrS (ta tb:TE):TE:=λσ H Q=>ta σ H (tOrS.I tb σ Q)
def yp (ha:PE X a ta)(hb:PE X (.BoolOp .Or (b::rest) pos) tb):PE X (.BoolOp .Or (a::b::rest) pos) (tOrS ta tb):=by
 intro w9 s σ H Q I h;refine BoolOp_or (thn (ha w9 s σ H _ I h) λv s1 ⟨x,H1,I1,r1,q1⟩=>?_);obtain⟨z,rfl,hz,q1⟩:=q1;obtain⟨t,rfl⟩:=r1;have hl:=fI;have hs:=sizeLine_eq;refine PySem.P.truthy_str nofun ?_;by_cases h0:z.length=0
 ·rw[if_pos h0] at q1;rw[show ((z.length:Int) != 0)=false by rw[h0];rfl];exact hb w9 _ σ H1 Q (I1.tok _) q1
 ·rw[if_neg h0] at q1;rw[show ((z.length:Int) != 0)=true by rw[bne_iff_ne];omega];exact⟨.str z,H1,I1.tok _,⟨t,rfl⟩,q1⟩
def xorS (h:XE X a ta)(h2:XE X (.BoolOp .Or (b::rest) pos) tb):XE X (.BoolOp .Or (a::b::rest) pos) (tOrS ta tb):=⟨yp h.h h2.h⟩
open Builtin Builtin.Str
end
end L2
namespace K12
open PySem L2 Lm Lw PySem.Builtin.Int
def eM {t:Addr}{H H3:Hp}(k:KeepX t H H3)(ht:H3 t≠none){b:Addr}(hb:H b≠none):H3 b≠none:=by
 by_cases h:b=t
 ·rw[h];exact ht
 ·cases e:H b with
  |none=>exact absurd e hb
  |some o=>rw[k b o h e];exact λz=>nomatch z
def NewQ.ofK {H H3 H4:Hp}{W:List Addr}{R:Hp->Prop}{t:Addr}(k:KeepX t H H3)(ht:H3 t≠none)(hW:∀b∈W,H3 b≠none)(h:R (dif H3 H4)):NewQ H W H4 R:=
 ⟨dif H3 H4,dif_same,λb hb=>bg (hW b hb),λb hb=>bg (eM k ht hb),h⟩
def NewQ.baseK {H H3 H4:Hp}{W:List Addr}{R:Hp->Prop}{t:Addr}(k:KeepX t H H3)(ht:H3 t≠none)(h:NewQ H3 W H4 R):NewQ H W H4 R:=
 let ⟨G,a,b,d,e⟩:=h;⟨G,a,b,λx hx=>d x (eM k ht hx),e⟩
def kP {t r T:Addr}{H H3:Hp}{xs:List V}{ps:List PC}{j:Nat}{l:List Nat}(k:KeepX t H H3)(ht:H3 t≠none)(er:H3 r=some (.lst xs))(hT:H3 T=none)(ha:Asc l)(hl:l.length<=400)(hn:NewQ H [r] H3 λG=>DnAll G xs (ps.map dP)):
  NewQ H [r] (upd (upd H3 T (.tup [.str "plain",vS l])) r (.lst (xs.set j (.ref T)))) λG=>DnAll G (xs.set j (.ref T)) ((ps.set j (.one (.plain (S l)))).map dP):=by
 refine NewQ.upd ?_ l10;rw[List.map_set];refine NewQ.join (hn.same (ac hT _)) (NewQ.ofK (H3:=H3) (R:=λG=>Dn G (.ref T) (dP (.one (.plain (S l))))) k ht (λb hb=>by rw[l14.mp hb,er];exact λz=>nomatch z) ?_) cv qq λG h1 h2=>h1.set j h2;exact .tup (by rw[am hT,aa]) (.cons (dn_k ∅) (.cons (dq ha nofun).dn .nil))
def qx {n j:Nat}(h:j < n):ixN n (j:Int)=some j:=by
 unfold ixN;rw[if_pos nofun,if_pos nofun,l37]
def mY {n:Nat}(h:0 < n):ixN n (-1)=some (n - 1):=by
 unfold ixN;rw[if_neg ∅,if_pos nofun];congr 1;omega
def qy {xs:List V}{v:V}(h:xs[xs.length - 1]? = some v)(h0:0 < xs.length):atI xs (-1)=some v:=by
 unfold atI;rw[mY h0];exact h
def qz {r:Addr}{H H3:Hp}{xs:List V}{ps:List PC}{j:Nat}(hn:NewQ H [r] H3 λG=>DnAll G xs (ps.map dP))(hj:j < ps.length):∃x p,xs[j]? = some x/\ps[j]? = some p/\Dn H3 x (dP p):=by
 obtain⟨G,sG,_,_,da⟩:=hn;obtain⟨x,h1,h2⟩:=(da.same sG).get (i:=j) (d:=dP ps[j]) (by rw[List.getElem?_map,List.getElem?_eq_getElem hj];rfl);exact⟨x,ps[j],h1,List.getElem?_eq_getElem hj,h2⟩
theorem mZ:∀{p:PC},kdP p=gH->∃s,p = .one (.plain s)
 | .one (.plain s),_=>⟨s,rfl⟩
 | .one (.code _),z=>absurd z.symm kinds.1
 | .strong _,z=>absurd z.symm kinds.2.2.1
 | .one (.link _ _),z=>absurd z.symm kinds.2.2.2.2.2.2.1
 | .one (.note _),z=>absurd z.symm kinds.2.1
def zC {te:TE}{σ:St}{H:Hp}{v v':V}(h:Ev te σ H v)(e:v=v'):Ev te σ H v':=e▸h
def yr {ta : TE} {σ : St} {H : Hp} {a b : List Nat} (h : Ev ta σ H (vS a)) (hl : a.length <= 1000000) : Ev (tOrS ta (tC (vS b))) σ H (vS (if a = [] then b else a)) := fun R r => h _ ⟨_,rfl,bigS hl,by
 rw[aw];by_cases z:a=[]
 ·subst z;exact r
 ·rw[if_neg λy=>z (List.length_eq_zero_iff.mp y)];rw[if_neg z] at r;exact r⟩
def yt {te:TE}{x v:V}{g:TG}{D:Ends}{σ:St}{H:Hp}(e:Ev te σ H v)(h:∀T,H T=none->g (.ref T) σ (upd H T (.tup [x,v])) D.nx):tAsg (tTup (tCons (tC x) (tCons te tNil))) g D σ H:=e _ ⟨bg2,h⟩
def SPs (ps:List PC):Prop:=1<=ps.length/\ps.length<=4/\∀p∈ps,OkC p/\szC p<=400
def stL:List V:=[V.str "",V.str "",V.str "",V.str "- ",V.str "+ ",V.str "= ",V.str "=== ",V.str ">",V.str "> ",V.str "~~~",V.str "|",V.str "[",V.str "[a]: ",V.str "[^a]: ",V.str "\\",V.str "^",V.str ":",V.str "]"]
section
abbrev qA:Stmt:=top 66
inductive spParts (K:Frag)(vs:List V)(H:Hp)(Q:VK)(u3:XK):Prop
 |mk (a t nm:Addr)(ns:List Int)(ls:List (List Nat))(u:Int)(_:vs=[.ref a, .ref t, .ref nm])(_:Drw K a t nm ns ls u H)(_:u<=720000000000)(_:∀r ps H',KeepX t H H'->Tp t (u+700) H'->SPs ps->Dn (dif H H') (.ref r) (.list (ps.map dP))->Q (.ref r) H')
def tz {m:Nat}(F:Fun K "_law_parts" "_law_parts" qA f fd)(T:TxD mg)(Da:Def P w K mg base 1 "_law_draw" p8 (spDraw K))(DG:Def P w K mg base m "_law_some" p26 (spSome K false)):FnOk P w K mg base CX0 (m+2) f fd p9 (spParts K):=by
 have sc:FnScope ["_law_script","_law_tape","_law_names_here","_law_starts","_law_parts_here","_law_text_here"] p9 (ab qA):=mkS;refine F.oks sc λH Q hr h=>?_;obtain⟨a,t,nm,ns,ls,u,rfl,dw,hu1,q⟩:=h;have hs:=sizeLine_eq;refine ak (xbc (xst (i:=3) sc.nd (xlst (xac xstr (xac xstr (xac xstr (xac xstr (xac xstr (xac xstr (xac xstr (xac xstr (xac xstr (xac xstr (xac xstr (xac xstr (xac xstr (xac xstr (xac xstr (xac xstr (xac xstr (xac xstr xa0))))))))))))))))))))
  (xbc (xst (i:=4) sc.nd (xcd DG hr (xac (xv 0) (xac (xv 1) (xac (xv 2) (xac (xop bp xint (xcd Da hr (xac (xv 0) (xac (xv 1) (xac xint xa0))))) (xac xbl xa0)))))))
  (xbc (xif (aA aI (xix ar (xix aO (xv 4) xint (λ_ _=>rfl)) xint (λ_ _=>rfl)) xstr (ai _)) (xbc (xst (i:=5) sc.nd (xop af (xix aO (xv 3) (xcd Da hr (xac (xv 0) (xac (xv 1) (xac xint xa0)))) (λ_ _=>rfl)) (xix ar (xix aO (xv 4) xint (λ_ _=>rfl)) xint (λ_ _=>rfl))))
  (xb1 (xasg (xtup (xac xstr (xac (xorS (xm plainAttrs_str slot_str_lstrip type_str_lstrip ga (o9 (xv 5) ∅ ∅) (xac xstr xa0)) (xone xstr)) xa0))) (ve (xv 4) xint iU)))) xb0)
  (xbc (xif (aA aI (xix ar (xix aO (xv 4) (xun fZ xint) (λ_ _=>rfl)) xint (λ_ _=>rfl)) xstr (ai _)) (xb1 (xasg (xtup (xac xstr (xac (xorS (xm plainAttrs_str PySem.F.slot_str_rstrip PySem.F.type_str_rstrip jU (xix ar (xix aO (xv 4) (xun fZ xint) (λ_ _=>rfl)) xint (λ_ _=>rfl)) (xac xstr xa0)) (xone xstr)) xa0))) (ve (xv 4) (xun fZ xint) iU))) xb0)
  (xb1 (xret (xv 4))))))) ?_
 rw[zf];refine ba λU0 eU=>?_;refine⟨bg18,λLs hLs=>?_⟩;have s1:=ac hLs (.lst stL);have eL:upd H Ls (.lst stL) Ls=some (.lst stL):=aa
 try dsimp only[tAsg.K0,tDrop.K0,gSub.K2,Ends.to_nx,al,sA,sB]
 show U0 _ _ (upd H Ls (.lst stL));generalize upd H Ls (.lst stL)=H1 at s1 eL ⊢;have k1:KeepX t H H1:=ae s1;have tp1:=dw.tp.same s1;have hLt:Ls≠t:=λz=>by rw[z] at hLs;exact dw.tp.ne hLs
 left
 refine eU _ _ _ ?_;refine⟨_,rfl,_,rfl,_,rfl,_,rfl,_,rfl,a,t,ns,4,_,rfl,dw.sc.keep k1,tp1,by omega,by decide,λd H2 d0 d1 k2 tp2=>?_⟩;obtain⟨dn,rfl⟩:∃dn:Nat,d=(dn:Int):=⟨d.toNat,(l40 d0).symm⟩;have k12:=k1.trans k2;refine⟨_,_,rfl,rfl,a,t,nm,ns,ls,_,1+dn,rfl,dw.go k12 tp2 nofun,by show _<=(730000000000:Int);omega,by omega,λr xs ps H3 k3 tp3 hr0 er hpl hps hn=>?_⟩;have tp3:Tp t (u+682) H3:=tp3.le (by show u+1+170 * ((1+dn:Nat):Int)<=_;omega);have hn:=NewQ.baseK k12 tp2.ne hn;have hrt:r≠t:=λz=>by rw[z] at hr0;exact tp2.ne hr0
 have hrH:H r=none:=ax k12 hrt hr0;have k13:=k12.trans k3;have eL3:=k3 _ _ hLt (k2 _ _ hLt eL);have hLr:Ls≠r:=λz=>by have:=k2 _ _ hLt eL;rw[z,hr0] at this;cases this
 left
 refine cq (λσ' H'=>∃(xs:List V) (ps:List PC) (x5:Option V),σ'=[some (V.ref a),some (V.ref t),some (V.ref nm),some (V.ref Ls),some (V.ref r),x5]/\KeepX t H H'/\Tp t (u+690) H'/\H' r=some (.lst xs)/\(1<=ps.length/\ps.length<=4)/\(∀p∈ps,OkC p/\szC p<=400)/\NewQ H [r] H' (λG=>DnAll G xs (ps.map dP))) (λN hN=>?_) ?_
 ·have hlx:xs.length=ps.length:=by
   obtain⟨G,_,_,_,e⟩:=hn;rw[e.len,l5]
  obtain⟨x0,p0,hx0,hp0,dn0⟩:=qz hn (j:=0) nofun;obtain⟨b,ys,rfl,eb⟩:=jn dn0;refine s_if _ (ik (eg (ko (ev_v rfl) ev_c (SqL.of er) (ay (j:=0) hx0)) ev_c (SqT.of eb) (ay (j:=0) rfl)) ev_c) (λH4 s4 z=>?_) λH4 s4 _=>hN _ _ ⟨xs,ps,none,rfl,k13.trans (ae s4),(tp3.same s4).le nofun,s4 _ _ er,by omega,λp hp=>⟨(hps p hp).2.1,l13 (hps p hp).2.2 ∅⟩,hn.same s4⟩;obtain⟨z0,rfl⟩:=mZ (of_decide_eq_true z);obtain⟨l0,rfl⟩:=S_ex z0;obtain⟨_,he,eb⟩:=kO dn0;cases he;have ok0:=hps _ (l18 hp0);have hl0:l0.length<=160:=ok0.2.2;have ha0:Asc l0:=ok0.2.1.1;have k4:=k13.trans (ae s4);have tp4:=tp3.same s4;refine⟨_,rfl,_,rfl,_,rfl,a,t,ns,18,_,rfl,dw.sc.keep k4,tp4,by omega,by decide,λd5 H5 d50 d51 k5 tp5=>?_⟩;obtain⟨st,hst,has,hls⟩:=xT (xs:=stL) (n:=6) (m:=18) ∅ rfl d50 d51;have er5:=k5 _ _ hrt (s4 _ _ er);have hbt:b≠t:=λz=>by obtain⟨m',e,_⟩:=tp3;rw[z,e] at eb;cases eb
  refine⟨Ls,stL,d5,vS st,rfl,rfl,SqL.of (k5 _ _ hLt (s4 _ _ eL3)),hst,?_⟩;have eb5:=k5 _ _ hbt (s4 _ _ eb);refine(eg (ko (ev_v rfl) ev_c (SqL.of er5) (ay (j:=0) hx0)) ev_c (SqT.of eb5) (ay (j:=1) rfl)) _ ⟨_,_,rfl,rfl,by rw[aw,aw,hs];omega,?_⟩;rw[cF];have hll:(st++l0).length<=166:=by rw[l6];omega
  have hla:=av has ha0;generalize st++l0=l at hll hla ⊢
  left
  obtain⟨l2,e2,m2,n2⟩:=jp l [32,32] [32];have hl2:Asc l2:=λc hc=>by
   rcases m2 c hc with z |z
   ·exact hla c z
   ·rw[l14.mp z];decide
  have hd:(l2.dropWhile ([32]:List Nat).contains).length<=340:=by
   have:=(List.dropWhile_sublist (([32]:List Nat).contains) (l:=l2)).length_le;have:([32]:List Nat).length=1:=rfl;rw[this] at n2;omega
  have had:Asc (l2.dropWhile ([32]:List Nat).contains):=λc hc=>hl2 c ((List.dropWhile_sublist _).subset hc);have hel:=fS l2 [32];generalize l2.dropWhile ([32]:List Nat).contains=l3 at hd had hel;have fin:∀l4:List Nat,Asc l4->l4≠[]->l4.length<=400->∀T,H5 T=none->N [some (V.ref a),some (V.ref t),some (V.ref nm),some (V.ref Ls),some (V.ref r),some (vS l)] (upd (upd H5 T (.tup [.str "plain",vS l4])) r (.lst (xs.set 0 (.ref T)))):=λl4 h1 h2 h3 T hT=>by
   have k45:=k4.trans k5;have hTr:T≠r:=(nq er5 hT);have sT:=ac hT (.tup [.str "plain",vS l4]);refine hN _ _ ⟨xs.set 0 (.ref T),ps.set 0 (.one (.plain (S l4))),_,rfl,λx o hx e=>?_,?_,aa,by rw[l78];omega,λp hp=>?_,kP k45 tp5.ne er5 hT h1 h3 (NewQ.keep (hn.same s4) dw.tp.ne k5)⟩
   ·rw[ad (nq hrH e)];exact sT _ _ (k45 x o hx e)
   ·obtain⟨m',e,m0,m1⟩:=tp5.same sT;exact⟨m',(ad (Ne.symm hrt)).trans e,m0,by omega⟩
   ·rcases List.mem_or_eq_of_mem_set hp with z |z
    ·exact⟨(hps p z).2.1,l13 (hps p z).2.2 ∅⟩
    ·rw[z];exact⟨⟨h1,h2⟩,h3⟩
  refine⟨_,rfl,_,rfl,by rw[aw];omega,?_⟩;rw[show Txt.replace (S l) "  " " "=S l2 from e2];refine⟨rfl,_,_,rfl,rfl,bigS (by have:([32]:List Nat).length=1:=rfl;rw[this] at n2;omega),?_⟩;refine ⟨_,rfl,by
   rw[show Txt.lstripChars (S l2) " "=S l3 from hel,aw];rw[hs];omega,?_⟩
  rw[show Txt.lstripChars (S l2) " "=S l3 from hel,aw];split
  ·exact⟨bg2,λT hT=>⟨_,rfl,r,xs,0,0,rfl,rfl,(ac hT _) _ _ er5,qx (j:=0) nofun,fin [97] (aE _ rfl) ∅ ∅ T hT⟩⟩
  ·rename_i hz;exact⟨bg2,λT hT=>⟨_,rfl,r,xs,0,0,rfl,rfl,(ac hT _) _ _ er5,qx (j:=0) nofun,fin l3 had (λz=>hz (by rw[z];rfl)) nofun T hT⟩⟩
 rintro σ' H4 ⟨xs,ps,x5,rfl,k4,tp4,er4,hpl4,hps4,hn4⟩;have hlx:xs.length=ps.length:=by
  obtain⟨G,_,_,_,e⟩:=hn4;rw[e.len,l5]
 have hlx0:0 < xs.length:=by omega
 have fin:∀{xs:List V} {ps:List PC} {H':Hp},KeepX t H H'->Tp t (u+700) H'->H' r=some (.lst xs)->(1<=ps.length/\ps.length<=4)->(∀p∈ps,OkC p/\szC p<=400)->NewQ H [r] H' (λG=>DnAll G xs (ps.map dP))->Q (.ref r) H':=λ{xs ps H'} h1 h2 h3 h4 h5 h6=>by
  refine q r ps H' h1 h2 ⟨h4.1,h4.2,h5⟩ ?_;exact .lst (by rw[am hrH,h3]) (h6.dif cv) (by rw[(h6.dif cv).len,l5];omega)
 refine cq (λσ' H'=>∃(xs:List V) (ps:List PC),σ'=[some (V.ref a),some (V.ref t),some (V.ref nm),some (V.ref Ls),some (V.ref r),x5]/\KeepX t H H'/\Tp t (u+700) H'/\H' r=some (.lst xs)/\(1<=ps.length/\ps.length<=4)/\(∀p∈ps,OkC p/\szC p<=400)/\NewQ H [r] H' (λG=>DnAll G xs (ps.map dP))) (λN hN=>?_) ?_
 ·obtain⟨x0,p0,hx0,hp0,dn0⟩:=qz hn4 (j:=xs.length - 1) nofun;obtain⟨b,ys,rfl,eb⟩:=jn dn0;refine s_if _ (ik (eg (ko (ev_v rfl) (pI ev_c rfl) (SqL.of er4) (qy hx0 hlx0)) ev_c (SqT.of eb) (ay (j:=0) rfl)) ev_c) (λH5 s5 z=>?_) λH5 s5 _=>hN _ _ ⟨xs,ps,rfl,k4.trans (ae s5),(tp4.same s5).le nofun,s5 _ _ er4,hpl4,hps4,hn4.same s5⟩;obtain⟨z0,rfl⟩:=mZ (of_decide_eq_true z);obtain⟨l0,rfl⟩:=S_ex z0;obtain⟨_,he,eb⟩:=kO dn0;cases he;have ok0:=hps4 _ (l18 hp0);have hl0:l0.length<=400:=ok0.2;have ha0:Asc l0:=ok0.1.1;have k5:=k4.trans (ae s5);have tp5:=tp4.same s5;have er5:=s5 _ _ er4;have hd:(bM ([32]:List Nat).contains l0).length<=400:=l13 (cM _ l0).length_le hl0;have had:Asc (bM ([32]:List Nat).contains l0):=λc hc=>ha0 c ((cM _ l0).subset hc);have hel:=mI l0 [32];generalize bM ([32]:List Nat).contains l0=l3 at hd had hel;have fin:∀l4:List Nat,Asc l4->l4≠[]->l4.length<=400->∀T,H5 T=none->N [some (V.ref a),some (V.ref t),some (V.ref nm),some (V.ref Ls),some (V.ref r),x5] (upd (upd H5 T (.tup [.str "plain",vS l4])) r (.lst (xs.set (xs.length - 1) (.ref T)))):=λl4 h1 h2 h3 T hT=>by
   have sT:=ac hT (.tup [.str "plain",vS l4]);refine hN _ _ ⟨xs.set (xs.length - 1) (.ref T),ps.set (xs.length - 1) (.one (.plain (S l4))),rfl,λx o hx e=>?_,?_,aa,by rw[l78];omega,λp hp=>?_,kP k5 tp5.ne er5 hT h1 h3 (hn4.same s5)⟩
   ·rw[ad (nq hrH e)];exact sT _ _ (k5 x o hx e)
   ·obtain⟨m',e,m0,m1⟩:=tp5.same sT;exact⟨m',(ad (Ne.symm hrt)).trans e,m0,by omega⟩
   ·rcases List.mem_or_eq_of_mem_set hp with z |z
    ·exact hps4 p z
    ·rw[z];exact⟨⟨h1,h2⟩,h3⟩
  refine yt (yr (a:=l3) (b:=[98]) (zC (yi (a:=l0) (eg (ko (ev_v rfl) (pI ev_c rfl) (SqL.of er5) (qy hx0 hlx0)) ev_c (SqT.of (s5 _ _ eb)) (ay (j:=1) rfl)) nofun) (congrArg V.str hel)) nofun) λT hT=>⟨_,rfl,_,rfl,r,xs,-1,xs.length - 1,rfl,rfl,(ac hT _) _ _ er5,mY hlx0,?_⟩;split
  ·exact fin [98] (aE _ rfl) ∅ ∅ T hT
  ·rename_i hz;exact fin l3 had hz hd T hT
 rintro σ' H5 ⟨xs,ps,rfl,k5,tp5,er5,hpl5,hps5,hn5⟩;exact⟨_,rfl,fin k5 tp5 er5 hpl5 hps5 hn5⟩
end
def CPs (ps:List PC):Prop:=ps.length<=4/\∀p∈ps,OkC p/\szC p<=400
def SPs.c {ps:List PC}(h:SPs ps):CPs ps:=⟨h.2.1,h.2.2⟩
def ceL:List V:=[V.str "-",V.str "---",V.str "--:",V.str ":",V.str "|",V.str "a|b",V.str "\\|",V.str "- -"]
def yu {xs:List V}{i:Int}{n m:Nat}(h:xs.all (λv=>okV n v && !okV 0 v)=true)(hm:xs.length=m)(h0:0<=i)(h1:i < (m:Nat)):∃l,atI xs i=some (vS l)/\Asc l/\l.length<=n/\l≠[]:=by
 obtain⟨v,e,hv⟩:=uf (Pr:=λv=>(okV n v && !okV 0 v)=true) (l49.mp h) h0 (by rw[hm];exact h1);rw[Bool.and_eq_true] at hv;obtain⟨l,rfl,ha,hl⟩:=pH hv.1;exact⟨l,e,ha,hl,λz=>by subst z;exact absurd hv.2 ∅⟩
section
abbrev wa:Stmt:=top 67
inductive spCell (K:Frag)(vs:List V)(H:Hp)(Q:VK)(u3:XK):Prop
 |mk (a t nm:Addr)(ns:List Int)(ls:List (List Nat))(u:Int)(_:vs=[.ref a, .ref t, .ref nm])(_:Drw K a t nm ns ls u H)(_:u<=710000000000)(_:∀v ps H',KeepX t H H'->Tp t (u+710) H'->CPs ps->Dn (dif H H') v (.list (ps.map dP))->Q v H')
def wc {m:Nat}(F:Fun K "_law_cell" "_law_cell" wa f fd)(T:TxD mg)(Da:Def P w K mg base 1 "_law_draw" p8 (spDraw K))(Dh:Def P w K mg base m "_law_parts" p9 (spParts K)):FnOk P w K mg base CX0 (m+2) f fd p9 (spCell K):=by
 have sc:FnScope ["_law_script","_law_tape","_law_names_here","_law_kind"] p9 (ab wa):=mkS;refine F.oks sc λH Q hr h=>?_;obtain⟨a,t,nm,ns,ls,u,rfl,dw,hu1,q⟩:=h;have hs:=sizeLine_eq;refine ak (xbc (xst (i:=3) sc.nd (xcd Da hr (xac (xv 0) (xac (xv 1) (xac xint xa0)))))
  (xbc (xif (aA aI (xv 3) xint (ai _)) (xb1 (xret (xlst xa0))) xb0)
  (xbc (xif (aA aI (xv 3) xint (ai _)) (xb1 (xret (xlst (xac (xtup (xac xstr (xac (xix aO (xlst (xac xstr (xac xstr (xac xstr (xac xstr (xac xstr (xac xstr (xac xstr (xac xstr xa0))))))))) (xcd Da hr (xac (xv 0) (xac (xv 1) (xac xint xa0)))) (λ_ _=>rfl)) xa0))) xa0)))) xb0)
  (xb1 (xret (xcd Dh hr (xac (xv 0) (xac (xv 1) (xac (xv 2) xa0))))))))) ?_
 rw[za];refine ba λU0 eU=>?_;refine⟨_,rfl,_,rfl,a,t,ns,4,u,rfl,dw.sc,dw.tp,by omega,by decide,λkd H1 kd0 kd1 k1 tp1=>?_⟩
 left
 refine eU _ _ _ ?_;refine s_if _ (λR k=>⟨_,rfl,rfl,_,rfl,k _ (Same.refl _)⟩) (λH2 s2 _=>?_) λH2 s2 _=>?_
 ·refine⟨bg0,λr hr0=>?_⟩;have k2:=k1.trans (ae s2);have sn:=ac hr0 (.lst []);have hrt:r≠t:=λz=>by rw[z] at hr0;exact(tp1.same s2).ne hr0
  exact q _ [] _ (k2.trans (ae sn)) (((tp1.same s2).same sn).le nofun) ⟨by decide,λ_ z=>nomatch z⟩ (.lst (by rw[am (ax k2 hrt hr0),aa]) .nil ∅)
 try dsimp only[Ends.to_nx,Ends.to_rt,aY]
 have k2:=k1.trans (ae s2);have tp2:=tp1.same s2;clear s2;refine s_if _ (λR k=>⟨_,rfl,rfl,_,rfl,k _ (Same.refl _)⟩) (λH3 s3 _=>?_) λH3 s3 _=>?_
 ·refine⟨bg8,λLs hLs=>?_⟩;have k3:=k2.trans (ae s3);have tp3:=tp2.same s3;have s4:=ac hLs (.lst ceL);have eL:upd H3 Ls (.lst ceL) Ls=some (.lst ceL):=aa;have hLt:Ls≠t:=λz=>by rw[z] at hLs;exact tp3.ne hLs
  have k4:=k3.trans (ae s4);have tp4:=tp3.same s4;refine⟨_,rfl,_,rfl,a,t,ns,8,_,rfl,dw.sc.keep k4,tp4,by omega,by decide,λd H5 d0 d1 k5 tp5=>?_⟩;obtain⟨st,hst,has,hls,hne⟩:=yu (xs:=ceL) (n:=3) (m:=8) ∅ rfl d0 d1;refine⟨Ls,ceL,d,vS st,rfl,rfl,SqL.of (k5 _ _ hLt eL),hst,?_⟩;have k45:=k4.trans k5;refine⟨bg2,λT0 hT=>⟨bg1,λr hr0=>?_⟩⟩;have sT:=ac hT (.tup [V.str "plain",vS st]);have tpT:=tp5.same sT;have hTt:T0≠t:=λz=>by rw[z] at hT;exact tp5.ne hT
  have hrt:r≠t:=λz=>by rw[z] at hr0;exact tpT.ne hr0
  have hTr:T0≠r:=λz=>by rw[<- z] at hr0;exact absurd aa (by rw[hr0];exact λz=>nomatch z)
  have kT:=k45.trans (ae sT);have sr:=ac hr0 (.lst [.ref T0]);refine q _ [.one (.plain (S st))] _ (kT.trans (ae sr)) ((tpT.same sr).le nofun) ⟨by show 1<=4;decide,λp hp=>?_⟩ ?_
  ·rw[l14.mp hp];exact⟨⟨has,hne⟩,by show st.length<=400;omega⟩
  ·refine .lst (by rw[am (ax kT hrt hr0),aa]) (.cons (.tup (by rw[am (ax k45 hTt hT),ad hTr,aa]) (.cons (dn_k ∅) (.cons (dq has nofun).dn .nil))) .nil) (by show 1<=_;decide)
 ·have k3:=k2.trans (ae s3);have tp3:=tp2.same s3;exact⟨_,rfl,_,rfl,_,rfl,a,t,nm,ns,ls,_,rfl,dw.go k3 tp3 nofun,by omega,λr ps H4 k4 tp4 hp dn=>q _ ps _ (k3.trans k4) (tp4.le nofun) hp.c (dn.same (bw tp3.ne k3))⟩
end
def CCs (cs:List (List PC)):Prop:=cs.length<=3/\∀ps∈cs,CPs ps
section
abbrev mq:Stmt:=top 68
inductive spCells (K:Frag)(vs:List V)(H:Hp)(Q:VK)(u3:XK):Prop
 |mk (a t nm:Addr)(ns:List Int)(ls:List (List Nat))(u:Int)(j5:Nat)(_:vs=[.ref a, .ref t, .ref nm, .int j5])(_:Drw K a t nm ns ls u H)(_:u<=700000000000)(_:j5<=3)(_:∀r cs H',KeepX t H H'->Tp t (u+2200) H'->cs.length=j5->CCs cs->Dn (dif H H') (.ref r) (bI cs)->Q (.ref r) H')
def qB {m:Nat}(F:Fun K "_law_cells" "_law_cells" mq f fd)(T:TxD mg)(Yi:Def P w K mg base m "_law_cell" p9 (spCell K)):FnOk P w K mg base CX0 (m+2) f fd p34 (spCells K):=by
 have sc:FnScope p34 p34 (ab mq):=mkS;refine F.oks sc λ{_ _ _ s _ _}H Q hr h=>?_;obtain⟨a,t,nm,ns,ls,u,j5,rfl,dw,hu1,hm3,q⟩:=h;have hs:=sizeLine_eq;refine ak (xb1 (xret (xlc (cl:=[("_law_tape",s.heap.objs.size+2),("_law_script",s.heap.objs.size+1),("_law_names_here",s.heap.objs.size+3)]) (own:=["_law_k"]) (fr:=[0,1,2]) (N':=["_law_k","_law_script","_law_tape","_law_names_here"]) rfl (eZ (xs:=p9) ⟨rfl,⟨rfl,⟨rfl,trivial⟩⟩⟩ ⟨rfl,rfl, .inl rfl, .inl rfl,⟨rfl,rfl, .inl rfl, .inl rfl,⟨rfl,rfl, .inl rfl, .inl rfl,trivial⟩⟩⟩ ∅) ∅ ∅ (by with_unfolding_all rfl)
  (xir1 rfl T.u11 (xac (xv 3) xa0))
  (λ_ _ _ _=>xgm (i:=0) (show (["_law_k","_law_script","_law_tape","_law_names_here"]:List Str).Nodup by decide)) (λ_ _ _ _=>xq0) (λ_ _ _ _=>(xcd Yi hr (xac (xv 1) (xac (xv 2) (xac (xv 3) xa0)))))))) ?_
 rw[zb];refine⟨_,rfl,_,rfl,by omega,by omega,?_⟩;rw[l37];refine ml (α:=List PC) t u 710 (λps => .list (ps.map dP)) CPs nofun dw.tp ?_ ?_
 ·intro i hi H1 k1 tp1 C N hC;refine⟨(nfLe.refl _ _ _).set ∅ _,iteT (B:=N H1) ⟨_,rfl,_,rfl,_,rfl,a,t,nm,ns,ls,_,rfl,dw.go k1 tp1 nofun,by omega,λv ps H2 k2 tp2 hp dv=>hC v ps H2 k2 tp2 hp dv⟩⟩
 ·intro D H1 ys cs hD k1 tp1 e1 hl hok hn;refine q D cs H1 k1 (tp1.le nofun) hl ⟨by omega,hok⟩ ?_;exact .lst (by rw[am hD,e1]) (hn.dif cv) (by rw[(hn.dif cv).len,l5];omega)
end
def TbOk (hd:List (List PC))(sd:List Bool)(ls:List (List (List PC))):Prop:=CCs hd/\sd.length<=3/\ls.length<=3/\(∀l∈ls,CCs l)/\(hd=[]->1<=ls.length)
def dSd (sd:List Bool):PyData := .list (sd.map λb => .str (S (cr b)))
def dTb (hd:List (List PC))(sd:List Bool)(ls:List (List (List PC))):PyData := .tuple [.str "table",bI hd,dSd sd, .list (ls.map bI)]
def aZ {G:Hp}{v:V}{ds:List PyData}(h:Dn G v (.list ds)):∃a xs,v = .ref a/\G a=some (.lst xs)/\DnAll G xs ds:=by
 cases h with |lst e r _=>exact⟨_,_,rfl,e,r⟩
section
abbrev m3:Stmt:=top 69
inductive spTable (K:Frag)(vs:List V)(H:Hp)(Q:VK)(u3:XK):Prop
 |mk (a t nm:Addr)(ns:List Int)(ls:List (List Nat))(u:Int)(_:vs=[.ref a, .ref t, .ref nm])(_:Drw K a t nm ns ls u H)(_:u<=690000000000)(_:∀v hd sd ls H',KeepX t H H'->Tp t (u+9000) H'->TbOk hd sd ls->Dn (dif H H') v (dTb hd sd ls)->Q v H')
def tD {m:Nat}(F:Fun K "_law_table" "_law_table" m3 f fd)(T:TxD mg)(Da:Def P w K mg base 1 "_law_draw" p8 (spDraw K))(DM:Def P w K mg base m "_law_cells" p34 (spCells K)):FnOk P w K mg base CX0 (m+2) f fd p9 (spTable K):=by
 have sc:FnScope ["_law_script","_law_tape","_law_names_here","_law_many","_law_head","_law_sides","_law_lines","_law_k"] p9 (ab m3):=mkS;refine F.oks sc λ{cdv A _ s _ _}H Q hr h=>?_;obtain⟨a,t,nm,ns,ls,u,rfl,dw,hu1,q⟩:=h;have hs:=sizeLine_eq;have hu:(A.deeper (PyProof.Rows.envOfC "_law_table" (ab m3) s.heap.objs.size f cdv)).units+64 < cLine:=by
  have:=hr.un;omega
 refine ak (xbc (xst (i:=3) sc.nd (xop bp xint (xcd Da hr (xac (xv 0) (xac (xv 1) (xac xint xa0))))))
  (xbc (xst (i:=4) sc.nd (xlst xa0))
  (xbc (xst (i:=5) sc.nd (xlst xa0))
  (xbc (xif (aA aI (xcd Da hr (xac (xv 0) (xac (xv 1) (xac xint xa0)))) xint (ai _)) (xbc (xst (i:=4) sc.nd (xcd DM hr (xac (xv 0) (xac (xv 1) (xac (xv 2) (xac (xv 3) xa0))))))
  (xb1 (xslc (i:=5) sc.nd rfl rfl (cl:=[("_law_tape",s.heap.objs.size+2),("_law_script",s.heap.objs.size+1)]) (own:=["_law_k"]) (fr:=[0,1]) (N':=["_law_k","_law_script","_law_tape"]) rfl (eZ (xs:=p16) ⟨rfl,⟨rfl,trivial⟩⟩ ⟨rfl,rfl, .inl rfl, .inl rfl,⟨rfl,rfl, .inl rfl, .inl rfl,trivial⟩⟩ ∅) ∅ ∅ (by with_unfolding_all rfl)
  (xir1 rfl T.u11 (xac (xv 3) xa0))
  (λ_ _ _ _=>xgm (i:=0) (show (["_law_k","_law_script","_law_tape"]:List Str).Nodup by decide)) (λ_ _ _ _=>xq0) (λ_ _ _ _=>(xix rY (xlst (xac xstr (xac xstr xa0))) (xcd Da hr (xac (xv 1) (xac (xv 2) (xac xint xa0)))) (λ_ _=>rfl)))))) xb0)
  (xbc (xst (i:=6) sc.nd (xlst xa0))
  (xbc (xfor PassesOwn.never rfl (xir1 rfl T.u11 (xac (xop bp (xcTy oO T.g16 rfl (xac (xcmp (pM hu) (xv 4) (xlst xa0) (ai _)) xa0)) (xcd Da hr (xac (xv 0) (xac (xv 1) (xac xint xa0))))) xa0)) (xgm (i:=7) sc.nd)
  (xb1 (bo (xmA (xv 6) (xac (xcd DM hr (xac (xv 0) (xac (xv 1) (xac (xv 2) (xac (xv 3) xa0))))) xa0)))))
  (xb1 (xret (xtup (xac xstr (xac (xv 4) (xac (xv 5) (xac (xv 6) xa0))))))))))))) ?_
 rw[xD];refine⟨_,rfl,_,rfl,a,t,ns,3,u,rfl,dw.sc,dw.tp,by omega,by decide,λd H1 d0 d1 k1 tp1=>⟨_,_,rfl,rfl,?_⟩⟩;obtain⟨dn,rfl⟩:∃dn:Nat,d=(dn:Int):=⟨d.toNat,(l40 d0).symm⟩
 left
 rw[show (1:Int)+(dn:Nat)=((1+dn:Nat):Int) from rfl];have hm1:1<=1+dn/\1+dn<=3:=by omega
 generalize 1+dn=j5 at hm1 ⊢;refine⟨bg0,λhb hhb=>?_⟩;have s2:=ac hhb (.lst []);have e2:upd H1 hb (.lst []) hb=some (.lst []):=aa
 left
 generalize upd H1 hb (.lst [])=H2 at s2 e2 ⊢;refine⟨bg0,λsb hsb=>?_⟩;have s3:=ac hsb (.lst []);have e3:upd H2 sb (.lst []) sb=some (.lst []):=aa
 left
 generalize upd H2 sb (.lst [])=H3 at s3 e3 ⊢;have k2:=k1.trans (ae s2);have k3:=k2.trans (ae s3);have tp3:=(tp1.same s2).same s3;have hbt:hb≠t:=λz=>by rw[z] at hhb;exact tp1.ne hhb
 have hst:sb≠t:=λz=>by rw[z] at hsb;exact(tp1.same s2).ne hsb
 have dh:Dn (dif H H3) (.ref hb) (bI []) := .lst (by rw[am (ax k1 hbt hhb)];exact s3 _ _ e2) .nil ∅;have ds:Dn (dif H H3) (.ref sb) (dSd []) := .lst (by rw[am (ax k2 hst hsb)];exact e3) .nil ∅;refine cq (λσ' H'=>∃(hb sb:Addr) (hd:List (List PC)) (sd:List Bool),σ'=[some (V.ref a),some (V.ref t),some (V.ref nm),some (V.int j5),some (V.ref hb),some (V.ref sb),none,none]/\KeepX t H H'/\Tp t (u+2300) H'/\CCs hd/\sd.length<=3/\Dn (dif H H') (.ref hb) (bI hd)/\Dn (dif H H') (.ref sb) (dSd sd)) (λN hN=>?_) ?_
 ·refine⟨_,rfl,_,rfl,a,t,ns,2,_,rfl,dw.sc.keep k3,tp3,by omega,by decide,λe H4 e0 e1 k4 tp4=>⟨rfl,_,rfl,?_⟩⟩;have k34:=k3.trans k4;refine ite2 (λ_=>?_) (λ_=>hN _ _ ⟨hb,sb,[],[],rfl,k34,tp4.le nofun,⟨by decide,λ_ z=>nomatch z⟩,by decide,dh.same (cz dw.tp.ne k4),ds.same (cz dw.tp.ne k4)⟩);refine⟨_,rfl,_,rfl,_,rfl,_,rfl,a,t,nm,ns,ls,_,j5,rfl,dw.go k34 tp4 nofun,by omega,hm1.2,λhb' cs H5 k5 tp5 hl5 hc5 dc5=>?_⟩
  left
  have k35:=k34.trans k5;refine⟨_,rfl,_,rfl,by omega,by omega,?_⟩;rw[l37];refine ml (α:=Bool) t _ 1 (λb => .str (S (cr b))) (λ_=>True) nofun tp5 ?_ ?_
  ·intro i hi H6 k6 tp6 C N' hC;refine⟨(nfLe.refl _ _ _).set ∅ _,iteT (B:=N' H6) ⟨bg2,λo ho=>?_⟩⟩;have so:=ac ho (.lst [V.str "left",V.str "right"]);have eo:upd H6 o (.lst [V.str "left",V.str "right"]) o=some (.lst [V.str "left",V.str "right"]):=aa;have hot:o≠t:=λz=>by rw[z] at ho;exact tp6.ne ho
   have k36:=(k35.trans k6).trans (ae so);refine⟨_,rfl,_,rfl,a,t,ns,2,_,rfl,dw.sc.keep k36,tp6.same so,by omega,by decide,λe H8 e0 e1 k8 tp8=>?_⟩;obtain⟨b,hat⟩:∃b:Bool,atI [V.str "left",V.str "right"] e=some (vS (cr b)):=by
    have:e=0 ∨ e=1:=by omega
    rcases this with z |z
    ·exact⟨false,by rw[z];exact ay (j:=0) rfl⟩
    ·exact⟨true,by rw[z];exact ay (j:=1) rfl⟩
   refine⟨o,_,e,vS (cr b),rfl,rfl,SqL.of (k8 _ _ hot eo),hat,hC _ b H8 ((ae so).trans k8) tp8 trivial ?_⟩;exact(dq (l:=cr b) (by cases b <;> exact aE _ rfl) (by cases b <;> decide)).dn
  ·intro D H6 ys sd hD k6 tp6 e6 hl6 _ hn6;have dsd:Dn (dif H5 H6) (.ref D) (dSd sd) := .lst (by rw[am hD,e6]) (hn6.dif cv) (by rw[(hn6.dif cv).len,l5];omega);exact hN _ _ ⟨hb',D,cs,sd,rfl,k35.trans k6,tp6.le nofun,hc5,by omega,(dc5.same (bw tp4.ne k34)).same (cz dw.tp.ne k6),dsd.same (bw tp5.ne k35)⟩
 rintro σ' H4 ⟨hb,sb,hd,sd,rfl,k4,tp4,hhd,hsd,dh,ds⟩;refine⟨bg0,λr hr0=>?_⟩;have hrt:r≠t:=λz=>by rw[z] at hr0;exact tp4.ne hr0
 have hrH:=ax k4 hrt hr0;have s5:=ac hr0 (.lst []);have e5:upd H4 r (.lst []) r=some (.lst []):=aa;have n5:NewQ H [r] (upd H4 r (.lst [])) λG=>(Dn G (.ref hb) (bI hd)/\Dn G (.ref sb) (dSd sd))/\DnAll G [] (([]:List (List (List PC))).map bI):=⟨dif H H4,dif_same.trans s5,λb hb=>by rw[l14.mp hb,am hrH];exact hr0,λb hb=>bg hb,⟨dh,ds⟩, .nil⟩
 left
 generalize upd H4 r (.lst [])=H5 at s5 e5 n5 ⊢;have k5:=k4.trans (ae s5);have tp5:=tp4.same s5;obtain⟨hb',xh,ee,eh,dxh⟩:=aZ (dh.out.same s5);cases ee;refine⟨_,rfl,bg0,λo ho=>?_⟩;have so:=ac ho (.lst []);have eo:upd H5 o (.lst []) o=some (.lst []):=aa;have hor:r≠o:=λz=>by rw[<- z,e5] at ho;cases ho
 generalize upd H5 o (.lst [])=H6 at so eo ⊢;have k6:=k5.trans (ae so);refine⟨hb,o,_,rfl,rfl,SqL.of (so _ _ eh),SqL.of eo, .inr ⟨_,rfl,?_⟩⟩;refine⟨_,rfl,_,rfl,a,t,ns,3,_,rfl,dw.sc.keep k6,tp5.same so,by omega,by decide,λe H7 e0 e1 k7 tp7=>?_⟩;obtain⟨cn,hcn,hcn3⟩:∃cn:Nat,((if xh.isEmpty=true then 1 else 0:Int)+e)=(cn:Int)/\cn<=3:=by
  refine⟨((if xh.isEmpty=true then 1 else 0:Int)+e).toNat,?_,?_⟩ <;> split <;> omega
 refine⟨_,_,rfl,rfl,(cn:Int),congrArg (λz=>[V.int z]) hcn,by omega,by omega,?_⟩;rw[l37];have k67:=k6.trans k7;have e7:=k7 _ _ hrt (so _ _ e5);have n7:=NewQ.keep (n5.same so) dw.tp.ne k7;refine bO (n:=cn) (λi σ H'=>∃(xs:List V) (ls:List (List (List PC))) (x7:Option V),σ=[some (V.ref a),some (V.ref t),some (V.ref nm),some (V.int j5),some (V.ref hb),some (V.ref sb),some (.ref r),x7]/\KeepX t H H'/\Tp t (u+2301+2200 * i) H'/\H' r=some (.lst xs)/\ls.length=i/\(∀l∈ls,CCs l)/\NewQ H [r] H' (λG=>(Dn G (.ref hb) (bI hd)/\Dn G (.ref sb) (dSd sd))/\DnAll G xs (ls.map bI)))
  ⟨[],[],none,rfl,k67,tp7.le nofun,e7,rfl,(λ_ z=>nomatch z),n7⟩ ?_ ?_
 ·rintro i σ H8 hi ⟨xs,ls,x7,rfl,k8,tp8,e8,hl8,hc8,n8⟩;have hxl:xs.length=i:=by
   obtain⟨G,_,_,_,_,e⟩:=n8;rw[e.len,l5,hl8]
  refine⟨_,rfl, .inl ⟨rfl,_,SqL.of e8⟩,_,rfl,_,rfl,_,rfl,_,rfl,a,t,nm,ns,_,_,j5,rfl,dw.go k8 tp8 nofun,by omega,hm1.2,λv cs H9 k9 tp9 hl9 hc9 dc9=>?_⟩;have e9:=k9 _ _ hrt e8;refine⟨r,xs, .ref v,rfl,rfl,e9,by rw[hs];omega,?_⟩;refine⟨xs++[.ref v],ls++[cs],_,rfl,λx o hx e=>?_,?_,aa,by rw[l6,hl8];rfl,λl hl=>?_,?_⟩
  ·exact(ad (nq hrH e)).trans ((k8.trans k9) x o hx e)
  ·obtain⟨m',e,m0,m1⟩:=tp9;exact⟨m',(ad (Ne.symm hrt)).trans e,m0,by omega⟩
  ·rcases l24.mp hl with z |z
   ·exact hc8 l z
   ·rw[l14.mp z];exact hc9
  ·rw[l17];refine NewQ.upd ?_ l10;exact NewQ.join (NewQ.keep n8 dw.tp.ne k9) (NewQ.ofK (H3:=H8) (R:=λG=>Dn G (.ref v) (bI cs)) k8 tp8.ne (λb hb=>by rw[l14.mp hb,e8];exact λz=>nomatch z) dc9) (λG G' s h=>⟨⟨h.1.1.same s,h.1.2.same s⟩,h.2.same s⟩) qq λG h1 h2=>⟨h1.1,fW h1.2 h2⟩
 ·rintro σ H8 ⟨xs,ls,x7,rfl,k8,tp8,e8,hl8,hc8,n8⟩;refine⟨_,rfl,_,rfl,_,rfl,bg4,λt0 ht0=>?_⟩;have s9:=ac ht0 (.tup [V.str "table", .ref hb, .ref sb, .ref r]);have ht0t:t0≠t:=λz=>by rw[z] at ht0;exact tp8.ne ht0
  have mo:Mo λG=>(Dn G (.ref hb) (bI hd)/\Dn G (.ref sb) (dSd sd))/\DnAll G xs (ls.map bI):=λG G' s h=>⟨⟨h.1.1.same s,h.1.2.same s⟩,h.2.same s⟩;obtain⟨⟨dh9,ds9⟩,da9⟩:=mo _ _ (aX (Same.refl H) s9) (n8.dif mo);refine q _ hd sd ls _ (k8.trans (ae s9)) ((tp8.same s9).le nofun) ⟨hhd,hsd,by omega,hc8,λz=>?_⟩ ?_
  ·rw[z] at dxh;rw[l85 dxh.len] at hcn;have:(1:Int)+e=cn:=hcn;omega
  refine .tup (by rw[am (ax k8 ht0t ht0),aa]) (.cons (dn_k ∅) (.cons dh9 (.cons ds9 (.cons (.lst (by rw[am hrH];exact s9 _ _ e8) da9 ?_) .nil))));rw[da9.len,l5];omega
end
def GE:(n:Nat)->En n->Prop
 |0,e=>nomatch e
 |n+1,e=>SPs (EnF.parts e)/\(EnF.within e).length<=2/\∀x∈EnF.within e,GE n x
def cE:Nat->Int
 |0=>0
 |n+1=>2 * cE n+3000
def ur:∀n,0<=cE n
 |0=>by decide
 |n+1=>by have:=ur n;show 0<=2 * cE n+3000;omega
section
abbrev we:Stmt:=top 70
inductive spEnts (K:Frag)(n:Nat)(vs:List V)(H:Hp)(Q:VK)(u3:XK):Prop
 |mk (a t nm:Addr)(ns:List Int)(ls:List (List Nat))(u:Int)(_:vs=[.ref a, .ref t, .ref nm, .int n])(_:Drw K a t nm ns ls u H)(_:u+cE n<=700000000000)(_:∀r (es:List (En n)) H',KeepX t H H'->Tp t (u+cE n) H'->es.length<=2->1<=es.length->(∀e∈es,GE n e)->Dn (dif H H') (.ref r) (.list (es.map (dE n)))->Q (.ref r) H')
def qC {m n:Nat}{spI:Sp}(F:Fun K "_law_entries" "_law_entries" we f fd)(T:TxD mg)(Da:Def P w K mg base 1 "_law_draw" p8 (spDraw K))(Dh:Def P w K mg base m "_law_parts" p9 (spParts K))
  (Yj:Def P w K mg base m "_law_entries" p10 spI)(hI:0 < n->∀vs H Q E,spEnts K n vs H Q E->spI vs H Q E):FnOk P w K mg base CX0 (m+2) f fd p10 (spEnts K (n+1)):=by
 have sc:FnScope ["_law_script","_law_tape","_law_names_here","_law_room","_law_found","_law_k","_law_parts_here","_law_within"] p10 (ab we):=mkS;refine F.oks sc λH Q hr h=>?_;obtain⟨a,t,nm,ns,ls,u,rfl,dw,hu1,q⟩:=h;have hs:=sizeLine_eq;have hc0:=ur n;have hu1:u+(2 * cE n+3000)<=700000000000:=hu1;refine ak (xbc (xst (i:=4) sc.nd (xlst xa0))
  (xbc (xfor PassesOwn.never rfl (xir1 rfl T.u11 (xac (xop bp xint (xcd Da hr (xac (xv 0) (xac (xv 1) (xac xint xa0))))) xa0)) (xgm (i:=5) sc.nd)
  (xbc (xst (i:=6) sc.nd (xcd Dh hr (xac (xv 0) (xac (xv 1) (xac (xv 2) xa0)))))
  (xbc (xst (i:=7) sc.nd (xlst xa0))
  (xbc (xif (xand (aA jG (xv 3) xint (ai _)) (ie (aA jG (xcd Da hr (xac (xv 0) (xac (xv 1) (xac xint xa0)))) xint (ai _)))).xt (xb1 (xst (i:=7) sc.nd (xcd Yj hr (xac (xv 0) (xac (xv 1) (xac (xv 2) (xac (xop iA (xv 3) xint) xa0))))))) xb0)
  (xb1 (bo (xmA (xv 4) (xac (xtup (xac (xix aO (xlst (xac xstr (xac xstr xa0))) (xcd Da hr (xac (xv 0) (xac (xv 1) (xac xint xa0)))) (λ_ _=>rfl)) (xac (xv 6) (xac (xv 7) xa0)))) xa0))))))))
  (xb1 (xret (xv 4))))) ?_
 rw[xE];refine ba λU0 eU=>?_;refine⟨bg0,λr hr0=>?_⟩;have hrt:r≠t:=λz=>by rw[z] at hr0;exact dw.tp.ne hr0
 have s1:=ac hr0 (.lst []);have e1:upd H r (.lst []) r=some (.lst []):=aa
 left
 refine eU _ _ _ ?_;generalize upd H r (.lst [])=H1 at s1 e1 ⊢;have k1:KeepX t H H1:=ae s1;refine⟨_,rfl,_,rfl,a,t,ns,2,_,rfl,dw.sc.keep k1,dw.tp.same s1,by omega,by decide,λd H2 d0 d1 k2 tp2=>?_⟩;obtain⟨dn,rfl⟩:∃dn:Nat,d=(dn:Int):=⟨d.toNat,(l40 d0).symm⟩;refine⟨_,_,rfl,rfl,((1+dn:Nat):Int),rfl,by omega,by omega,?_⟩;rw[l37];have k12:=k1.trans k2;refine bO (n:=1+dn) (λi σ H'=>∃(xs:List V) (es:List (En (n+1))) (x5 x6 x7:Option V),σ=[some (V.ref a),some (V.ref t),some (V.ref nm),some (V.int ((n+1:Nat):Int)),some (.ref r),x5,x6,x7]/\KeepX t H H'/\Tp t (u+1+(cE n+1000) * i) H'/\H' r=some (.lst xs)/\es.length=i/\(∀e∈es,GE (n+1) e)/\NewQ H [r] H' (λG=>DnAll G xs (es.map (dE (n+1)))))
  ⟨[],[],none,none,none,rfl,k12,tp2.le (by simp),k2 _ _ hrt e1,rfl,(λ_ z=>nomatch z),NewQ.triv .nil⟩ ?_ ?_
 ·rintro i σ H3 hi ⟨xs,es,x5,x6,x7,rfl,k3,tp3,e3,hl3,hg3,n3⟩;have hxl:xs.length=i:=by
   obtain⟨G,_,_,_,e⟩:=n3;rw[e.len,l5,hl3]
  have hmul0:0<=(cE n+1000) * i:=l68 nofun nofun;have hmul:(cE n+1000) * i<=cE n+1000:=by
   have:i=0 ∨ i=1:=by omega
   rcases this with z |z
   ·rw[z];simp;omega
   ·rw[z];simp
  have hle:u+1+(cE n+1000) * i+(cE n+999)<=700000000000:=by omega
  have hadd:(cE n+1000) * ((i+1:Nat):Int)=(cE n+1000) * i+(cE n+1000):=by
   have:((i+1:Nat):Int)=(i:Nat)+1:=by omega
   rw[this,Int.mul_add,Int.mul_one]
  generalize (cE n+1000) * (i:Int)=mu at hmul hmul0 hle hadd tp3;refine⟨_,rfl,_,rfl,_,rfl,a,t,nm,ns,ls,_,rfl,dw.go k3 tp3 nofun,by omega,λpr ps H4 k4 tp4 hps dps=>?_⟩
  left
  have k34:=k3.trans k4;refine⟨bg0,λw0 hw0=>?_⟩;have s5:=ac hw0 (.lst []);have e5:upd H4 w0 (.lst []) w0=some (.lst []):=aa;have hwt:w0≠t:=λz=>by rw[z] at hw0;exact tp4.ne hw0
  have dw0:Dn (dif H3 (upd H4 w0 (.lst []))) (.ref w0) (.list (([]:List (En n)).map (dE n))) := .lst (by rw[am (ax k4 hwt hw0),aa]) .nil ∅
  left
  have dps:=dps.same (aX (Same.refl H3) s5);generalize upd H4 w0 (.lst [])=H5 at s5 e5 dw0 dps ⊢;have k45:=k4.trans (ae s5);have k35:=k3.trans k45;have tp5:=tp4.same s5;refine cq (λσ' H'=>∃(wr:Addr) (ws:List (En n)),σ'=[some (V.ref a),some (V.ref t),some (V.ref nm),some (V.int ((n+1:Nat):Int)),some (.ref r),some (.int (0+(i:Int))),some (.ref pr),some (.ref wr)]/\KeepX t H3 H'/\Tp t (u+1+mu+701+cE n) H'/\ws.length<=2/\(∀x∈ws,GE n x)/\Dn (dif H3 H') (.ref wr) (.list (ws.map (dE n)))/\Dn (dif H3 H') (.ref pr) (.list (ps.map dP))) (λN hN=>?_) ?_
  ·have none_:∀H',KeepX t H5 H'->Tp t (u+1+mu+701) H'->N [some (V.ref a),some (V.ref t),some (V.ref nm),some (V.int ((n+1:Nat):Int)),some (.ref r),some (.int (0+(i:Int))),some (.ref pr),some (.ref w0)] H':=λH' k' tp'=>hN _ _ ⟨w0,[],rfl,k45.trans k',tp'.le nofun,l16 _,(λ_ z=>nomatch z),dw0.same (cz tp3.ne k'),dps.same (cz tp3.ne k')⟩;refine⟨_,rfl,_,_,rfl,rfl,_,rfl,?_⟩;refine ite2 (λc=>?_) (λ_=>iteF (none_ H5 (ae (Same.refl _)) (tp5.le nofun)));have c:(1:Int) < ((n+1:Nat):Int):=of_decide_eq_true c;refine⟨_,rfl,_,rfl,a,t,ns,5,_,rfl,dw.sc.keep k35,tp5,by omega,by decide,λe H6 e0 e1 k6 tp6=>⟨_,_,rfl,rfl,_,rfl,?_⟩⟩;refine ite2 (λ_=>?_) (λ_=>none_ H6 k6 (tp6.le nofun));refine⟨_,rfl,_,rfl,_,rfl,_,rfl,_,_,rfl,rfl,hI nofun _ _ _ _ ⟨a,t,nm,ns,ls,_,?_,dw.go (k35.trans k6) tp6 nofun,by omega,λwr ws H7 k7 tp7 hw7 _ hg7 dw7=>?_⟩⟩
   ·show [V.ref a,V.ref t,V.ref nm,V.int (((n+1:Nat):Int) - 1)]=_;rw[show ((n+1:Nat):Int) - 1=(n:Nat) by omega]
   ·exact hN _ _ ⟨wr,ws,rfl,(k45.trans k6).trans k7,tp7.le nofun,hw7,hg7,dw7.same (bw tp6.ne (k45.trans k6)),dps.same (cz tp3.ne (k6.trans k7))⟩
  rintro σ' H6 ⟨wr,ws,rfl,k6,tp6,hw6,hg6,dw6,dp6⟩;have e6:=k6 _ _ hrt e3;refine⟨_,rfl, .inl ⟨rfl,_,SqL.of e6⟩,bg2,λo ho=>?_⟩;have so:=ac ho (.lst [V.str "-",V.str "+"]);have eo:upd H6 o (.lst [V.str "-",V.str "+"]) o=some (.lst [V.str "-",V.str "+"]):=aa;have hot:o≠t:=λz=>by rw[z] at ho;exact tp6.ne ho
  have k7:=k6.trans (ae so);refine⟨_,rfl,_,rfl,a,t,ns,2,_,rfl,dw.sc.keep (k3.trans k7),tp6.same so,by omega,by decide,λe H8 e0 e1 k8 tp8=>?_⟩;obtain⟨b,hat⟩:∃b:Bool,atI [V.str "-",V.str "+"] e=some (vS (cw b)):=by
   have:e=0 ∨ e=1:=by omega
   rcases this with z |z
   ·exact⟨false,by rw[z];exact ay (j:=0) rfl⟩
   ·exact⟨true,by rw[z];exact ay (j:=1) rfl⟩
  have k78:=k7.trans k8;have e8:=k78 _ _ hrt e3;refine⟨o,_,e,vS (cw b),rfl,rfl,SqL.of (k8 _ _ hot eo),hat,_,rfl,_,rfl,bg3,λT0 hT=>?_⟩;have sT:=ac hT (.tup [vS (cw b), .ref pr, .ref wr]);have hTt:T0≠t:=λz=>by rw[z] at hT;exact tp8.ne hT
  have k9:=k78.trans (ae sT);have dT:Dn (dif H3 (upd H8 T0 (.tup [vS (cw b), .ref pr, .ref wr]))) (.ref T0) (dE (n+1) ⟨b,ps,ws⟩):=by
   refine .tup (by rw[am (ax k78 hTt hT),aa]) (.cons ?_ (.cons (dp6.same ?_) (.cons (dw6.same ?_) .nil)))
   ·exact(dq (l:=cw b) (by cases b <;> exact aE _ rfl) (by cases b <;> decide)).dn
   ·exact cz tp3.ne (((ae so).trans k8).trans (ae sT))
   ·exact cz tp3.ne (((ae so).trans k8).trans (ae sT))
  have tp9:=tp8.same sT;refine⟨r,xs, .ref T0,rfl,rfl,sT _ _ e8,by rw[hs];omega,?_⟩;refine⟨xs++[.ref T0],es++[⟨b,ps,ws⟩],_,_,_,rfl,λx o hx e=>?_,?_,aa,by rw[l6,hl3];rfl,λx hx=>?_,?_⟩
  ·exact(ad (nq hr0 e)).trans ((k3.trans k9) x o hx e)
  ·obtain⟨m',e,m0,m1⟩:=tp9;exact⟨m',(ad (Ne.symm hrt)).trans e,m0,by rw[hadd];omega⟩
  ·rcases l24.mp hx with z |z
   ·exact hg3 x z
   ·rw[l14.mp z];exact⟨hps,hw6,hg6⟩
  ·rw[l17];refine NewQ.upd ?_ l10;exact NewQ.join (NewQ.keep n3 dw.tp.ne k9) (NewQ.ofK (H3:=H3) (R:=λG=>Dn G (.ref T0) (dE (n+1) ⟨b,ps,ws⟩)) k3 tp3.ne (λb hb=>by rw[l14.mp hb,e3];exact λz=>nomatch z) dT) cv qq λG h1 h2=>fW h1 h2
 ·rintro σ H3 ⟨xs,es,x5,x6,x7,rfl,k3,tp3,e3,hl3,hg3,n3⟩;refine⟨_,rfl,q r es H3 k3 (tp3.le ?_) nofun nofun hg3 (.lst (by rw[am hr0,e3]) (n3.dif cv) (by rw[(n3.dif cv).len,l5];omega))⟩;show _<=u+(2 * cE n+3000);have:dn=0 ∨ dn=1:=by omega
  rcases this with z |z
  ·rw[z];simp;omega
  ·rw[z];have:(cE n+1000) * ((1+1:Nat):Int)=2 * cE n+2000:=by
    show (cE n+1000) * 2=_;omega
   omega
end
def liL:List V:=[V.str "",V.str " ",V.str "x",V.str "> y",V.str "~~~~",V.str " ~~~",V.str "~~~ z",V.str "- a",V.str "  b  ",V.str "= c",V.str "|d|",V.str "\\",V.str ">",V.str "[a]: b",V.str "  "]
def GL (ls:List (List Nat)):Prop:=ls.length<=3/\∀l∈ls,Asc l/\l.length<=100
def dLi (ls:List (List Nat)):PyData := .tuple [.str "literal", .list (ls.map λl => .str (S l))]
theorem ut {G:Hp}:∀{ls:List (List Nat)},(∀l∈ls,Asc l/\l.length<=1000)->DnAll G (ls.map vS) (ls.map λl => .str (S l))
 | [],_ => .nil
 |l::ls,h => .cons (dq (h l l10).1 (by have:=(h l l10).2;omega)).dn (ut λx hx=>h x (l15 _ hx))
def wf {ta:TE}{σ:St}{H:Hp}{a b:List Nat}{y z:Str}(h:Ev ta σ H (vS a))(hl:a.length<=1000000)(e:Txt.replace (S a) y z=S b):Ev (λσ H Q=>ta σ H λx H1=>∃w,x = .str w/\w.length<=1000000/\Q (.str (Txt.replace w y z)) H1) σ H (vS b):=λR r=>h _ ⟨_,rfl,by rw[aw];exact hl,by rw[e];exact r⟩
section
abbrev sLit:Stmt:=top 71
inductive spLit (K:Frag)(vs:List V)(H:Hp)(Q:VK)(u3:XK):Prop
 |mk (a t:Addr)(ns:List Int)(u:Int)(_:vs=[.ref a, .ref t])(_:Scr K t ns a H)(_:Tp t u H)(_:u<=700000000000)(_:∀v ls H',KeepX t H H'->Tp t (u+200) H'->GL ls->Dn (dif H H') v (dLi ls)->Q v H')
def yw (F:Fun K "_law_literal" "_law_literal" sLit f fd)(T:TxD mg)(Da:Def P w K mg base 1 "_law_draw" p8 (spDraw K))(Dg:Def P w K mg base 2 "_law_text" p25 (spText K)):FnOk P w K mg base CX0 3 f fd p16 (spLit K):=by
 have sc:FnScope ["_law_script","_law_tape","_law_some_here","_law_lines","_law_k","_law_line","_law_text_here"] p16 (ab sLit):=mkS;refine F.oks sc λH Q hr h=>?_;obtain⟨a,t,ns,u,rfl,hsc,htp,hu1,q⟩:=h;have hs:=sizeLine_eq;refine ak (xbc (xst (i:=2) sc.nd (xlst (xac xstr (xac xstr (xac xstr (xac xstr (xac xstr (xac xstr (xac xstr (xac xstr (xac xstr (xac xstr (xac xstr (xac xstr (xac xstr (xac xstr (xac xstr xa0)))))))))))))))))
  (xbc (xst (i:=3) sc.nd (xlst xa0))
  (xbc (xfor PassesOwn.never rfl (xir1 rfl T.u11 (xac (xcd Da hr (xac (xv 0) (xac (xv 1) (xac xint xa0)))) xa0)) (xgm (i:=4) sc.nd)
  (xbc (xst (i:=5) sc.nd (xix aO (xv 2) (xcd Da hr (xac (xv 0) (xac (xv 1) (xac xint xa0)))) (λ_ _=>rfl)))
  (xbc (xif (aA aI (xcd Da hr (xac (xv 0) (xac (xv 1) (xac xint xa0)))) xint (ai _)) (xbc (xst (i:=6) sc.nd (xcd Dg hr (xac (xv 0) (xac (xv 1) (xac (xcd Da hr (xac (xv 0) (xac (xv 1) (xac xint xa0)))) (xac xbl xa0))))))
  (xb1 (xst (i:=5) sc.nd (o9 (xop af (xv 6) xstr) ∅ ∅)))) xb0)
  (xb1 (bo (xmA (xv 3) (xac (xv 5) xa0)))))))
  (xb1 (xret (xtup (xac xstr (xac (xv 3) xa0)))))))) ?_
 rw[zh];refine ba λU0 eU=>?_;refine⟨bg15,λLs hLs=>?_⟩;have s1:=ac hLs (.lst liL);have eL:upd H Ls (.lst liL) Ls=some (.lst liL):=aa;have hLt:Ls≠t:=λz=>by rw[z] at hLs;exact htp.ne hLs
 try dsimp only[tAsg.K0,tDrop.K0,gSub.K2,Ends.to_nx,al,sA,sB]
 show U0 _ _ (upd H Ls (.lst liL));generalize upd H Ls (.lst liL)=H1 at s1 eL ⊢
 left
 refine eU _ _ _ ?_;refine⟨bg0,λr hr0=>?_⟩;have htp1:=htp.same s1;have hrt:r≠t:=λz=>by rw[z] at hr0;exact htp1.ne hr0
 have hrL:r≠Ls:=(nq eL hr0);have s2:=ac hr0 (.lst []);have e2:upd H1 r (.lst []) r=some (.lst []):=aa
 left
 generalize upd H1 r (.lst [])=H2 at s2 e2 ⊢;have k2:KeepX t H H2:=ae (s1.trans s2);have eL2:=s2 _ _ eL;refine⟨_,rfl,_,rfl,a,t,ns,4,_,rfl,hsc.keep k2,htp1.same s2,by omega,by decide,λd H3 d0 d1 k3 tp3=>?_⟩;obtain⟨dn,rfl⟩:∃dn:Nat,d=(dn:Int):=⟨d.toNat,(l40 d0).symm⟩;refine⟨_,rfl,by omega,by omega,?_⟩;rw[l37];refine bO (n:=dn) (λi σ H'=>∃(ls:List (List Nat)) (x4 x5 x6:Option V),σ=[some (V.ref a),some (V.ref t),some (V.ref Ls),some (.ref r),x4,x5,x6]/\KeepX t H H'/\H' Ls=some (.lst liL)/\Tp t (u+1+50 * i) H'/\H' r=some (.lst (ls.map vS))/\ls.length=i/\∀l∈ls,Asc l/\l.length<=100)
  ⟨[],none,none,none,rfl,k2.trans k3,k3 _ _ hLt eL2,tp3.le (by simp),k3 _ _ hrt e2,rfl,(λ_ z=>nomatch z)⟩ ?_ ?_
 ·rintro i σ H4 hi ⟨ls,x4,x5,x6,rfl,k4,eL4,tp4,e4,hl4,ho4⟩;refine⟨_,rfl,_,rfl,_,rfl,a,t,ns,15,_,rfl,hsc.keep k4,tp4,by omega,by decide,λe H5 e0 e1 k5 tp5=>?_⟩;obtain⟨st,hst,has,hls⟩:=xT (xs:=liL) (n:=6) (m:=15) ∅ rfl e0 e1;refine⟨Ls,liL,e,vS st,rfl,rfl,SqL.of (k5 _ _ hLt eL4),hst,?_⟩
  left
  refine cq (λσ' H'=>∃(l:List Nat) (x6:Option V),σ'=[some (V.ref a),some (V.ref t),some (V.ref Ls),some (.ref r),some (.int (0+(i:Int))),some (vS l),x6]/\Asc l/\l.length<=100/\KeepX t H4 H'/\Tp t (u+1+50 * i+50) H') (λN hN=>?_) ?_
  ·refine⟨_,rfl,_,rfl,a,t,ns,3,_,rfl,hsc.keep (k4.trans k5),tp5,by omega,by decide,λc H6 c0 c1 k6 tp6=>⟨rfl,_,rfl,?_⟩⟩;refine ite2 (λ_=>?_) (λ_=>hN _ _ ⟨st,_,rfl,has,by omega,k5.trans k6,tp6.le nofun⟩);have k46:=(k4.trans k5).trans k6;refine⟨_,rfl,_,rfl,_,rfl,_,rfl,a,t,ns,7,_,rfl,hsc.keep k46,tp6,by omega,by decide,λz H7 z0 z1 k7 tp7=>?_⟩;refine⟨a,t,ns,z,_,false,rfl,hsc.keep (k46.trans k7),tp7,by omega,by omega,by omega,λl H8 hl ha k8 tp8=>?_⟩
   left
   have hl6:l.length<=6:=by omega
   obtain⟨l2,e2,m2,n2⟩:=jp (l++[32]) [126,126,126,32] [126,126,126,120];have hl2:Asc l2:=λc hc=>by
    rcases m2 c hc with z |z
    ·exact av ha (aE _ rfl) c z
    ·exact aE [126,126,126,120] rfl c z
   have hd:l2.length<=100:=by
    have h1:(l++[32]).length<=7:=by rw[l6];show _+1<=_;omega
    have h2:((l++[32]).length+1) * 4<=8 * 4:=l53 _ nofun;have h3:l2.length<=(l++[32]).length+((l++[32]).length+1) * 4:=n2;omega
   exact uq (wf (bH (ev_v (v:=vS l) rfl) (bU (b:=[32]) rfl) (by show _+1<=_;omega)) (by rw[l6];show _+1<=_;omega) e2) (hN _ _ ⟨l2,_,rfl,hl2,hd,((k5.trans k6).trans k7).trans k8,tp8.le nofun⟩)
  rintro σ' H6 ⟨l,x6,rfl,ha,hl,k6,tp6⟩;have e6:=k6 _ _ hrt e4;refine⟨_,rfl, .inl ⟨rfl,_,SqL.of e6⟩,_,rfl,r,_,vS l,rfl,rfl,e6,by rw[hs,l5];omega,?_⟩;have hrH:H r=none:=s1.free hr0;refine⟨ls++[l],_,_,_,rfl,λx o hx e=>?_,?_,?_,?_,by rw[l6,hl4];rfl,λx hx=>?_⟩
  ·exact(ad (nq hrH e)).trans ((k4.trans k6) x o hx e)
  ·exact(ad (Ne.symm hrL)).trans (k6 _ _ hLt eL4)
  ·obtain⟨m',e,m0,m1⟩:=tp6;exact⟨m',(ad (Ne.symm hrt)).trans e,m0,by omega⟩
  ·rw[l17];exact aa
  ·rcases l24.mp hx with z |z
   ·exact ho4 x z
   ·rw[l14.mp z];exact⟨ha,hl⟩
 ·rintro σ H4 ⟨ls,x4,x5,x6,rfl,k4,eL4,tp4,e4,hl4,ho4⟩;refine⟨_,rfl,bg2,λt0 ht0=>?_⟩;have s9:=ac ht0 (.tup [V.str "literal", .ref r]);have ht0t:t0≠t:=λz=>by rw[z] at ht0;exact tp4.ne ht0
  have hrH:H r=none:=s1.free hr0;refine q _ ls _ (k4.trans (ae s9)) ((tp4.same s9).le nofun) ⟨by omega,ho4⟩ ?_;refine .tup (by rw[am (ax k4 ht0t ht0),aa]) (.cons (dn_k ∅) (.cons (.lst (by rw[am hrH];exact s9 _ _ e4) (ut λl hl=>⟨(ho4 l hl).1,l13 (ho4 l hl).2 ∅⟩) ?_) .nil));rw[l5];omega
end
def GBF {β:Type}(ok:β->Prop):BkF β->Prop
 | .heading n ps=>n<=3/\SPs ps
 | .para ps=>SPs ps
 | .lst es=>es.length<=2/\(∀e∈es,GE 6 e)/\1<=es.length
 | .table hd sd ls=>TbOk hd sd ls
 | .lit ls=>GL ls
 | .quote bs=>bs.length<=2/\∀b∈bs,ok b
 | .name n t=>NmOk n/\Asc t/\t.length<=100
 | .note n ps=>NmOk n/\SPs ps
def GB:(n:Nat)->Bl n->Prop
 |0,b=>GBF (λz:Empty=>nomatch z) b
 |n+1,b=>GBF (GB n) b
section
abbrev qD:Stmt:=top 72
inductive spBlockF (K:Frag) {β:Type}(g:β->PyData)(ok:β->Prop)(rm:Nat)(c:Int)(vs:List V)(H:Hp)(Q:VK)(u3:XK):Prop
 |mk (a t nm:Addr)(ns:List Int)(ls:List (List Nat))(u:Int)(_:vs=[.ref a, .ref t, .ref nm, .int rm])(_:Drw K a t nm ns ls u H)(_:u+c<=600000000000)(_:∀v (b:β) H',KeepX t H H'->Tp t (u+c) H'->ok b->Dn (dif H H') v (g b)->Q v H')
inductive spBlocksF (K:Frag) {β:Type}(g:β->PyData)(ok:β->Prop)(rm:Nat)(c:Int)(vs:List V)(H:Hp)(Q:VK)(u3:XK):Prop
 |mk (a t nm:Addr)(ns:List Int)(ls:List (List Nat))(u:Int)(j5:Nat)(_:vs=[.ref a, .ref t, .ref nm, .int rm, .int j5])(_:Drw K a t nm ns ls u H)(_:u+c * j5<=600000000000)(_:j5<=4)(_:∀r (bs:List β) H',KeepX t H H'->Tp t (u+c * j5) H'->bs.length=j5->(∀b∈bs,ok b)->Dn (dif H H') (.ref r) (.list (bs.map g))->Q (.ref r) H')
def m4 {m:Nat}{spI:Sp}{β:Type}{g:β->PyData}{ok:β->Prop}{rm:Nat}{c:Int}(hc:0<=c)(F:Fun K "_law_block" "_law_block" qD f fd)(T:TxD mg)(hm:3<=m)(Da:Def P w K mg base 1 "_law_draw" p8 (spDraw K))(Dg:Def P w K mg base 2 "_law_text" p25 (spText K))(Dh:Def P w K mg base m "_law_parts" p9 (spParts K))(Yj:Def P w K mg base m "_law_entries" p10 (spEnts K 6))
  (DN:Def P w K mg base m "_law_table" p9 (spTable K))(DO:Def P w K mg base 3 "_law_literal" p16 (spLit K))(Dw:Def P w K mg base m "_law_blocks" p14 spI)(hI:0 < rm->∀vs H Q E,spBlocksF K g ok (rm - 1) c vs H Q E->spI vs H Q E):FnOk P w K mg base CX0 (m+2) f fd p10 (spBlockF K (dBF g) (GBF ok) rm (2 * c+200000)):=by
 have sc:FnScope ["_law_script","_law_tape","_law_names_here","_law_room","_law_kind","_law_target"] p10 (ab qD):=mkS;refine F.oks sc λH Q hr h=>?_;obtain⟨a,t,nm,ns,ls,u,rfl,dw,hu1,q⟩:=h;have hs:=sizeLine_eq;refine ak (xbc (xst (i:=4) sc.nd (xcd Da hr (xac (xv 0) (xac (xv 1) (xac xint xa0)))))
  (xbc (xif (aA aI (xv 4) xint (ai _)) (xb1 (xret (xtup (xac xstr (xac (xop bp xint (xcd Da hr (xac (xv 0) (xac (xv 1) (xac xint xa0))))) (xac (xcd Dh hr (xac (xv 0) (xac (xv 1) (xac (xv 2) xa0)))) xa0)))))) xb0)
  (xbc (xif (aA aI (xv 4) xint (ai _)) (xb1 (xret (xtup (xac xstr (xac (xcd Yj hr (xac (xv 0) (xac (xv 1) (xac (xv 2) (xac xint xa0))))) xa0))))) xb0)
  (xbc (xif (aA aI (xv 4) xint (ai _)) (xb1 (xret (xcd DN hr (xac (xv 0) (xac (xv 1) (xac (xv 2) xa0)))))) xb0)
  (xbc (xif (aA aI (xv 4) xint (ai _)) (xb1 (xret (xcd DO hr (xac (xv 0) (xac (xv 1) xa0))))) xb0)
  (xbc (xif (xand (aA aI (xv 4) xint (ai _)) (ie (aA jG (xv 3) xint (ai _)))).xt (xb1 (xret (xtup (xac xstr (xac (xcd Dw hr (xac (xv 0) (xac (xv 1) (xac (xv 2) (xac (xop iA (xv 3) xint) (xac (xcd Da hr (xac (xv 0) (xac (xv 1) (xac xint xa0)))) xa0)))))) xa0))))) xb0)
  (xbc (xif (aA aI (xv 4) xint (ai _)) (xbc (xst (i:=5) sc.nd (o9 (xcd Dg hr (xac (xv 0) (xac (xv 1) (xac (xop bp xint (xcd Da hr (xac (xv 0) (xac (xv 1) (xac xint xa0))))) (xac xbl xa0))))) ∅ ∅))
  (xb1 (xret (xtup (xac xstr (xac (xix aO (xv 2) (xcd Da hr (xac (xv 0) (xac (xv 1) (xac xint xa0)))) (λ_ _=>rfl)) (xac (xorS (xv 5) (xone xstr)) xa0))))))) xb0)
  (xbc (xif (aA aI (xv 4) xint (ai _)) (xb1 (xret (xtup (xac xstr (xac (xix aO (xv 2) (xcd Da hr (xac (xv 0) (xac (xv 1) (xac xint xa0)))) (λ_ _=>rfl)) (xac (xcd Dh hr (xac (xv 0) (xac (xv 1) (xac (xv 2) xa0)))) xa0)))))) xb0)
  (xb1 (xret (xtup (xac xstr (xac (xcd Dh hr (xac (xv 0) (xac (xv 1) (xac (xv 2) xa0)))) xa0))))))))))))) ?_
 rw[zg];refine ba λU0 eU=>?_;refine⟨_,rfl,_,rfl,a,t,ns,9,u,rfl,dw.sc,dw.tp,by omega,by decide,λkd H1 kd0 kd1 k1 tp1=>?_⟩
 left
 refine eU _ _ _ ?_;have fin:∀{b:BkF β} {xs:List V} {ds:List PyData} {H2:Hp},dBF g b = .tuple ds->KeepX t H H2->Tp t (u+(2 * c+200000)) H2->GBF ok b->DnAll (dif H H2) xs ds->∀t0,H2 t0=none->Q (.ref t0) (upd H2 t0 (.tup xs)):=λ{b xs ds H2} e k2 tp2 hb da t0 ht0=>by
  have sn:=ac ht0 (.tup xs);refine q _ b _ (k2.trans (ae sn)) (tp2.same sn) hb ?_;rw[e];have hne:t0≠t:=λz=>by rw[z] at ht0;exact tp2.ne ht0
  exact .tup (by rw[am (ax k2 hne ht0),aa]) (da.same (aX (Same.refl _) sn))
 refine s_if _ (λR k=>⟨_,rfl,rfl,_,rfl,k _ (Same.refl _)⟩) (λH2 s2 _=>?_) λH2 s2 _=>?_
 ·have k2:=k1.trans (ae s2);refine⟨_,rfl,_,rfl,a,t,ns,3,_,rfl,dw.sc.keep k2,tp1.same s2,by omega,by decide,λd H3 d0 d1 k3 tp3=>⟨_,_,rfl,rfl,?_⟩⟩;have k23:=k2.trans k3;obtain⟨dn,rfl⟩:∃dn:Nat,d=(dn:Int):=⟨d.toNat,(l40 d0).symm⟩;refine⟨_,rfl,_,rfl,_,rfl,a,t,nm,ns,ls,_,rfl,dw.go k23 tp3 nofun,by omega,λpr ps H4 k4 tp4 hps dps=>⟨bg3,?_⟩⟩;exact fin (b := .heading (1+dn) ps) rfl (k23.trans k4) (tp4.le nofun) ⟨by omega,hps⟩ (.cons (dn_k ∅) (.cons (.int ((1+dn:Nat):Int)) (.cons (dps.same (bw tp3.ne k23)) .nil)))
 try dsimp only[Ends.to_nx,Ends.to_rt,aY]
 have k2:=k1.trans (ae s2);have tp2:=tp1.same s2;clear s2;refine s_if _ (λR k=>⟨_,rfl,rfl,_,rfl,k _ (Same.refl _)⟩) (λH3 s3 _=>?_) λH3 s3 _=>?_
 ·have k3:=k2.trans (ae s3);have c6:cE 6=189000:=by decide
  refine⟨_,rfl,_,rfl,_,rfl,a,t,nm,ns,ls,_,rfl,dw.go k3 (tp2.same s3) nofun,by omega,λer es H4 k4 tp4 hel hel1 heg des=>⟨bg2,?_⟩⟩;exact fin (b := .lst es) rfl (k3.trans k4) (tp4.le nofun) ⟨hel,heg,hel1⟩ (.cons (dn_k ∅) (.cons (des.same (bw (tp2.same s3).ne k3)) .nil))
 try dsimp only[Ends.to_nx,Ends.to_rt,aY]
 have k3:=k2.trans (ae s3);have tp3:=tp2.same s3;clear s3;refine s_if _ (λR k=>⟨_,rfl,rfl,_,rfl,k _ (Same.refl _)⟩) (λH4 s4 _=>?_) λH4 s4 _=>?_
 ·have k4:=k3.trans (ae s4);exact⟨_,rfl,_,rfl,_,rfl,a,t,nm,ns,ls,_,rfl,dw.go k4 (tp3.same s4) nofun,by omega,λv hd sd ls H5 k5 tp5 hok dv=>q v (.table hd sd ls) H5 (k4.trans k5) (tp5.le nofun) hok (dv.same (bw (tp3.same s4).ne k4))⟩
 try dsimp only[Ends.to_nx,Ends.to_rt,aY]
 have k4:=k3.trans (ae s4);have tp4:=tp3.same s4;clear s4;refine s_if _ (λR k=>⟨_,rfl,rfl,_,rfl,k _ (Same.refl _)⟩) (λH5 s5 _=>?_) λH5 s5 _=>?_
 ·have k5:=k4.trans (ae s5);exact⟨_,rfl,_,rfl,a,t,ns,_,rfl,dw.sc.keep k5,tp4.same s5,by omega,λv ls H6 k6 tp6 hok dv=>q v (.lit ls) H6 (k5.trans k6) (tp6.le nofun) hok (dv.same (bw (tp4.same s5).ne k5))⟩
 try dsimp only[Ends.to_nx,Ends.to_rt,aY]
 have k5:=k4.trans (ae s5);have tp5:=tp4.same s5;clear s5;refine s_if _ (km (decide (V.int kd=V.int 4)) (decide ((0:Int) < (rm:Int))) (λR k=>⟨_,rfl,rfl,_,rfl,k _ (Same.refl _)⟩) λ_ H2 s2 R k=>⟨_,rfl,_,_,rfl,rfl,_,rfl,k _ (Same.refl _)⟩) (λH6 s6 z=>?_) λH6 s6 _=>?_
 ·have k6:=k5.trans (ae s6);have hrm:(0:Int) < (rm:Int):=of_decide_eq_true (Bool.and_eq_true_iff.mp z).2;refine⟨_,rfl,_,rfl,_,rfl,_,rfl,_,_,rfl,rfl,_,rfl,_,rfl,a,t,ns,3,_,rfl,dw.sc.keep k6,tp5.same s6,by omega,by decide,λd H7 d0 d1 k7 tp7=>?_⟩;obtain⟨dn,rfl⟩:∃dn:Nat,d=(dn:Int):=⟨d.toNat,(l40 d0).symm⟩;have k67:=k6.trans k7;have hcm:c * (dn:Int)<=2 * c:=by rw[Int.mul_comm 2 c];exact Int.mul_le_mul_of_nonneg_left nofun hc
  have hcm0:0<=c * (dn:Int):=l68 hc nofun;refine hI nofun _ _ _ _ ⟨a,t,nm,ns,ls,_,dn,?_,dw.go k67 tp7 nofun,by omega,by omega,λbr bs H8 k8 tp8 hbl hbo dbs=>⟨bg2,?_⟩⟩
  ·show [V.ref a,V.ref t,V.ref nm,V.int ((rm:Int) - 1),V.int dn]=_;rw[show (rm:Int) - 1=((rm - 1:Nat):Int) by omega]
  ·exact fin (b := .quote bs) rfl (k67.trans k8) (tp8.le nofun) ⟨by omega,hbo⟩ (.cons (dn_k ∅) (.cons (dbs.same (bw tp7.ne k67)) .nil))
 try dsimp only[Ends.to_nx,Ends.to_rt,aY]
 have k6:=k5.trans (ae s6);have tp6:=tp5.same s6;clear s6;refine s_if _ (λR k=>⟨_,rfl,rfl,_,rfl,k _ (Same.refl _)⟩) (λH7 s7 _=>?_) λH7 s7 _=>?_
 ·have k7:=k6.trans (ae s7);refine⟨_,rfl,_,rfl,_,rfl,_,rfl,a,t,ns,6,_,rfl,dw.sc.keep k7,tp6.same s7,by omega,by decide,λd H8 d0 d1 k8 tp8=>⟨_,_,rfl,rfl,a,t,ns,1+d,_,false,rfl,dw.sc.keep (k7.trans k8),tp8,by omega,by omega,by omega,λl H9 hl ha k9 tp9=>?_⟩⟩;have hl6:l.length<=6:=by omega
  obtain⟨l2,e2,m2,n2⟩:=jp l [32] [];have hl2:Asc l2:=λc hc=>(m2 c hc).elim (ha c) λz=>nomatch z;have n2:l2.length<=l.length+(l.length+1) * 0:=n2;refine⟨_,rfl,by rw[aw];omega,?_⟩;rw[show Txt.replace (S l) " " ""=S l2 from e2]
  left
  have k79:=(k7.trans k8).trans k9;refine⟨_,rfl,_,rfl,_,rfl,a,t,ns,5,_,rfl,dw.sc.keep k79,tp9,by omega,by decide,λn H10 n0 n1 k10 tp10=>(dw.nms.keep (k79.trans k10)).ix n0 n1 λnl hnl=>?_⟩;have fin2:∀l3:List Nat,Asc l3->l3.length<=100->∀t0,H10 t0=none->Q (.ref t0) (upd H10 t0 (.tup [V.str "name",vS nl,vS l3])):=λl3 h1 h2=>fin (b := .name nl l3) rfl (k79.trans k10) (tp10.le nofun) ⟨hnl,h1,h2⟩ (.cons (dn_k ∅) (.cons (dq hnl.1 (by have:=hnl.2;omega)).dn (.cons (dq h1 nofun).dn .nil)));refine⟨_,rfl,_,rfl,by rw[aw,hs];omega,?_⟩;split
  ·exact⟨bg3,fin2 [116] (aE _ rfl) ∅⟩
  ·exact⟨bg3,fin2 l2 hl2 nofun⟩
 try dsimp only[Ends.to_nx,Ends.to_rt,aY]
 have k7:=k6.trans (ae s7);have tp7:=tp6.same s7;clear s7;refine s_if _ (λR k=>⟨_,rfl,rfl,_,rfl,k _ (Same.refl _)⟩) (λH8 s8 _=>?_) λH8 s8 _=>?_
 ·have k8:=k7.trans (ae s8);refine⟨_,rfl,_,rfl,_,rfl,a,t,ns,5,_,rfl,dw.sc.keep k8,tp7.same s8,by omega,by decide,λn H9 n0 n1 k9 tp9=>(dw.nms.keep (k8.trans k9)).ix n0 n1 λnl hnl=>?_⟩;have k89:=k8.trans k9;refine⟨_,rfl,_,rfl,_,rfl,a,t,nm,ns,ls,_,rfl,dw.go k89 tp9 nofun,by omega,λpr ps H10 k10 tp10 hps dps=>⟨bg3,?_⟩⟩;exact fin (b := .note nl ps) rfl (k89.trans k10) (tp10.le nofun) ⟨hnl,hps⟩ (.cons (dn_k ∅) (.cons (dq hnl.1 (by have:=hnl.2;omega)).dn (.cons (dps.same (bw tp9.ne k89)) .nil)))
 ·have k8:=k7.trans (ae s8);refine⟨_,rfl,_,rfl,_,rfl,a,t,nm,ns,ls,_,rfl,dw.go k8 (tp7.same s8) nofun,by omega,λpr ps H10 k10 tp10 hps dps=>⟨bg2,?_⟩⟩;exact fin (b := .para ps) rfl (k8.trans k10) (tp10.le nofun) hps (.cons (dn_k ∅) (.cons (dps.same (bw (tp7.same s8).ne k8)) .nil))
abbrev mr:Stmt:=top 73
def kQ {m:Nat}{β:Type}{g:β->PyData}{ok:β->Prop}{rm:Nat}{c:Int}(hc:0<=c)(F:Fun K "_law_blocks" "_law_blocks" mr f fd)(T:TxD mg)(Yv:Def P w K mg base m "_law_block" p10 (spBlockF K g ok rm c)):FnOk P w K mg base CX0 (m+2) f fd p14 (spBlocksF K g ok rm c):=by
 have sc:FnScope p14 p14 (ab mr):=mkS;refine F.oks sc λ{_ _ _ s _ _}H Q hr h=>?_;obtain⟨a,t,nm,ns,ls,u,j5,rfl,dw,hu1,hm3,q⟩:=h;have hs:=sizeLine_eq;refine ak (xb1 (xret (xlc (cl:=[("_law_tape",s.heap.objs.size+2),("_law_script",s.heap.objs.size+1),("_law_room",s.heap.objs.size+4),("_law_names_here",s.heap.objs.size+3)]) (own:=["_law_k"]) (fr:=[0,1,2,3]) (N':=["_law_k","_law_script","_law_tape","_law_names_here","_law_room"]) rfl (eZ (xs:=p10) ⟨rfl,⟨rfl,⟨rfl,⟨rfl,trivial⟩⟩⟩⟩ ⟨rfl,rfl, .inl rfl, .inl rfl,⟨rfl,rfl, .inl rfl, .inl rfl,⟨rfl,rfl, .inl rfl, .inl rfl,⟨rfl,rfl, .inl rfl, .inl rfl,trivial⟩⟩⟩⟩ ∅) ∅ ∅ (by with_unfolding_all rfl)
  (xir1 rfl T.u11 (xac (xv 4) xa0))
  (λ_ _ _ _=>xgm (i:=0) (show (["_law_k","_law_script","_law_tape","_law_names_here","_law_room"]:List Str).Nodup by decide)) (λ_ _ _ _=>xq0) (λ_ _ _ _=>(xcd Yv hr (xac (xv 1) (xac (xv 2) (xac (xv 3) (xac (xv 4) xa0))))))))) ?_
 rw[ze];refine⟨_,rfl,_,rfl,by omega,by omega,?_⟩;rw[l37];refine ml (α:=β) t u c g ok nofun dw.tp ?_ ?_
 ·intro i hi H1 k1 tp1 C N hC;have hle:u+c * (i:Int)+c<=600000000000:=by
   have h1:c * ((i:Int)+1)<=c * (j5:Int):=Int.mul_le_mul_of_nonneg_left nofun hc;rw[Int.mul_add,Int.mul_one] at h1;omega
  have h0:0<=c * (i:Int):=l68 hc nofun;refine⟨(nfLe.refl _ _ _).set ∅ _,iteT (B:=N H1) ⟨_,rfl,_,rfl,_,rfl,_,rfl,a,t,nm,ns,ls,_,rfl,dw.go k1 tp1 nofun,by omega,λv b H2 k2 tp2 hb dv=>hC v b H2 k2 tp2 hb dv⟩⟩
 ·intro D H1 ys bs hD k1 tp1 e1 hl hok hn;refine q D bs H1 k1 tp1 hl hok ?_;exact .lst (by rw[am hD,e1]) (hn.dif cv) (by rw[(hn.dif cv).len,l5];omega)
end
def iP {G:Hp}{v:V}{ds:List PyData}(h:Dn G v (.tuple ds)):∃a xs,v = .ref a/\G a=some (.tup xs)/\DnAll G xs ds:=by
 cases h with |tup e r=>exact⟨_,_,rfl,e,r⟩
def bu {G:Hp}{v:V}{s:Str}(h:Dn G v (.str s)):v = .str s:=by cases h;rfl
def ag {G:Hp}{vs:List V}{d:PyData}{ds:List PyData}(h:DnAll G vs (d::ds)):∃v us,vs=v::us/\Dn G v d/\DnAll G us ds:=by
 cases h with |cons a b=>exact⟨_,_,rfl,a,b⟩
def dU {G:Hp}{vs:List V}(h:DnAll G vs []):vs=[]:=by cases h;rfl
def aD {te:TE}{A u:TS}{D:Ends}{σ:St}{H0 H:Hp}{k y:Str}(s:Same H0 H)(ev:∀H',Same H0 H'->Ev te σ H' (.str k))(hk:k≠y)(h:∀H',Same H0 H'->u D σ H'):tSeq (tIfS (tTest (tOp rEq te (tC (.str y)))) A aY) u D σ H:=
 s_if (D:={ D with nx:=u D }) (g:=aY) (decide (k=y)) (ik (ev H s) ev_c) (λ_ _ z=>absurd (of_decide_eq_true z) hk) λH' s' _=>h H' (s.trans s')
def cA {te:TE}{A u:TS}{D:Ends}{σ:St}{H0 H:Hp}{k y:Str}(s:Same H0 H)(ev:∀H',Same H0 H'->Ev te σ H' (.str k))(hk:k=y)(h:∀H',Same H0 H'->A { D with nx:=u D } σ H'):tSeq (tIfS (tTest (tOp rEq te (tC (.str y)))) A aY) u D σ H:=
 s_if (D:={ D with nx:=u D }) (g:=aY) (decide (k=y)) (ik (ev H s) ev_c) (λH' s' _=>h H' (s.trans s')) λ_ _ z=>absurd hk (of_decide_eq_false z)
theorem m5 {G:Hp}:∀{ls:List (List Nat)} {xs:List V},DnAll G xs (ls.map λl => .str (S l))->xs=ls.map vS
 | [],_,h=>dU h
 |_::_,_,h=>by
  obtain⟨v,us,rfl,d,r⟩:=ag h;cases bu d;rw[m5 r];rfl
def barF (t:List Nat):List Nat:=if t=[] then [32,124] else [32]++t++[32,124]
def sdG (b:Bool):List Nat:=if b then [45,45,58] else [45,45,45]
open PySem L2 Lm Lw
def aM:(n:Nat)->List (En n)->List (List PC)
 |0,_=>[]
 |n+1,es=>es.flatMap λe=>EnF.parts e::aM n (EnF.within e)
def bn {β:Type}:BkF β->List (List PC)
 | .heading _ ps=>[ps]
 | .para ps=>[ps]
 | .note _ ps=>[ps]
 | .lst es=>aM 6 es
 | .table hd _ ls=>hd++ls.flatten
 |_=>[]
def PLn (c:Cb)(G H:Hp)(l:Addr)(ps:List PC):Prop:=∃as:List Addr,H l=some (.lst (as.map V.ref))/\PCs c.cp G as ps
def PLn.same {c:Cb}{G H H':Hp}{l:Addr}{ps:List PC}(s:Same H H')(h:PLn c G H l ps):PLn c G H' l ps:=let ⟨as,e,k⟩:=h;⟨as,s _ _ e,k⟩
structure TxsR (c:Cb)(G H H':Hp)(r:Addr)(tss:List (List PC)):Prop where
 same:Same H H'
 new:H r=none
 at_:∃as:List Addr,H' r=some (.lst (as.map V.ref))/\(∀x∈as,H x=none)/\Ls (PLn c G H') as tss
inductive spTx {β:Type}(c:Cb)(R:Hp->Addr->β->Prop)(ok:β->Prop)(S:BkF β->Prop)(vs:List V)(H:Hp)(Q:VK)(u3:XK):Prop
 |mk (a b G)(_:vs=[.ref a])(_:BAtF c R G a b)(_:Same G H)(_:S b)(_:OkBF ok b)(_:(bn b).length<=100000)(_:∀r H',TxsR c G H H' r (bn b)->Q (.ref r) H')
section
variable {c:Cb}{BT:Addr}{β:Type}{R:Hp->Addr->β->Prop}{ok:β->Prop}
def ms {G H:Hp}{p r:Addr}{ps:List PC}{as:List Addr}(h:PCs c.cp G as ps)(hp:H p=none)(hr:upd H p (.lst (as.map V.ref)) r=none):TxsR c G H (upd (upd H p (.lst (as.map V.ref))) r (.lst [.ref p])) r [ps]:=by
 have s1:=ac hp (.lst (as.map V.ref));have s2:=ac hr (.lst [V.ref p]);refine⟨s1.trans s2,s1.free hr,[p],aa,λx hx=>?_,⟨as,s2 _ _ aa,h⟩,trivial⟩;rw[l14.mp hx];exact hp
abbrev fD:Stmt:=meth 38 3
def kR (F:Fun K "texts" "Heading.texts" fD f fd)(T:TxB K mg c BT):FnOk P w K mg base CX0 1 f fd ["self"] (spTx c R ok λb=>∃n ps,b = .heading n ps):=by
 have sc:FnScope ["self"] ["self"] (ab fD):=mkS;refine F.oks sc λH Q hr h=>?_;obtain⟨a,b,G,rfl,hb,sG,⟨n,ps,rfl⟩,hok,w6,q⟩:=h;obtain⟨dx,l,e,as,el,hps⟩:=hb;refine ak (xb1 (xret (xlst (xac (xcTy ao T.u10 rfl (xac (xfld (xv 0)) xa0)) xa0)))) ?_;refine bJ (ev_v rfl) (sG _ _ e) T.u13.cls T.q18 rfl _ ⟨l,_,rfl, .inl (SqL.of (sG _ _ el)),λp hp=>⟨bg1,λr hr0=>?_⟩⟩;exact q r _ (ms hps hp hr0)
abbrev mt:Stmt:=meth 39 3
def qE (F:Fun K "texts" "Para.texts" mt f fd)(T:TxB K mg c BT):FnOk P w K mg base CX0 1 f fd ["self"] (spTx c R ok λb=>∃ps,b = .para ps):=by
 have sc:FnScope ["self"] ["self"] (ab mt):=mkS;refine F.oks sc λH Q hr h=>?_;obtain⟨a,b,G,rfl,hb,sG,⟨ps,rfl⟩,hok,w6,q⟩:=h;obtain⟨dx,l,e,as,el,hps⟩:=hb;refine ak (xb1 (xret (xlst (xac (xcTy ao T.u10 rfl (xac (xfld (xv 0)) xa0)) xa0)))) ?_;refine bJ (ev_v rfl) (sG _ _ e) T.g18.cls T.u19 rfl _ ⟨l,_,rfl, .inl (SqL.of (sG _ _ el)),λp hp=>⟨bg1,λr hr0=>?_⟩⟩;exact q r _ (ms hps hp hr0)
abbrev hV:Stmt:=meth 43 3
def mv (F:Fun K "texts" "Noting.texts" hV f fd)(T:TxB K mg c BT):FnOk P w K mg base CX0 1 f fd ["self"] (spTx c R ok λb=>∃n ps,b = .note n ps):=by
 have sc:FnScope ["self"] ["self"] (ab hV):=mkS;refine F.oks sc λH Q hr h=>?_;obtain⟨a,b,G,rfl,hb,sG,⟨n,ps,rfl⟩,hok,w6,q⟩:=h;obtain⟨dx,l,e,as,el,hps⟩:=hb;refine ak (xb1 (xret (xlst (xac (xcTy ao T.u10 rfl (xac (xfld (xv 0)) xa0)) xa0)))) ?_;refine bJ (ev_v rfl) (sG _ _ e) T.g13.cls T.g19 rfl _ ⟨l,_,rfl, .inl (SqL.of (sG _ _ el)),λp hp=>⟨bg1,λr hr0=>?_⟩⟩;exact q r _ (ms hps hp hr0)
abbrev eN:Stmt:=meth 37 0
def fE (F:Fun K "texts" "Block.texts" eN f fd):FnOk P w K mg base CX0 1 f fd ["self"] (spTx c R ok λb=>bn b=[]):=by
 have sc:FnScope ["self"] ["self"] (ab eN):=mkS;refine F.oks sc λH Q hr h=>?_;obtain⟨a,b,G,rfl,hb,sG,hS,hok,w6,q⟩:=h;refine ak (xb1 (xret (xlst xa0))) ?_;refine⟨bg0,λr hr0=>q r _ ⟨ac hr0 _,hr0,[],aa,(λ_ z=>nomatch z),?_⟩⟩;rw[hS];trivial
end
def offK {W:Addr}{H H':Hp}(k:KeepX W H H'):Same (offX H W) (offX H' W):=λb o e=>by
 unfold offX at e ⊢;split at e
 ·cases e
 ·rename_i hb;rw[if_neg hb];exact k b o hb e
def offI {W:Addr}{H:Hp}:Same (offX H W) H:=λb o e=>by
 unfold offX at e;split at e
 ·cases e
 ·exact e
theorem uu {α:Type}{R:Addr->α->Prop}:∀{as bs:List Addr} {xs ys:List α},Ls R as xs->Ls R bs ys->Ls R (as++bs) (xs++ys)
 | [],_,[],_,_,h=>h
 | [],_,_::_,_,h,_=>h.elim
 |_::_,_,[],_,h,_=>h.elim
 |_::_,_,_::_,_,h,k=>⟨h.1,uu h.2 k⟩
def qF {n:Nat}(xs ys:List (EnF (En n))):aM (n+1) (xs++ys)=aM (n+1) xs++aM (n+1) ys:=l44
def m6 {n:Nat}{es:List (En (n+1))}{i:Nat}{e:En (n+1)}(h:es[i]? = some e):aM (n+1) (es.take (i+1))=aM (n+1) (es.take i)++(EnF.parts e::aM n (EnF.within e)):=by
 have h1:es.take (i+1)=es.take i++[e]:=by rw[l41,h];rfl
 exact(congrArg (aM (n+1)) h1).trans ((qF _ _).trans (congrArg (_ ++ ·) (l25 _)))
def uv {n:Nat}(es:List (En (n+1)))(i:Nat):(aM (n+1) (es.take i)).length<=(aM (n+1) es).length:=by
 have h:aM (n+1) es=aM (n+1) (es.take i)++aM (n+1) (es.drop i):=(congrArg (aM (n+1)) (l47 i es).symm).trans (qF _ _);rw[h,l6];omega
structure TxI (c:Cb)(G H H':Hp)(r:Addr)(as:List Addr)(tss:List (List PC)):Prop where
 same:Same H H'
 at_:H' r=some (.lst (as.map V.ref))
 new:∀x∈as,H x=none
 ls:Ls (PLn c G (offX H' r)) as tss
theorem qG {c:Cb}{G H2:Hp}{r:Addr}:∀{bs:List Addr} {uss:List (List PC)},(∀x∈bs,x≠r)->Ls (PLn c G H2) bs uss->Ls (PLn c G (offX H2 r)) bs uss
 | [],[],_,_=>trivial
 | [],_::_,_,k=>k.elim
 |_::_,[],_,k=>k.elim
 |b::_,_::_,hb,k=>⟨let ⟨qs,e,hp⟩:=k.1;⟨qs,(if_neg (hb b l10)).trans e,hp⟩,qG (λx hx=>hb x (l15 _ hx)) k.2⟩
def TxI.more {c:Cb}{G H H' H2:Hp}{r:Addr}{as bs:List Addr}{tss uss:List (List PC)}(h:TxI c G H H' r as tss)(hr:H r=none)(s:Same H' H2)(hn:∀x∈bs,H' x=none)(k:Ls (PLn c G H2) bs uss):TxI c G H (upd H2 r (.lst ((as++bs).map V.ref))) r (as++bs) (tss++uss):=by
 have kp:KeepX r H2 (upd H2 r (.lst ((as++bs).map V.ref))):=λb o nb e=>(ad nb).trans e;have hbr:∀x∈bs,x≠r:=λx hx z=>by have:=hn x hx;rw[z,h.at_] at this;cases this
 refine⟨aj hr (h.same.trans s),aa,λx hx=>?_,uu (h.ls.mono λa x=>PLn.same ((offK λb o _ e=>s b o e).trans (offK kp))) ((qG hbr k).mono λa x=>PLn.same (offK kp))⟩;rcases l24.mp hx with z |z
 ·exact h.new x z
 ·exact h.same.free (hn x z)
def TxI.done {c:Cb}{G H H':Hp}{r:Addr}{as:List Addr}{tss:List (List PC)}(h:TxI c G H H' r as tss)(hr:H r=none):TxsR c G H H' r tss:=⟨h.same,hr,as,h.at_,h.new,h.ls.mono λa x=>PLn.same offI⟩
inductive spTxE (c:Cb)(n:Nat)(vs:List V)(H:Hp)(Q:VK)(u3:XK):Prop
 |mk (l:Addr)(es:List (En n))(G:Hp)(_:vs=[.ref l])(_:LAt (EAt c n) G l es)(_:Same G H)(_:(aM n es).length<=100000)(_:∀r H',TxsR c G H H' r (aM n es)->Q (.ref r) H')
def zD (c:Cb)(spI:Sp):Nat->Prop
 |0=>True
 |m+1=>∀vs H Q E,spTxE c m vs H Q E->spI vs H Q E
section
variable {c:Cb}{BT:Addr}
abbrev sTxE:Stmt:=top 51
def uw {k:Nat}(n:Nat){spI:Sp}(F:Fun K "entry_texts" "entry_texts" sTxE f fd)(T:TxB K mg c BT)(Yk:Def P w K mg base k "entry_texts" ["entries"] spI)(hI:zD c spI n):FnOk P w K mg base CX0 (k+1) f fd ["entries"] (spTxE c n):=by
 have sc:FnScope ["entries","texts","entry"] ["entries"] (ab sTxE):=mkS;refine F.oks sc λH Q hr h=>?_;obtain⟨l,es,G,rfl,⟨as,el,hls⟩,sG,w6,q⟩:=h;refine ak (xbc (xst (i:=1) sc.nd (xlst xa0))
  (xbc (xfor PassesOwn.never rfl (xil (xv 0)) (xgm (i:=2) sc.nd)
  (xbc (bo (xmA (xv 1) (xac (xcTy ao T.u10 rfl (xac (xfld (xv 2)) xa0)) xa0)))
  (xb1 (bo (xm plainAttrs_list slot_list_extend type_list_extend bQ (xv 1) (xac (xcd Yk hr (xac (xfld (xv 2)) xa0)) xa0))))))
  (xb1 (xret (xv 1))))) ?_
 have hs:=sizeLine_eq;rw[oS];have hal:=hls.len;refine⟨bg0,λr hr0=>?_⟩;have s1:=ac hr0 (.lst []);have e1:upd H r (.lst []) r=some (.lst []):=aa
 left
 generalize upd H r (.lst [])=H1 at s1 e1 ⊢;refine⟨_,rfl,l,rfl,⟨_,SqL.of (s1 _ _ (sG _ _ el))⟩,?_⟩;have h0:aM n []=[]:=by cases n <;> rfl
 refine bc (xs:=as.map V.ref) (λi σ H'=>∃x2 bs,σ=[some (.ref l),some (.ref r),x2]/\TxI c G H H' r bs (aM n (es.take i))) ⟨none,[],rfl,⟨s1,e1,(λ_ z=>nomatch z),by rw[l62,h0];trivial⟩⟩ ?_ ?_ ?_
 ·rintro i σ H3 _ ⟨_,_,_,t3⟩;exact SqL.of (t3.same _ _ (sG _ _ el))
 ·rintro i x σ H3 hx ⟨x2,bs,rfl,t3⟩;obtain⟨a,en,rfl,hei,_,ha⟩:=hls.get hx;cases n with
  |zero=>exact nomatch en
  |succ m=>
   obtain⟨dx,lp,le,e,⟨aps,elp,hps⟩,hle⟩:=ha;have hbl:bs.length=(aM (m+1) (es.take i)).length:=t3.ls.len;have hle1:=uv es (i+1);rw[m6 hei,l6,l9] at hle1;have sG3:=sG.trans t3.same
   left
   refine⟨_,rfl, .inl ⟨rfl,_,SqL.of t3.at_⟩,bJ (ev_v rfl) (sG3 _ _ e) T.q11.cls T.z19 rfl _ ⟨lp,_,rfl, .inl (SqL.of (sG3 _ _ elp)),λp hp=>⟨r,_, .ref p,rfl,rfl,ac hp _ _ _ t3.at_,by rw[l5,hs];omega,?_⟩⟩⟩;have t4:=t3.more (bs:=[p]) (uss:=[EnF.parts en]) hr0 (ac hp (.lst (aps.map V.ref))) (λx hx=>by rw[l14.mp hx];exact hp) ⟨⟨aps,aa,hps⟩,trivial⟩;rw[show (bs.map V.ref++[V.ref p])=(bs++[p]).map V.ref by rw[l17];rfl];generalize upd (upd H3 p (.lst (aps.map V.ref))) r (.lst ((bs++[p]).map V.ref))=H4 at t4 ⊢;have sG4:=sG.trans t4.same;refine⟨_,rfl, .inl ⟨rfl,_,SqL.of t4.at_⟩,bJ (ev_v rfl) (sG4 _ _ e) T.q11.cls T.q19 rfl _ ?_⟩
   right
   refine hI _ _ _ _ ⟨le,EnF.within en,G,rfl,hle,sG4,by omega,λr5 H5 ⟨s5,n5,cs,e5,hn5,k5⟩=>?_⟩;have hcl:=k5.len;refine⟨r,r5,_,_,rfl,rfl,s5 _ _ t4.at_,e5,by rw[l5,l5,l6,hs];show _+1+_<=_;omega,?_⟩;rw[<- l17];have t6:=t4.more hr0 s5 hn5 k5;refine⟨_,bs++[p]++cs,rfl,?_⟩;rw[m6 hei,show aM (m+1) (es.take i)++(EnF.parts en::aM m (EnF.within en))=aM (m+1) (es.take i)++[EnF.parts en]++aM m (EnF.within en) by rw[l28];rfl];exact t6
 ·rintro σ H3 ⟨x2,bs,rfl,t3⟩;rw[l5,hal,l38] at t3;exact⟨_,rfl,q r H3 (t3.done hr0)⟩
end
def Z2 (c:Cb)(G:Hp):List (List V)->List (List PC)->Prop
 | [],[]=>True
 |x::xs,p::ps=>(∃as:List Addr,x=as.map V.ref/\PCs c.cp G as p)/\Z2 c G xs ps
 |_,_=>False
theorem Z2.len {c:Cb}{G:Hp}:∀{xs:List (List V)} {ps:List (List PC)},Z2 c G xs ps->xs.length=ps.length
 | [],[],_=>rfl
 | [],_::_,h=>h.elim
 |_::_,[],h=>h.elim
 |_::_,_::_,h=>congrArg (· + 1) h.2.len
theorem qH {c:Cb}{G:Hp}:∀{as:List Addr} {cs:List (List PC)},Ls (PL c.cp G) as cs->∃xs,Ls (λa (x:List V)=>G a=some (.lst x)) as xs/\Z2 c G xs cs
 | [],[],_=>⟨[],trivial,trivial⟩
 | [],_::_,h=>h.elim
 |_::_,[],h=>h.elim
 |_::_,_::_,h=>let ⟨qs,e,k⟩:=h.1;let ⟨xs,h1,h2⟩:=qH h.2;⟨qs.map V.ref::xs,⟨e,h1⟩,⟨qs,rfl,k⟩,h2⟩
theorem qI {c:Cb}{G H:Hp}:∀{as:List Addr} {xs:List (List V)} {cs:List (List PC)},Ls (λa (x:List V)=>H a=some (.lst x)) as xs->Z2 c G xs cs->Ls (PLn c G H) as cs
 | [],[],[],_,_=>trivial
 | [],[],_::_,_,h=>h.elim
 | [],_::_,_,h,_=>h.elim
 |_::_,[],_,h,_=>h.elim
 |_::_,_::_,[],_,h=>h.elim
 |_::_,_::_,_::_,h1,h2=>⟨let ⟨qs,e,k⟩:=h2.1;⟨qs,by rw[h1.1,e],k⟩,qI h1.2 h2.2⟩
theorem ux {H H':Hp}:∀{as:List Addr} {xs:List (List V)},Ls (λa (x:List V)=>dif H H' a=some (.lst x)) as xs->(∀a∈as,H a=none)/\Ls (λa (x:List V)=>H' a=some (.lst x)) as xs
 | [],[],_=>⟨(λ_ z=>nomatch z),trivial⟩
 | [],_::_,h=>h.elim
 |_::_,[],h=>h.elim
 |_::_,_::_,h=>by
  obtain⟨h1,h2⟩:=ux h.2;obtain⟨z1,z2⟩:=bv h.1;exact⟨λa ha=>(l8.mp ha).elim (λz=>z▸z1) (h1 a),z2,h2⟩
section
variable {c:Cb}{BT:Addr}{β:Type}{R:Hp->Addr->β->Prop}{ok:β->Prop}
theorem qJ {G:Hp}{a:Addr}:∀{p:PC},PCAt c.cp G a p->G a≠none
 | .one (.plain _),⟨_,_,e⟩=>nz e
 | .one (.code _),⟨_,_,e⟩=>nz e
 | .one (.link _ _),⟨_,_,_,e⟩=>nz e
 | .one (.note _),⟨_,_,e⟩=>nz e
 | .strong _,⟨_,_,_,e,_⟩=>nz e
theorem m7 {G:Hp}:∀{as:List Addr} {ps:List PC},PCs c.cp G as ps->∀a∈as,G a≠none
 | [],[],_=>λ_ z=>nomatch z
 | [],_::_,h=>h.elim
 |_::_,[],h=>h.elim
 |_::_,_::_,h=>λa ha=>(l8.mp ha).elim (λz=>z▸qJ h.1) (m7 h.2 a)
def tF {G H H1:Hp}{r:Addr}{bs:List Addr}{cs:List (List PC)}(hr:H r=none)(sG:Same G H)(e:H1 r=some (.lst (bs.map V.ref)))(k:Ls (PLn c G H1) bs cs):r∉bs:=λhb=>by
 have key:∀{as:List Addr} {cs:List (List PC)},Ls (PLn c G H1) as cs->r∈as->∃ps,PLn c G H1 r ps:=by
  intro as
  induction as with
  |nil=>intro cs _ z;cases z
  |cons a as ih=>
   intro cs k z;cases cs with
   |nil=>exact k.elim
   |cons p cs=>
    rcases l8.mp z with y |y
    ·exact⟨p,y▸k.1⟩
    ·exact ih k.2 y
 obtain⟨ps,qs,e2,hp⟩:=key k hb;rw[e] at e2;have e3:bs.map V.ref=qs.map V.ref:=HO.lst.inj (Option.some.inj e2);have hq:r∈qs:=by
  have:V.ref r∈qs.map V.ref:=e3▸l43 hb;obtain⟨x,hx,ex⟩:=l23.mp this;cases ex;exact hx
 exact m7 hp r hq (sG.free hr)
def qK {G H:Hp}{l:Addr}{cs:List (List PC)}{Q:VK}{E:XK}(h:LAt (PL c.cp) G l cs)(sG:Same G H)(hl:cs.length<=100000)(q:∀r H',TxsR c G H H' r cs->Q (.ref r) H'):spOwn [.ref l] H Q E:=by
 obtain⟨as,el,k⟩:=h;obtain⟨xs,h1,h2⟩:=qH k;refine⟨l,xs,rfl,⟨as,sG _ _ el,h1.mono λa x e=>sG _ _ e⟩,by rw[h2.len];exact hl,λr H' s' n' ⟨bs,e,k'⟩=>q r H' ?_⟩;obtain⟨hn,k2⟩:=ux k';exact⟨s',n',bs,(bv e).2,hn,qI k2 h2⟩
abbrev fF:Stmt:=meth 48 3
def kS {k:Nat}(F:Fun K "texts" "Listing.texts" fF f fd)(T:TxB K mg c BT)(Yk:Def P w K mg base k "entry_texts" ["entries"] (spTxE c 6)):FnOk P w K mg base CX0 (k+1) f fd ["self"] (spTx c R ok λb=>∃es,b = .lst es):=by
 have sc:FnScope ["self"] ["self"] (ab fF):=mkS;refine F.oks sc λH Q hr h=>?_;obtain⟨a,b,G,rfl,hb,sG,⟨es,rfl⟩,hok,w6,q⟩:=h;obtain⟨dx,l,e,hl⟩:=hb;refine ak (xb1 (xret (xcd Yk hr (xac (xfld (xv 0)) xa0)))) ?_;refine bJ (ev_v rfl) (sG _ _ e) T.z18.cls T.u20 rfl _ ?_;exact⟨l,es,G,rfl,hl,sG,w6,q⟩
abbrev jq:Stmt:=meth 53 3
def or (F:Fun K "texts" "Table.texts" jq f fd)(T:TxB K mg c BT)(Dm:Def P w K mg base 1 "own_cells" ["cells"] spOwn):FnOk P w K mg base CX0 2 f fd ["self"] (spTx c R ok λb=>∃hd sd ls,b = .table hd sd ls):=by
 have sc:FnScope ["self","texts","line"] ["self"] (ab jq):=mkS;refine F.oks sc λH Q hr h=>?_;obtain⟨a,b,G,rfl,hb,sG,⟨hd,sd,ls,rfl⟩,hok,w6,q⟩:=h;obtain⟨dx,lh,lsd,ll,e,hhd,_,⟨as,el,hls⟩⟩:=hb;have w6:(hd++ls.flatten).length<=100000:=w6;rw[l6] at w6;refine ak (xbc (xst (i:=1) sc.nd (xcd Dm hr (xac (xfld (xv 0)) xa0)))
  (xbc (xfor PassesOwn.never rfl (xil (xfld (xv 0))) (xgm (i:=2) sc.nd)
  (xb1 (bo (xm plainAttrs_list slot_list_extend type_list_extend bQ (xv 1) (xac (xcd Dm hr (xac (xv 2) xa0)) xa0)))))
  (xb1 (xret (xv 1))))) ?_
 have hs:=sizeLine_eq;rw[oS];refine bJ (ev_v rfl) (sG _ _ e) T.g11.cls T.z15 rfl _ ?_
 right
 refine qK hhd sG nofun λr H1 ⟨s1,n1,bs,e1,hn1,k1⟩=>?_
 left
 have hbr:∀x∈bs,x≠r:=λx hx z=>tF n1 sG e1 k1 (z▸hx);have t1:TxI c G H H1 r bs hd:=⟨s1,e1,hn1,qG hbr k1⟩;refine⟨_,rfl,a,_,dx,_,_,rfl,s1 _ _ (sG _ _ e),T.g11.cls,T.g20,rfl,ll,rfl,⟨_,SqL.of (s1 _ _ (sG _ _ el))⟩,?_⟩;have hal:=hls.len;have hfl:∀i,((ls.take i).flatten).length<=ls.flatten.length:=λi=>by
  have:ls.flatten=(ls.take i).flatten++(ls.drop i).flatten:=by rw[<- l63,l47]
  rw[this,l6];omega
 refine bc (xs:=as.map V.ref) (λi σ H'=>∃x2 bs,σ=[some (.ref a),some (.ref r),x2]/\TxI c G H H' r bs (hd++(ls.take i).flatten)) ⟨none,bs,rfl,by rw[l62,List.flatten_nil,l25];exact t1⟩ ?_ ?_ ?_
 ·rintro i σ H3 _ ⟨_,_,_,t3⟩;exact SqL.of (t3.same _ _ (sG _ _ el))
 ·rintro i x σ H3 hx ⟨x2,bs,rfl,t3⟩;obtain⟨lc,cs,rfl,hci,_,hc⟩:=hls.get hx;have hst:(ls.take (i+1)).flatten=(ls.take i).flatten++cs:=by rw[l41,hci,l63];simp
  have h1:=hfl (i+1);rw[hst,l6] at h1;have hbl:=t3.ls.len;rw[l6] at hbl
  left
  refine⟨_,rfl, .inl ⟨rfl,_,SqL.of t3.at_⟩,_,rfl,?_⟩
  right
  refine qK hc (sG.trans t3.same) nofun λr5 H5 ⟨s5,n5,cs5,e5,hn5,k5⟩=>?_;have hcl:=k5.len;refine⟨r,r5,_,_,rfl,rfl,s5 _ _ t3.at_,e5,by rw[l5,l5,hs];omega,?_⟩;rw[<- l17];refine⟨_,bs++cs5,rfl,?_⟩;rw[hst,<- l28];exact t3.more n1 s5 hn5 k5
 ·rintro σ H3 ⟨x2,bs,rfl,t3⟩;rw[l5,hal,l38] at t3;exact⟨_,rfl,q r H3 (t3.done n1)⟩
end
abbrev AnyB:=(n:Nat)×Bl n
def aq:(n:Nat)->Bl n->List AnyB
 |0,b=>[⟨0,b⟩]
 |n+1,b=>⟨n+1,b⟩::(match (b:BkF (Bl n)) with | .quote bs=>bs.flatMap (aq n) |_=>[])
def dC (P:Program)(w:World)(K:Frag)(mg:Str->Option Value)(base:Heap)(k:Nat)(g:Addr)(c:Cb)(G:Hp)(ok:AnyB->Prop)(M:Nat)(St:List AnyB->Hp->Prop):Prop:=
 ∃x1 sp,FnV P w K mg base k g [x1] sp/\∀vis H a (x:AnyB),ok x->BAt c x.1 G a x.2->St vis H->vis.length < M->∀(Q:VK) E,(∀v H',St (vis++[x]) H'->Q v H')->sp [.ref a] H Q E
inductive spWk (c:Cb)(n:Nat)(g:Addr)(G:Hp)(ok:AnyB->Prop)(M:Nat)(St:List AnyB->Hp->Prop)(S:Bl n->Prop)(vs:List V)(H:Hp)(Q:VK)(u3:XK):Prop
 |mk (a b vis)(_:vs=[.ref a, .ref g])(_:BAt c n G a b)(_:S b)(_:∀x∈aq n b,ok x)(_:St vis H)(_:vis.length+(aq n b).length<=M)(_:∀H',St (vis++aq n b) H'->Q .non H')
section
variable {c:Cb}{BT:Addr}{g:Addr}{G:Hp}{ok:AnyB->Prop}{M:Nat}{St:List AnyB->Hp->Prop}
abbrev bN:Stmt:=meth 37 1
def ou {k n:Nat}(F:Fun K "walk" "Block.walk" bN f fd)(hW:dC P w K mg base k g c G ok M St):FnOk P w K mg base CX0 (k+1) f fd p7 (spWk c n g G ok M St λb=>aq n b=[⟨n,b⟩]):=by
 have sc:FnScope p7 p7 (ab bN):=mkS;refine F.oks sc λH Q hr h=>?_;obtain⟨a,b,vis,rfl,ha,hS,hok,st,hM,q⟩:=h;obtain⟨x1,sp,fV,hsp⟩:=hW;rw[hS] at hok hM q;refine ak (xb1 (bo (xcV (i:=1) (k:=k) rfl (Or.inl rfl) hr.mono (xac (xv 0) xa0)))) ?_;rw[nN];refine⟨g,_,sp,rfl,fV,_,rfl,?_⟩;exact hsp vis H a ⟨n,b⟩ (hok _ l10) ha st (by have:vis.length+1<=M:=hM;omega) _ _ λv H' st'=>q H' st'
abbrev fX:Stmt:=meth 41 3
def kU:FnScope ["self","worker","block"] p7 (ab fX):=mkS
def oy {k kw n:Nat}(hkw:kw<=k)(F:Fun K "walk" "Quote.walk" fX f fd)(T:TxB K mg c BT)(sSt:∀vis H,St vis H->Same G H)(hW:dC P w K mg base kw g c G ok M St)
  (hM:∀b H a,BAt c n H a b->∃C dx fs sp,H a=some (.ins C dx fs)/\fs.lookup ("walk":Str)=none/\MethV P w K mg base k C "walk" p7 sp/\∀vs H Q E,spWk c n g G ok M St (λx=>x=b) vs H Q E->sp vs H Q E):FnOk P w K mg base CX0 (k+1) f fd p7 (spWk c (n+1) g G ok M St λb=>∃bs,b=BkF.quote bs):=by
 have sc:=kU;refine F.oks sc λH Q hr h=>?_;obtain⟨a,b,vis,rfl,ha,⟨bs,rfl⟩,hok,st,hMx,q⟩:=h;obtain⟨x1,sp,fV,hsp⟩:=hW;obtain⟨dx,l,e,as,el,hls⟩:=id ha;have eo:aq (n+1) (BkF.quote bs:BkF (Bl n))=⟨n+1,(BkF.quote bs:BkF (Bl n))⟩::bs.flatMap (aq n):=rfl;rw[eo] at hok hMx q;rw[l9] at hMx;refine ak (xbc (bo (xcV (i:=1) (k:=kw) rfl (Or.inl rfl) hr.mono (xac (xv 0) xa0)))
  (xb1 (xfor PassesOwn.never rfl (xil (xfld (xv 0))) (xgm (i:=2) sc.nd)
  (xb1 (bo (xmV (k:=k) (xv 2) hr.mono (xac (xv 1) xa0))))))) ?_
 rw[u6];refine⟨g,_,sp,rfl,fV,_,rfl,?_⟩
 right
 refine hsp vis H a ⟨n+1,(BkF.quote bs:BkF (Bl n))⟩ (hok _ l10) ha st nofun _ _ λv H1 st1=>?_;have sG:=sSt _ _ st1;refine⟨_,rfl,a,_,dx,_,_,rfl,sG _ _ e,T.q13.cls,T.g14,rfl,l,rfl,⟨_,SqL.of (sG _ _ el)⟩,?_⟩;have hal:=hls.len;have hfl:∀i,((bs.take i).flatMap (aq n)).length<=(bs.flatMap (aq n)).length:=λi=>by
  have:bs.flatMap (aq n)=(bs.take i).flatMap (aq n)++(bs.drop i).flatMap (aq n):=by rw[<- l44,l47]
  rw[this,l6];omega
 refine bc (xs:=as.map V.ref) (λi σ H'=>∃x2,σ=[some (.ref a),some (.ref g),x2]/\St (vis++(⟨n+1,(BkF.quote bs:BkF (Bl n))⟩::(bs.take i).flatMap (aq n))) H') ⟨none,rfl,st1⟩ ?_ ?_ ?_
 ·rintro i σ H3 _ ⟨_,_,st3⟩;exact SqL.of (sSt _ _ st3 _ _ el)
 ·rintro i x σ H3 hx ⟨x2,rfl,st3⟩;obtain⟨a',b,rfl,hbi,_,hb⟩:=hls.get hx;have hst:(bs.take (i+1)).flatMap (aq n)=(bs.take i).flatMap (aq n)++aq n b:=by rw[l41,hbi,l44];simp
  have h1:=hfl (i+1);rw[hst,l6] at h1;obtain⟨C,dx',fs,sp',e1,e2,V',hsp'⟩:=hM b G a' hb
  left
  refine⟨_,rfl,a',C,dx',fs,_,sp',rfl,sSt _ _ st3 _ _ e1,e2,V',_,rfl,?_⟩
  right
  refine hsp' _ _ _ _ ⟨a',b,_,rfl,hb,rfl,λx hx=>hok x (l15 _ (l51.mpr ⟨b,l18 hbi,hx⟩)),st3,by rw[l6,l9];omega,λH4 st4=>⟨_,rfl,?_⟩⟩;rw[hst];rw[l28,l74] at st4;exact st4
 ·rintro σ H3 ⟨x2,rfl,st3⟩;rw[l5,hal,l38] at st3;exact q H3 st3
def mw {kw:Nat}(F:Fun K "walk" "Quote.walk" fX f fd)(T:TxB K mg c BT)(sSt:∀vis H,St vis H->Same G H)(hW:dC P w K mg base kw g c G ok M St):FnOk P w K mg base CX0 (kw+1) f fd p7 (spWk c 0 g G ok M St λb=>b=(BkF.quote []:BkF Empty)):=by
 have sc:=kU;refine F.oks sc λH Q hr h=>?_;obtain⟨a,b,vis,rfl,ha,rfl,hok,st,hMx,q⟩:=h;obtain⟨x1,sp,fV,hsp⟩:=hW;obtain⟨dx,l,e,as,el,hls⟩:=id ha;cases as with
 |cons _ _=>exact hls.elim
 |nil=>
 refine ak (xbc (bo (xcV (i:=1) (k:=kw) rfl (Or.inl rfl) hr.mono (xac (xv 0) xa0)))
  (xb1 (xfor PassesOwn.never rfl (xil (xfld (xv 0))) (xgm (i:=2) sc.nd)
  (xb1 (bo (xmV (k:=kw) (xv 2) hr.mono (xac (xv 1) xa0))))))) ?_
 rw[u6];refine⟨g,_,sp,rfl,fV,_,rfl,?_⟩
 right
 refine hsp vis H a ⟨0,(BkF.quote []:BkF Empty)⟩ (hok _ l10) ha st (by have:vis.length+1<=M:=hMx;omega) _ _ λv H1 st1=>?_;have sG:=sSt _ _ st1;refine⟨_,rfl,a,_,dx,_,_,rfl,sG _ _ e,T.q13.cls,T.g14,rfl,l,rfl,⟨_,SqL.of (sG _ _ el)⟩,?_⟩;refine bc (xs:=[]) (λi σ H'=>H'=H1) rfl ?_ ?_ ?_
 ·rintro i σ H3 _ rfl;exact SqL.of (sG _ _ el)
 ·rintro i x σ H3 hx _;cases hx
 ·rintro σ H3 rfl;exact q H3 st1
end
open PySem L2 Lm Lw PySem.Builtin.Int
abbrev dPs (ps:List PC):PyData := .list (ps.map dP)
inductive spLTxE (n:Nat)(vs:List V)(H:Hp)(Q:VK)(u3:XK):Prop
 |mk (v:V)(es:List (En n))(G:Hp)(_:vs=[v])(_:Dn G v (.list (es.map (dE n))))(_:Same G H)(_:(aM n es).length<=100000)(_:∀r xs H',Same H H'->H r=none->H' r=some (.lst xs)->DnAll G xs ((aM n es).map dPs)->Q (.ref r) H')
def zE (spI:Sp):Nat->Prop
 |0=>True
 |m+1=>∀vs H Q E,spLTxE m vs H Q E->spI vs H Q E
section
abbrev wg:Stmt:=top 82
def qL {k:Nat}(n:Nat){spI:Sp}(F:Fun K "_law_entry_texts" "_law_entry_texts" wg f fd)(Yl:Def P w K mg base k "_law_entry_texts" ["_law_entries_here"] spI)(hI:zE spI n):FnOk P w K mg base CX0 (k+1) f fd ["_law_entries_here"] (spLTxE n):=by
 have sc:FnScope ["_law_entries_here","_law_found","_law_sign","_law_parts_here","_law_within"] ["_law_entries_here"] (ab wg):=mkS;refine F.oks sc λH Q hr h=>?_;obtain⟨v,es,G,rfl,dv,sG,hl,q⟩:=h;refine ak (xbc (xst (i:=1) sc.nd (xlst xa0))
  (xbc (xfor PassesOwn.never rfl (xil (xv 0)) (xgt rfl (xgsc (xgm (i:=2) sc.nd) (xgsc (xgm (i:=3) sc.nd) (xgsc (xgm (i:=4) sc.nd) xgs0))))
  (xbc (bo (xmA (xv 1) (xac (xv 3) xa0)))
  (xb1 (bo (xm plainAttrs_list slot_list_extend type_list_extend bQ (xv 1) (xac (xcd Yl hr (xac (xv 4) xa0)) xa0))))))
  (xb1 (xret (xv 1))))) ?_
 have hs:=sizeLine_eq;obtain⟨l,xs,rfl,el,da⟩:=aZ dv;have w6:xs.length=es.length:=by rw[da.len,l5]
 rw[xB];refine ba λU0 eU=>?_;refine⟨bg0,λr hr0=>?_⟩;have s1:=ac hr0 (.lst []);have e1:upd H r (.lst []) r=some (.lst []):=aa
 left
 refine eU _ _ _ ?_;generalize upd H r (.lst [])=H1 at s1 e1 ⊢;refine⟨_,rfl,l,rfl,⟨_,SqL.of (s1 _ _ (sG _ _ el))⟩,?_⟩;have h0:aM n []=[]:=by cases n <;> rfl
 refine bc (xs:=xs) (λi σ H'=>∃x2 x3 x4 ts,σ=[some (.ref l),some (.ref r),x2,x3,x4]/\Same H H'/\H' r=some (.lst ts)/\DnAll G ts ((aM n (es.take i)).map dPs)) ⟨none,none,none,[],rfl,s1,e1,by rw[l62,h0];exact .nil⟩ ?_ ?_ ?_
 ·rintro i σ H3 _ ⟨_,_,_,_,_,s3,_⟩;exact SqL.of (s3 _ _ (sG _ _ el))
 ·rintro i x σ H3 hx ⟨x2,x3,x4,ts,rfl,s3,e3,dt⟩;obtain⟨dd,hdi,hdx⟩:=da.getV hx;rw[List.getElem?_map] at hdi;obtain⟨en,hei,rfl⟩:=l52.mp hdi;cases n with
  |zero=>exact nomatch en
  |succ m=>
   have htl:ts.length=(aM (m+1) (es.take i)).length:=by rw[dt.len,l5]
   have hle1:=uv es (i+1);rw[m6 hei,l6,l9] at hle1;obtain⟨b0,ys,rfl,eb,dy⟩:=iP hdx;obtain⟨y0,ys,rfl,d0,dy⟩:=ag dy;obtain⟨y1,ys,rfl,d1,dy⟩:=ag dy;obtain⟨y2,ys,rfl,d2,dy⟩:=ag dy;cases dU dy;refine⟨b0,_,rfl,SqT.of (s3 _ _ (sG _ _ eb)),rfl,?_⟩;refine⟨_,_,rfl,_,_,rfl,_,_,rfl,rfl,?_⟩
   left
   refine⟨_,rfl, .inl ⟨rfl,_,SqL.of e3⟩,_,rfl,r,_,_,rfl,rfl,e3,by rw[hs];omega,?_⟩;have s4:Same H (upd H3 r (.lst (ts++[y1]))):=aj hr0 s3;have e4:upd H3 r (.lst (ts++[y1])) r=some (.lst (ts++[y1])):=aa;generalize upd H3 r (.lst (ts++[y1]))=H4 at s4 e4 ⊢;refine⟨_,rfl, .inl ⟨rfl,_,SqL.of e4⟩,_,rfl,?_⟩
   right
   refine hI _ _ _ _ ⟨y2,EnF.within en,G,rfl,d2,sG.trans s4,by omega,λr5 us H5 s5 n5 e5 d5=>?_⟩;refine⟨r,r5,_,_,rfl,rfl,s5 _ _ e4,e5,by rw[l6,d5.len,l5,hs];show _+1+_<=_;omega,?_⟩;refine⟨_,_,_,ts++[y1]++us,rfl,aj hr0 (s4.trans s5),aa,?_⟩;rw[m6 hei,l17,l20,l28];exact dt.app (.cons d1 d5)
 ·rintro σ H3 ⟨x2,x3,x4,ts,rfl,s3,e3,dt⟩;rw[w6,l38] at dt;exact⟨_,rfl,q r ts H3 s3 hr0 e3 dt⟩
end
def jr {te:TE}{A u:TS}{D:Ends}{σ:St}{H0 H:Hp}{k y z:Str}(s:Same H0 H)(ev:∀H',Same H0 H'->Ev te σ H' (.str k))(hk:k≠y)(hz:k≠z)(h:∀H',Same H0 H'->u D σ H'):tSeq (tIfS (tOr (tTest (tOp rEq te (tC (.str y)))) (tTest (tOp rEq te (tC (.str z))))) A aY) u D σ H:=
 s_if (D:={ D with nx:=u D }) (g:=aY) (decide (k=y)||decide (k=z)) (t_or _ _ (ik (ev H s) ev_c) λ_ H1 s1=>ik (ev H1 (s.trans s1)) ev_c) (λ_ _ e=>by rw[decide_eq_false hk,decide_eq_false hz] at e;cases e) λH' s' _=>h H' (s.trans s')
def wj {te:TE}{A u:TS}{D:Ends}{σ:St}{H0 H:Hp}{k y z:Str}(s:Same H0 H)(ev:∀H',Same H0 H'->Ev te σ H' (.str k))(hk:(decide (k=y)||decide (k=z))=true)(h:∀H',Same H0 H'->A { D with nx:=u D } σ H'):tSeq (tIfS (tOr (tTest (tOp rEq te (tC (.str y)))) (tTest (tOp rEq te (tC (.str z))))) A aY) u D σ H:=
 s_if (D:={ D with nx:=u D }) (g:=aY) (decide (k=y)||decide (k=z)) (t_or _ _ (ik (ev H s) ev_c) λ_ H1 s1=>ik (ev H1 (s.trans s1)) ev_c) (λH' s' _=>h H' (s.trans s')) λ_ _ e=>by rw[hk] at e;cases e
inductive spLTx {β:Type}(g:β->PyData)(vs:List V)(H:Hp)(Q:VK)(u3:XK):Prop
 |mk (v:V)(b:BkF β)(G:Hp)(_:vs=[v])(_:Dn G v (dBF g b))(_:Same G H)(_:(bn b).length<=100000)(_:∀r xs H',Same H H'->H r=none->H' r=some (.lst xs)->DnAll G xs ((bn b).map dPs)->Q (.ref r) H')
section
variable {β:Type}{g:β->PyData}
abbrev sLTx:Stmt:=top 83
def yx {k:Nat}(F:Fun K "_law_texts" "_law_texts" sLTx f fd)(hL:mg "list"=none)(Yl:Def P w K mg base k "_law_entry_texts" ["_law_entries_here"] (spLTxE 6)):FnOk P w K mg base CX0 (k+1) f fd ["_law_block_here"] (spLTx g):=by
 have sc:FnScope ["_law_block_here","_law_found","_law_line"] ["_law_block_here"] (ab sLTx):=mkS;refine F.oks sc λ{_ _ _ s _ _}H Q hr h=>?_;obtain⟨v,b,G,rfl,dv,sG,hl,q⟩:=h;refine ak (xbc (xif (xor (aA aI (xix ar (xv 0) xint (λ_ _=>rfl)) xstr (ai _)) (xor1 (aA aI (xix ar (xv 0) xint (λ_ _=>rfl)) xstr (ai _)))).xt (xb1 (xret (xlst (xac (xix ar (xv 0) xint (λ_ _=>rfl)) xa0)))) xb0)
  (xbc (xif (aA aI (xix ar (xv 0) xint (λ_ _=>rfl)) xstr (ai _)) (xb1 (xret (xlst (xac (xix ar (xv 0) xint (λ_ _=>rfl)) xa0)))) xb0)
  (xbc (xif (aA aI (xix ar (xv 0) xint (λ_ _=>rfl)) xstr (ai _)) (xb1 (xret (xcd Yl hr (xac (xix ar (xv 0) xint (λ_ _=>rfl)) xa0)))) xb0)
  (xbc (xif (aA aI (xix ar (xv 0) xint (λ_ _=>rfl)) xstr (ai _)) (xbc (xst (i:=1) sc.nd (xcTy ao hL rfl (xac (xix ar (xv 0) xint (λ_ _=>rfl)) xa0)))
  (xbc (xfor PassesOwn.never rfl (xil (xix ar (xv 0) xint (λ_ _=>rfl))) (xgm (i:=2) sc.nd)
  (xb1 (bo (xm plainAttrs_list slot_list_extend type_list_extend bQ (xv 1) (xac (xv 2) xa0)))))
  (xb1 (xret (xv 1))))) xb0)
  (xb1 (xret (xlst xa0))))))) ?_
 have hs:=sizeLine_eq;obtain⟨b0,ys,rfl,eb,dy⟩:∃b0 ys,v = .ref b0/\G b0=some (.tup ys)/\∃ds,dBF g b = .tuple ds/\DnAll G ys ds:=by
  cases b <;> exact let ⟨b0,ys,e,eb,dy⟩:=iP dv;⟨b0,ys,e,eb,_,rfl,dy⟩
 have evx:∀{j:Nat} {y:V} {x1 x2:Option V},ys[j]? = some y->∀H',Same H H'->Ev (tOp (rIxT K) (tVar 0) (tC (.int j))) [some (.ref b0),x1,x2] H' y:=λhj H' s'=>eg (ev_v rfl) ev_c (SqT.of (s' _ _ (sG _ _ eb))) (ay hj);obtain⟨ds,hds,dy⟩:=dy;rw[oS];have one:∀{j:Nat} {y:V} {H1:Hp} {D:Ends} {ps:List PC},D.rt=Q->bn b=[ps]->Dn G y (dPs ps)->ys[j]? = some y->Same H H1->tRet (tLst (tCons (tOp (rIxT K) (tVar 0) (tC (.int j))) tNil)) D [some (.ref b0),none,none] H1:=by
  intro j y H1 D ps hD hb hy hj s1;refine evx hj H1 s1 _ ⟨bg1,λr hr0=>?_⟩;show D.rt _ _;rw[hD];refine q r [y] _ (s1.trans (ac hr0 _)) (s1.free hr0) aa ?_;rw[hb];exact .cons hy .nil
 have no:∀{H1:Hp} {D:Ends},D.rt=Q->bn b=[]->Same H H1->tRet (tLst tNil) D [some (.ref b0),none,none] H1:=by
  intro H1 D hD hb s1;refine⟨bg0,λr hr0=>?_⟩;show D.rt _ _;rw[hD];refine q r [] _ (s1.trans (ac hr0 _)) (s1.free hr0) aa ?_;rw[hb];exact .nil
 cases b with
 |heading n ps |note n ps=>
  cases hds;obtain⟨y0,ys,rfl,d0,dy⟩:=ag dy;obtain⟨y1,ys,rfl,d1,dy⟩:=ag dy;obtain⟨y2,ys,rfl,d2,dy⟩:=ag dy;cases bu d0;refine wj (Same.refl H) (evx (j:=0) rfl) ∅ λH1 s1=>one (j:=2) rfl rfl d2 rfl s1
 |para ps=>
  cases hds;obtain⟨y0,ys,rfl,d0,dy⟩:=ag dy;obtain⟨y1,ys,rfl,d1,dy⟩:=ag dy;cases bu d0;refine jr (Same.refl H) (evx (j:=0) rfl) ∅ ∅ λH1 s1=>cA s1 (evx (j:=0) rfl) rfl λH1 s1=>one (j:=1) rfl rfl d1 rfl s1
 |lst es=>
  cases hds;obtain⟨y0,ys,rfl,d0,dy⟩:=ag dy;obtain⟨y1,ys,rfl,d1,dy⟩:=ag dy;cases bu d0;refine jr (Same.refl H) (evx (j:=0) rfl) ∅ ∅ λH1 s1=>aD s1 (evx (j:=0) rfl) ∅ λH1 s1=>cA s1 (evx (j:=0) rfl) rfl λH1 s1=>?_;refine evx (j:=1) rfl H1 s1 _ ?_
  right
  exact⟨y1,es,G,rfl,d1,sG.trans s1,hl,λr xs H' s' n' e' d'=>q r xs H' (s1.trans s') (s1.free n') e' d'⟩
 |table hd sd ls=>
  cases hds;obtain⟨y0,ys,rfl,d0,dy⟩:=ag dy;obtain⟨y1,ys,rfl,d1,dy⟩:=ag dy;obtain⟨y2,ys,rfl,d2,dy⟩:=ag dy;obtain⟨y3,ys,rfl,d3,dy⟩:=ag dy;cases bu d0;refine jr (Same.refl H) (evx (j:=0) rfl) ∅ ∅ λH1 s1=>aD s1 (evx (j:=0) rfl) ∅ λH1 s1=>aD s1 (evx (j:=0) rfl) ∅ λH1 s1=>cA s1 (evx (j:=0) rfl) rfl λH1 s1=>?_;obtain⟨l1,xs1,rfl,el1,dx1⟩:=aZ d1;obtain⟨l3,xs3,rfl,el3,dx3⟩:=aZ d3;have hl:(hd++ls.flatten).length<=100000:=hl;rw[l6] at hl;have hx3:xs3.length=ls.length:=by rw[dx3.len,l5]
  refine evx (j:=1) rfl H1 s1 _ ⟨l1,_,rfl, .inl (SqL.of (s1 _ _ (sG _ _ el1))),λp hp=>?_⟩;have s2:Same H (upd H1 p (.lst xs1)):=s1.trans (ac hp _);have e2:upd H1 p (.lst xs1) p=some (.lst xs1):=aa;have hpH:=s1.free hp
  left
  generalize upd H1 p (.lst xs1)=H2 at s2 e2 ⊢;refine⟨_,rfl,b0,_,3,_,rfl,rfl,SqT.of (s2 _ _ (sG _ _ eb)),ay (j:=3) rfl,l3,rfl,⟨_,SqL.of (s2 _ _ (sG _ _ el3))⟩,?_⟩;have hfl:∀i,((ls.take i).flatten).length<=ls.flatten.length:=λi=>by
   have:ls.flatten=(ls.take i).flatten++(ls.drop i).flatten:=by rw[<- l63,l47]
   rw[this,l6];omega
  refine bc (xs:=xs3) (λi σ H'=>∃x2 ts,σ=[some (.ref b0),some (.ref p),x2]/\Same H H'/\H' p=some (.lst ts)/\DnAll G ts ((hd++(ls.take i).flatten).map dPs)) ⟨none,xs1,rfl,s2,e2,by rw[l62,List.flatten_nil,l25];exact dx1⟩ ?_ ?_ ?_
  ·rintro i σ H3 _ ⟨_,_,_,s3,_⟩;exact SqL.of (s3 _ _ (sG _ _ el3))
  ·rintro i x σ H3 hx ⟨x2,ts,rfl,s3,e3,dt⟩;obtain⟨dd,hdi,hdx⟩:=dx3.getV hx;rw[List.getElem?_map] at hdi;obtain⟨cs,hci,rfl⟩:=l52.mp hdi;obtain⟨lx,us,rfl,elx,dus⟩:=aZ hdx;have hst:(ls.take (i+1)).flatten=(ls.take i).flatten++cs:=by rw[l41,hci,l63];simp
   have h1:=hfl (i+1);rw[hst,l6] at h1;have htl:=dt.len;rw[l5,l6] at htl;have hul:=dus.len;rw[l5] at hul
   left
   refine⟨_,rfl, .inl ⟨rfl,_,SqL.of e3⟩,_,rfl,p,lx,ts,us,rfl,rfl,e3,s3 _ _ (sG _ _ elx),by rw[hs];omega,?_⟩;refine⟨_,ts++us,rfl,aj hpH s3,aa,?_⟩;rw[hst,<- l28,l17];exact dt.app dus
  ·rintro σ H3 ⟨x2,ts,rfl,s3,e3,dt⟩;rw[hx3,l38] at dt;exact⟨_,rfl,q p ts H3 s3 hpH e3 dt⟩
 |_=>
  cases hds;obtain⟨y0,ys,rfl,d0,dy⟩:=ag dy;cases bu d0;exact jr (Same.refl H) (evx (j:=0) rfl) ∅ ∅ λH1 s1=>aD s1 (evx (j:=0) rfl) ∅ λH1 s1=>aD s1 (evx (j:=0) rfl) ∅ λH1 s1=>aD s1 (evx (j:=0) rfl) ∅ λH1 s1=>no rfl rfl s1
end
def odBF {β:Type}(g:β->PyData)(od:β->List PyData)(b:BkF β):List PyData:=dBF g b::(match b with | .quote bs=>bs.flatMap od |_=>[])
inductive spOrd {β:Type}(g:β->PyData)(od:β->List PyData)(vs:List V)(H:Hp)(Q:VK)(u3:XK):Prop
 |mk (v:V)(bs:List β)(G:Hp)(_:vs=[v])(_:Dn G v (.list (bs.map g)))(_:Same G H)(_:(bs.flatMap od).length<=100000)(_:∀r xs H',Same H H'->H r=none->H' r=some (.lst xs)->DnAll G xs (bs.flatMap od)->Q (.ref r) H')
section
variable {β:Type}{g:β->PyData}{od:β->List PyData}
abbrev sOrd:Stmt:=top 85
def yz:FnScope ["_law_trees","_law_found","_law_told"] ["_law_trees"] (ab sOrd):=mkS
def m8 {k:Nat}{spI:Sp}(F:Fun K "_law_order" "_law_order" sOrd f fd)(Dj:Def P w K mg base k "_law_order" ["_law_trees"] spI)(hI:∀vs H Q E,spOrd g od vs H Q E->spI vs H Q E):FnOk P w K mg base CX0 (k+1) f fd ["_law_trees"] (spOrd (dBF g) (odBF g od)):=by
 have sc:=yz;refine F.oks sc λ{_ _ _ s _ _}H Q hr h=>?_;obtain⟨v,bs,G,rfl,dv,sG,hl,q⟩:=h;refine ak (xbc (xst (i:=1) sc.nd (xlst xa0))
  (xbc (xfor PassesOwn.never rfl (xil (xv 0)) (xgm (i:=2) sc.nd)
  (xbc (bo (xmA (xv 1) (xac (xv 2) xa0)))
  (xb1 (xif (aA aI (xix ar (xv 2) xint (λ_ _=>rfl)) xstr (ai _)) (xb1 (bo (xm plainAttrs_list slot_list_extend type_list_extend bQ (xv 1) (xac (xcd Dj hr (xac (xix ar (xv 2) xint (λ_ _=>rfl)) xa0)) xa0)))) xb0))))
  (xb1 (xret (xv 1))))) ?_
 have hs:=sizeLine_eq;obtain⟨l,xs,rfl,el,da⟩:=aZ dv;have w6:xs.length=bs.length:=by rw[da.len,l5]
 rw[oS];refine ba λU0 eU=>?_;refine⟨bg0,λr hr0=>?_⟩;have s1:=ac hr0 (.lst []);have e1:upd H r (.lst []) r=some (.lst []):=aa
 left
 refine eU _ _ _ ?_;generalize upd H r (.lst [])=H1 at s1 e1 ⊢;refine⟨_,rfl,l,rfl,⟨_,SqL.of (s1 _ _ (sG _ _ el))⟩,?_⟩;have hfl:∀i,((bs.take i).flatMap (odBF g od)).length<=(bs.flatMap (odBF g od)).length:=λi=>by
  have:bs.flatMap (odBF g od)=(bs.take i).flatMap (odBF g od)++(bs.drop i).flatMap (odBF g od):=by rw[<- l44,l47]
  rw[this,l6];omega
 refine bc (xs:=xs) (λi σ H'=>∃x2 ts,σ=[some (.ref l),some (.ref r),x2]/\Same H H'/\H' r=some (.lst ts)/\DnAll G ts ((bs.take i).flatMap (odBF g od))) ⟨none,[],rfl,s1,e1, .nil⟩ ?_ ?_ ?_
 ·rintro i σ H3 _ ⟨_,_,_,s3,_⟩;exact SqL.of (s3 _ _ (sG _ _ el))
 ·rintro i x σ H3 hx ⟨x2,ts,rfl,s3,e3,dt⟩;obtain⟨dd,hdi,hdx⟩:=da.getV hx;rw[List.getElem?_map] at hdi;obtain⟨b,hbi,rfl⟩:=l52.mp hdi;have hst:(bs.take (i+1)).flatMap (odBF g od)=(bs.take i).flatMap (odBF g od)++odBF g od b:=by rw[l41,hbi,l44];simp
  have h1:=hfl (i+1);rw[hst,l6] at h1;have htl:=dt.len;obtain⟨b0,ys,rfl,eb,ds,hds,dy⟩:∃b0 ys,x = .ref b0/\G b0=some (.tup ys)/\∃ds,dBF g b = .tuple ds/\DnAll G ys ds:=by
   cases b <;> exact let ⟨b0,ys,e,eb,dy⟩:=iP hdx;⟨b0,ys,e,eb,_,rfl,dy⟩
  left
  have h2:1<=(odBF g od b).length:=by unfold odBF;rw[l9];omega
  refine⟨_,rfl, .inl ⟨rfl,_,SqL.of e3⟩,_,rfl,r,_,_,rfl,rfl,e3,by rw[hs];omega,?_⟩;have s4:Same H (upd H3 r (.lst (ts++[.ref b0]))):=aj hr0 s3;have e4:upd H3 r (.lst (ts++[.ref b0])) r=some (.lst (ts++[.ref b0])):=aa;generalize upd H3 r (.lst (ts++[.ref b0]))=H4 at s4 e4 ⊢;have evx:∀{j:Nat} {y:V},ys[j]? = some y->∀H',Same H H'->Ev (tOp (rIxT K) (tVar 2) (tC (.int j))) [some (.ref l),some (.ref r),some (.ref b0)] H' y:=λhj H' s'=>eg (ev_v rfl) ev_c (SqT.of (s' _ _ (sG _ _ eb))) (ay hj);have dsn:DnAll G (ts++[.ref b0]) ((bs.take i).flatMap (odBF g od)++[dBF g b]):=dt.app (.cons hdx .nil);have fin:∀H5,Same H4 H5->odBF g od b=[dBF g b]->∃x2 ts',[some (V.ref l),some (V.ref r),some (V.ref b0)]=[some (V.ref l),some (V.ref r),x2]/\Same H H5/\H5 r=some (.lst ts')/\DnAll G ts' ((bs.take (i+1)).flatMap (odBF g od)):=λH5 s5 ho=>⟨_,_,rfl,s4.trans s5,s5 _ _ e4,by rw[hst,ho];exact dsn⟩;cases b with
  |quote cs=>
   cases hds;obtain⟨y0,ys,rfl,d0,dy⟩:=ag dy;obtain⟨y1,ys,rfl,d1,dy⟩:=ag dy;cases bu d0;refine s_if _ (ik (evx (j:=0) rfl H4 s4) ev_c) (λH5 s5 _=>?_) λ_ _ z=>absurd rfl (of_decide_eq_false z);have s45:=s4.trans s5;have ho:odBF g od (BkF.quote cs)=dBF g (BkF.quote cs)::cs.flatMap od:=rfl;rw[ho,l9] at h1;refine⟨_,rfl, .inl ⟨rfl,_,SqL.of (s5 _ _ e4)⟩,evx (j:=1) rfl H5 s45 _ ?_⟩
   right
   refine hI _ _ _ _ ⟨y1,cs,G,rfl,d1,sG.trans s45,by omega,λr6 us H6 s6 n6 e6 d6=>?_⟩;refine⟨r,r6,_,_,rfl,rfl,s6 _ _ (s5 _ _ e4),e6,by rw[l6,d6.len,hs];show _+1+_<=_;omega,?_⟩;refine⟨_,_,rfl,aj hr0 (s45.trans s6),aa,?_⟩;rw[hst,ho,l28];exact dt.app (.cons hdx d6)
  |_=>
   cases hds;obtain⟨y0,ys,rfl,d0,dy⟩:=ag dy;cases bu d0;exact s_if _ (ik (evx (j:=0) rfl H4 s4) ev_c) (λ_ _ z=>absurd (of_decide_eq_true z) ∅) λH5 s5 _=>fin H5 s5 rfl
 ·rintro σ H3 ⟨x2,ts,rfl,s3,e3,dt⟩;rw[w6,l38] at dt;exact⟨_,rfl,q r ts H3 s3 hr0 e3 dt⟩
def qM {k:Nat}{spI:Sp}{g:Empty->PyData}{od:Empty->List PyData}(F:Fun K "_law_order" "_law_order" sOrd f fd)(Dj:Def P w K mg base k "_law_order" ["_law_trees"] spI):FnOk P w K mg base CX0 (k+1) f fd ["_law_trees"] (spOrd g od):=by
 have sc:=yz;refine F.oks sc λH Q hr h=>?_;obtain⟨v,bs,G,rfl,dv,sG,hl,q⟩:=h;obtain rfl:bs=[]:=by cases bs with |nil=>rfl |cons b _=>exact nomatch b
 refine ak (xbc (xst (i:=1) sc.nd (xlst xa0))
  (xbc (xfor PassesOwn.never rfl (xil (xv 0)) (xgm (i:=2) sc.nd)
  (xbc (bo (xmA (xv 1) (xac (xv 2) xa0)))
  (xb1 (xif (aA aI (xix ar (xv 2) xint (λ_ _=>rfl)) xstr (ai _)) (xb1 (bo (xm plainAttrs_list slot_list_extend type_list_extend bQ (xv 1) (xac (xcd Dj hr (xac (xix ar (xv 2) xint (λ_ _=>rfl)) xa0)) xa0)))) xb0))))
  (xb1 (xret (xv 1))))) ?_
 obtain⟨l,xs,rfl,el,da⟩:=aZ dv;cases dU da;rw[oS];refine⟨bg0,λr hr0=>?_⟩;have s1:=ac hr0 (.lst []);have e1:upd H r (.lst []) r=some (.lst []):=aa
 left
 generalize upd H r (.lst [])=H1 at s1 e1 ⊢;refine⟨_,rfl,l,rfl,⟨_,SqL.of (s1 _ _ (sG _ _ el))⟩,?_⟩;refine bc (xs:=[]) (λi σ H'=>σ=[some (.ref l),some (.ref r),none]/\H'=H1) ⟨rfl,rfl⟩ ?_ ?_ ?_
 ·rintro i σ H3 _ ⟨_,rfl⟩;exact SqL.of (s1 _ _ (sG _ _ el))
 ·rintro i x σ H3 hx _;cases hx
 ·rintro σ H3 ⟨rfl,rfl⟩;exact⟨_,rfl,q r [] H3 s1 hr0 e1 .nil⟩
end
end K12
namespace L2
open PySem PySem.Spec PyProof.Rows
inductive Flt2 (H:Hp):V->Value->Prop where
 |flt {v:V} {t:Value}:Flt H v t->Flt2 H v t
 |tup {a:Addr} {xs:List V}:H a=some (.tup xs)->Flt2 H (.ref a) (.type "tuple")
 |bl (b:Bool):Flt2 H (.bl b) (.type "bool")
 |non:Flt2 H .non (.type "NoneType")
inductive rIsTs2 (K:Frag)(xs:List V)(H:Hp)(Q:VK):Prop
 |mk (x:V)(t:Value)(p:Addr)(Ts:List String)(b:Bool)(_:xs=[x, .ref p])(_:Flt2 H x t)(_:H p=some (.tup (Ts.map V.ty)))(_:kitAny K t (Ts.map Value.type)=some b)(_:Q (.bl b) H)
def oz {X:Cx}:dl X (.builtin "isinstance") (rIsTs2 X.K):=by
 intro w9 s σ H xs us Q I r h;obtain⟨x,t,p,Ts,b,rfl,ty,hp,e,q⟩:=h;cases ty with
 |flt ty=>exact pd w9 s σ H _ us Q I r ⟨x,t,p,Ts,b,rfl,ty,hp,e,q⟩
 | @tup a xs ea=>
  obtain⟨u,v,rfl,rx,rv⟩:=r.two;cases rv;obtain⟨hz,its,rt,o,h1,h2,n,h3⟩:=(show ObjOk X.prog X.w H s.heap p (.tup (Ts.map V.ty)) from I.hok p _ hp);obtain⟨oc,od,oda,osl⟩:=o;cases h2;have h3:oda = .seq its.toArray n:=h3;subst h3;rw[gf rt] at h1;cases (show u=Value.ref a from rx);obtain⟨_,v5,rt2,o2,h4,h5,_⟩:=(show ObjOk X.prog X.w H s.heap a (.tup xs) from I.hok a _ ea);exact wpAny_with_toks (n:=1) I.tk (kia_tup kitx_tuple I.kIn ⟨_,h4,h5⟩ h1 e (λz=>nomatch z) λtk htk=>⟨.bl b,H,I.tok _ htk,rfl,q⟩)
 |bl b'=>
  obtain⟨u,v,rfl,rx,rv⟩:=r.two;cases rv;obtain⟨hz,its,rt,o,h1,h2,n,h3⟩:=(show ObjOk X.prog X.w H s.heap p (.tup (Ts.map V.ty)) from I.hok p _ hp);obtain⟨oc,od,oda,osl⟩:=o;cases h2;have h3:oda = .seq its.toArray n:=h3;subst h3;rw[gf rt] at h1;cases (show u=Value.bool b' from rx);exact wpAny_with_toks (n:=1) I.tk (kia_tup kitx_bool I.kIn True.intro h1 e (λz=>nomatch z) λtk htk=>⟨.bl b,H,I.tok _ htk,rfl,q⟩)
 |non=>
  obtain⟨u,v,rfl,rx,rv⟩:=r.two;cases rv;obtain⟨hz,its,rt,o,h1,h2,n,h3⟩:=(show ObjOk X.prog X.w H s.heap p (.tup (Ts.map V.ty)) from I.hok p _ hp);obtain⟨oc,od,oda,osl⟩:=o;cases h2;have h3:oda = .seq its.toArray n:=h3;subst h3;rw[gf rt] at h1;cases (show u=Value.none from rx);exact wpAny_with_toks (n:=1) I.tk (kia_tup kitx_none I.kIn True.intro h1 e (λz=>nomatch z) λtk htk=>⟨.bl b,H,I.tok _ htk,rfl,q⟩)
open PySem Lm
theorem hY {d:PyData}:∀{ds:List PyData},d∈ds->d.depth<=PyData.depthAll ds
 | [],h=>nomatch h
 |x::ds,h=>by
  unfold PyData.depthAll;rcases l8.mp h with z |z
  ·subst z;omega
  ·have:=hY z;omega
def js {d:PyData}{ds:List PyData}(h:d∈ds):d.depth < (PyData.list ds).depth:=by
 have:=hY h;rw[PyData.depth];omega
def kW {d:PyData}{ds:List PyData}(h:d∈ds):d.depth < (PyData.tuple ds).depth:=by
 have:=hY h;rw[PyData.depth];omega
mutual
def nlD:PyData->Nat
 | .list ds=>nlA ds+1
 | .tuple ds=>nlA ds
 |_=>0
def nlA:List PyData->Nat
 | []=>0
 |d::ds=>nlD d+nlA ds
end
open PySem
section
variable {prog:Program}{w:World}{A:Around}{E:Value->Shared->Prop}{s:Shared}
def qN {it t:Addr}{i:Nat}{us:Array Value}{x:Value}{Q:Value->Shared->Prop}(gi:s.heap.IsTupleIter it t i)
  (gt:s.heap.IsTuple t us)(hx:us[i]? = some x)
  (q:∀h',h'.IsTupleIter it t (i+1)->Heap.SameBut it s.heap h'->Q x { s with heap:=h' }):
  wpAny (model prog w) A (PySem.Builtin.SmallTypes.nextOf (.ref it)) Q E s:=by
 obtain⟨o,go,gc,gd⟩:=id gi;obtain⟨ot,got,_,nt,gdt⟩:=gt;unfold PySem.Builtin.SmallTypes.nextOf;refine wpAny_bind (wpAny_callSpecial?_slot (name:=Str.ofString "__next__") gi.typeIs F.slot_tuple_iterator_next
  (wpAny_call_entry F.slot_tuple_iterator_next gi.typeIs F.entry_tuple_iterator_next ?_ (F.args_tuple_iterator_next_1 _)))
 show wpAny _ _ (PySem.field (.ref it) 0 >>= _) _ _ s;refine wpAny_bind (wpAny_field go gd (x := .ref t) rfl ?_);show wpAny _ _ (ite ((Value.ref t==Value.none)=true) _ _) _ _ s;rw[if_neg (show ¬ ((Value.ref t==Value.none)=true) from (λz=>nomatch z))];show wpAny _ _ (PySem.field (.ref it) 1 >>= _) _ _ s;refine wpAny_bind (wpAny_field go gd (x := .int i 0) rfl ?_);show wpAny _ _ (PySem.seqItems? (.ref t) >>= _) _ _ s;refine wpAny_bind (wpAny_seqItems got gdt ?_);simp only[hx,l37];refine wpAny_bind (wpAny_setField go gd (by simp) (wpAny_pure ⟨x,rfl,wpAny_pure (q _ ?_ (Heap.SameBut.update ..))⟩));exact ⟨_,Heap.get?_update_self _ go (Obj.isFreed_of_fields (Obj.data_mapFields gd _)),(Obj.cls_mapFields ..).trans gc,by
  rw[Obj.data_mapFields gd];simp[rawInt]⟩
def yA {it t:Addr}{i:Nat}{us:Array Value}{Q:Value->Shared->Prop}(hh:A.handled=none)
  (gi:s.heap.IsTupleIter it t i)(gt:s.heap.IsTuple t us)(hx:us[i]? = none)
  (q:∀h' e,Heap.ExtBut it s.heap h'->(∃o,h'.get? e=some o/\o.cls = .type "StopIteration")->E (.ref e) { s with heap:=h' }):
  wpAny (model prog w) A (PySem.Builtin.SmallTypes.nextOf (.ref it)) Q E s:=by
 obtain⟨o,go,gc,gd⟩:=id gi;obtain⟨ot,got,_,nt,gdt⟩:=gt;unfold PySem.Builtin.SmallTypes.nextOf;refine wpAny_bind (wpAny_callSpecial?_slot (name:=Str.ofString "__next__") gi.typeIs F.slot_tuple_iterator_next
  (wpAny_call_entry F.slot_tuple_iterator_next gi.typeIs F.entry_tuple_iterator_next ?_ (F.args_tuple_iterator_next_1 _)))
 show wpAny _ _ (PySem.field (.ref it) 0 >>= _) _ _ s;refine wpAny_bind (wpAny_field go gd (x := .ref t) rfl ?_);show wpAny _ _ (ite ((Value.ref t==Value.none)=true) _ _) _ _ s;rw[if_neg (show ¬ ((Value.ref t==Value.none)=true) from (λz=>nomatch z))];show wpAny _ _ (PySem.field (.ref it) 1 >>= _) _ _ s;refine wpAny_bind (wpAny_field go gd (x := .int i 0) rfl ?_);show wpAny _ _ (PySem.seqItems? (.ref t) >>= _) _ _ s;refine wpAny_bind (wpAny_seqItems got gdt ?_);simp only[hx,l37];refine wpAny_bind (wpAny_rule (wpAny_bind (wpAny_setField go gd (by simp) ?_)));show wpAny _ _ (PySem.newExc (.type "StopIteration") [] >>= _) _ _ _;refine wpAny_bind ?_;simp only[newTuple,newExc];refine wpAny_bind (wpAny_newObj_type ?_ (by size_fits));refine wpAny_bind (m:=PySem.firstArgMember _ _) (wpAny_of_eq (a:=Value.none) (by first |rfl |(simp only[firstArgMember];rfl)) ?_);refine wpAny_newObj_type ?_ (by size_fits);simp only[raiseNew];refine wpAny_bind (wpAny_handled ?_);first |rw[show A.in1.handled=none from hh] |rw[hh]
 refine wpAny_bind (wpAny_pure (wpAny_throw ?_));exact q _ _ (((Heap.SameBut.update ..).extBut.push _).push _) ⟨_,Heap.get?_push_size _ rfl,rfl⟩
structure ApartT (z TI TO i1 i2 l1 l2:Addr):Prop where
 nd:[z,TI,TO,i1,i2].Nodup
 li:∀l∈[l1,l2],l≠z/\l≠TO/\l≠i1/\l≠i2
def wk {z TI TO i1 i2 l1 l2:Addr}{k:Nat}{xs ys:Array Value}{x y a b:Value}{Q:Value->Shared->Prop}(D:ApartT z TI TO i1 i2 l1 l2)
  (gz:IsZip s.heap z TI TO .none)(gI:IsPair s.heap TI (.ref i1) (.ref i2))(gO:IsPair s.heap TO a b)
  (g1:s.heap.IsTupleIter i1 l1 k)(g2:s.heap.IsTupleIter i2 l2 k)(e1:s.heap.IsTuple l1 xs)(e2:s.heap.IsTuple l2 ys)(hx:xs[k]? = some x)(hy:ys[k]? = some y)
  (q:∀h',IsZip h' z TI TO (rawInt s.heap.objs.size)->IsPair h' TO x y->h'.IsTupleIter i1 l1 (k+1)->h'.IsTupleIter i2 l2 (k+1)->IsPair h' s.heap.objs.size x y->h'.objs.size=s.heap.objs.size+1 →
   (∀c o,c≠z->c≠TO->c≠i1->c≠i2->s.heap.get? c=some o->h'.get? c=some o)->Q (.ref s.heap.objs.size) { s with heap:=h' }):
  wpAny (model prog w) A (Builtin.«zip.__next__» ⟨[.ref z],[]⟩) (λfin s'=>∃v,fin = .done (.ret v)/\Q v s') E s:=by
 obtain⟨nd,li⟩:=D;simp only[l45,l8,l39,or_false,not_or,l77,and_true,not_false_eq_true] at nd;obtain⟨⟨zTI,zTO,z1,z2⟩,⟨ITO,I1,I2⟩,⟨O1,O2⟩,n12⟩:=nd;obtain⟨l1z,l1O,l11,l12⟩:=li l1 (by simp);obtain⟨l2z,l2O,l21,l22⟩:=li l2 (by simp);show wpAny _ _ (PySem.field (.ref z) 2 >>= _) _ _ _;refine wpAny_bind (wpAny_field gz rfl (x := .bool false) rfl ?_);show wpAny _ _ (PySem.field (.ref z) 3 >>= _) _ _ _;refine wpAny_bind (wpAny_field gz rfl (x := .ref TI) rfl (wpAny_bind (wpAny_seqItems gI rfl ?_)));show wpAny _ _ (PySem.Builtin.SmallTypes.ownedTupleIsFree (.ref z) >>= _) _ _ _;refine wpAny_bind ?_;unfold Builtin.SmallTypes.ownedTupleIsFree;refine wpAny_bind (wpAny_field gz rfl (x := .none) rfl (wpAny_pure ?_));simp only[if_true];refine wpAny_bind (wpAny_rule (wpAny_bind (wpAny_field gz rfl (x := .ref TO) rfl (wpAny_bind (wpAny_setField_rec gz (by simp) λt1 gz1 ex1=>?_)))));replace gz1:IsZip t1 z TI TO .ellipsis:=gz1;refine wpAny_bind ?_;simp only[List.forIn_cons,List.forIn_nil,List.zipIdx_cons,List.zipIdx_nil];refine wpAny_bind (wpAny_bind (wpAny_onRaise ?_));show wpAny _ _ (PySem.Builtin.SmallTypes.nextOf (.ref i1) >>= _) _ _ _;refine wpAny_bind (qN (g1.extBut ex1.extBut (Ne.symm z1)) (e1.extBut ex1.extBut l1z) hx λt2 g1' ex2=>wpAny_pure ?_);have gO2:IsPair t2 TO a b:=ex2.extBut _ _ O1 (ex1.extBut _ _ (Ne.symm zTO) gO);refine wpAny_bind (wpAny_seqItems gO2 rfl (wpAny_bind (wpAny_updateSeq_pair gO2 λt3 gO3 ex3=>?_)));replace gO3:IsPair t3 TO x b:=gO3;refine wpAny_bind (wpAny_letGo (wpAny_pure (wpAny_bind (wpAny_bind (wpAny_onRaise ?_)))));show wpAny _ _ (PySem.Builtin.SmallTypes.nextOf (.ref i2) >>= _) _ _ _;have up3:∀d o,d≠z->d≠TO->d≠i1->s.heap.get? d=some o->t3.get? d=some o:=λd o d1 d2 d3 r=>ex3.extBut _ _ d2 (ex2.extBut _ _ d3 (ex1.extBut _ _ d1 r));refine wpAny_bind (qN (let ⟨o,r,r'⟩:=g2;⟨o,up3 _ o (Ne.symm z2) (Ne.symm O2) (Ne.symm n12) r,r'⟩) (let ⟨o,r,r'⟩:=e2;⟨o,up3 _ o l2z l2O l21 r,r'⟩) hy λt4 g2' ex4=>wpAny_pure ?_);have gO4:IsPair t4 TO x b:=ex4.extBut _ _ O2 gO3;refine wpAny_bind (wpAny_seqItems gO4 rfl (wpAny_bind (wpAny_updateSeq_pair gO4 λt7 gO7 ex7=>?_)));replace gO7:IsPair t7 TO x y:=gO7;refine wpAny_bind (wpAny_letGo (wpAny_pure (wpAny_pure (wpAny_bind (wpAny_seqItems gO7 rfl (wpAny_bind (wpAny_newTuple ?_)))))));have sz7:t7.objs.size=s.heap.objs.size:=by rw[ex7.1,ex4.1,ex3.1,ex2.1,ex1.1]
 have gz7:IsZip t7 z TI TO .ellipsis:=ex7.extBut _ _ zTO (ex4.extBut _ _ z2 (ex3.extBut _ _ zTO (ex2.extBut _ _ z1 gz1)));have up7:∀d o,d≠z->d≠TO->d≠i1->d≠i2->s.heap.get? d=some o->t7.get? d=some o:=λd o d1 d2 d3 d4 r=>ex7.extBut _ _ d2 (ex4.extBut _ _ d4 (up3 d o d1 d2 d3 r));have g17:t7.IsTupleIter i1 l1 (k+1):=((g1'.extBut ex3.extBut (Ne.symm O1)).extBut ex4.extBut n12).extBut ex7.extBut (Ne.symm O1);have g27:t7.IsTupleIter i2 l2 (k+1):=g2'.extBut ex7.extBut (Ne.symm O2);have ltz:z < t7.objs.size:=Heap.lt_size gz7;show wpAny _ _ (PySem.Builtin.SmallTypes.ownedTupleHandOut (.ref z) (.ref t7.objs.size) >>= _) _ _ _;refine wpAny_bind ?_;unfold Builtin.SmallTypes.ownedTupleHandOut;have gz8:IsZip (t7.push { cls := .type "tuple",data := .seq #[x,y] }) z TI TO .ellipsis:=Heap.get?_push_of_some _ gz7;refine wpAny_bind (wpAny_setField_rec gz8 (by simp) λt9 gz9 ex9=>?_);replace gz9:IsZip t9 z TI TO (rawInt t7.objs.size):=gz9;refine wpAny_setField_rec gz9 (by simp) λt10 gz10 ex10=>?_;replace gz10:IsZip t10 z TI TO (rawInt t7.objs.size):=gz10;have up10:∀d o,d≠z->t7.get? d=some o->t10.get? d=some o:=λd o d1 r=>ex10.extBut _ _ d1 (ex9.extBut _ _ d1 (Heap.get?_push_of_some _ r));have gT10:IsPair t10 t7.objs.size x y:=ex10.extBut _ _ (l42 ltz) (ex9.extBut _ _ (l42 ltz) (Heap.get?_push_size _ rfl));have sz10:t10.objs.size=t7.objs.size+1:=by rw[ex10.1,ex9.1,Heap.size_push]
 rw[sz7] at gz10 gT10 sz10;refine wpAny_pure ⟨_,rfl,?_⟩;show Q (.ref t7.objs.size) _;rw[sz7];exact q t10 gz10 (up10 _ _ (Ne.symm zTO) gO7) (let ⟨o,r,r'⟩:=g17;⟨o,up10 _ o (Ne.symm z1) r,r'⟩) (let ⟨o,r,r'⟩:=g27;⟨o,up10 _ o (Ne.symm z2) r,r'⟩) gT10 sz10 λd o d1 d2 d3 d4 r=>up10 d o d1 (up7 d o d1 d2 d3 d4 r)
def yB {z TI TO i1 i2 l1 l2:Addr}{k:Nat}{xs:Array Value}{Q:Fin->Shared->Prop}(hh:A.handled=none)(D:ApartT z TI TO i1 i2 l1 l2)
  (gz:IsZip s.heap z TI TO .none)(gI:IsPair s.heap TI (.ref i1) (.ref i2))
  (g1:s.heap.IsTupleIter i1 l1 k)(e1:s.heap.IsTuple l1 xs)(hx:xs[k]? = none)
  (q:∀h' e,(∀c o,c≠z->c≠i1->s.heap.get? c=some o->h'.get? c=some o)->(∃o,h'.get? e=some o/\o.cls = .type "StopIteration")->E (.ref e) { s with heap:=h' }):
  wpAny (model prog w) A (Builtin.«zip.__next__» ⟨[.ref z],[]⟩) Q E s:=by
 obtain⟨nd,li⟩:=D;simp only[l45,l8,l39,or_false,not_or,l77,and_true,not_false_eq_true] at nd;obtain⟨⟨zTI,zTO,z1,z2⟩,_⟩:=nd;obtain⟨l1z,l1O,l11,l12⟩:=li l1 (by simp);show wpAny _ _ (PySem.field (.ref z) 2 >>= _) _ _ _;refine wpAny_bind (wpAny_field gz rfl (x := .bool false) rfl ?_);show wpAny _ _ (PySem.field (.ref z) 3 >>= _) _ _ _;refine wpAny_bind (wpAny_field gz rfl (x := .ref TI) rfl (wpAny_bind (wpAny_seqItems gI rfl ?_)));show wpAny _ _ (PySem.Builtin.SmallTypes.ownedTupleIsFree (.ref z) >>= _) _ _ _;refine wpAny_bind ?_;unfold Builtin.SmallTypes.ownedTupleIsFree;refine wpAny_bind (wpAny_field gz rfl (x := .none) rfl (wpAny_pure ?_));simp only[if_true];refine wpAny_bind (wpAny_rule (wpAny_bind (wpAny_field gz rfl (x := .ref TO) rfl (wpAny_bind (wpAny_setField_rec gz (by simp) λt1 gz1 ex1=>?_)))));replace gz1:IsZip t1 z TI TO .ellipsis:=gz1;refine wpAny_bind ?_;simp only[List.forIn_cons,List.forIn_nil,List.zipIdx_cons,List.zipIdx_nil];refine wpAny_bind (wpAny_bind (wpAny_onRaise ?_));show wpAny _ _ (PySem.Builtin.SmallTypes.nextOf (.ref i1) >>= _) _ _ _;refine wpAny_bind (yA hh (g1.extBut ex1.extBut (Ne.symm z1)) (e1.extBut ex1.extBut l1z) hx λt2 e ex2 he=>?_);obtain⟨oe,e2,ec⟩:=he;have gz2:IsZip t2 z TI TO .ellipsis:=ex2 _ _ z1 gz1;have nez:e≠z:=λr=>by subst r;rw[gz2] at e2;cases e2;simp at ec
 refine wpAny_setField_rec gz2 (by simp) λt3 _ ex3=>q t3 e (λd o d1 d2 r=>ex3.extBut _ _ d1 (ex2 _ _ d2 (ex1.extBut _ _ d1 r))) ⟨oe,ex3.extBut _ _ nez e2,ec⟩
def mx {z TI TO i1 i2 l1 l2:Addr}{k:Nat}{xs ys:Array Value}{x y a b:Value}{Q:Option Value->Shared->Prop}(D:ApartT z TI TO i1 i2 l1 l2)
  (gz:IsZip s.heap z TI TO .none)(gI:IsPair s.heap TI (.ref i1) (.ref i2))(gO:IsPair s.heap TO a b)
  (g1:s.heap.IsTupleIter i1 l1 k)(g2:s.heap.IsTupleIter i2 l2 k)(e1:s.heap.IsTuple l1 xs)(e2:s.heap.IsTuple l2 ys)(hx:xs[k]? = some x)(hy:ys[k]? = some y)
  (q:∀h',IsZip h' z TI TO (rawInt s.heap.objs.size)->IsPair h' TO x y->h'.IsTupleIter i1 l1 (k+1)->h'.IsTupleIter i2 l2 (k+1)->IsPair h' s.heap.objs.size x y->h'.objs.size=s.heap.objs.size+1 →
   (∀c o,c≠z->c≠TO->c≠i1->c≠i2->s.heap.get? c=some o->h'.get? c=some o)->Q (some (.ref s.heap.objs.size)) { s with heap:=h' }):
  wpAny (model prog w) A (pyNext (.ref z)) Q E s:=by
 have ty:s.TypeIs (.ref z) "zip":=⟨_,gz,rfl⟩;unfold pyNext;exact wpAny_bind (wpAny_attempt (wpAny_callSpecial?_slot (name:=Str.ofString "__next__") ty F.slot_zip_next
  (wpAny_call_entry F.slot_zip_next ty F.entry_zip_next (wk D gz gI gO g1 g2 e1 e2 hx hy λh' a1 a2 a3 a4 a5 a6 a7=>wpAny_pure (q h' a1 a2 a3 a4 a5 a6 a7)) (F.args_zip_next_1 _))))
def oA {z TI TO i1 i2 l1 l2:Addr}{k:Nat}{xs:Array Value}{Q:Option Value->Shared->Prop}(hh:A.handled=none)(D:ApartT z TI TO i1 i2 l1 l2)
  (gz:IsZip s.heap z TI TO .none)(gI:IsPair s.heap TI (.ref i1) (.ref i2))(g1:s.heap.IsTupleIter i1 l1 k)(e1:s.heap.IsTuple l1 xs)(hx:xs[k]? = none)
  (q:∀h',(∀c o,c≠z->c≠i1->s.heap.get? c=some o->h'.get? c=some o)->Q none { s with heap:=h' }):wpAny (model prog w) A (pyNext (.ref z)) Q E s:=by
 have ty:s.TypeIs (.ref z) "zip":=⟨_,gz,rfl⟩;unfold pyNext;refine wpAny_bind (wpAny_attempt (wpAny_callSpecial?_slot (name:=Str.ofString "__next__") ty F.slot_zip_next
  (wpAny_call_entry F.slot_zip_next ty F.entry_zip_next (yB hh D gz gI g1 e1 hx λh' e kp he=>?_) (F.args_zip_next_1 _))))
 obtain⟨o,ho,hc⟩:=he;exact wpAny_bind (wpAny_isInstance (T:="StopIteration") (b:=true) ⟨o,ho,hc⟩ isSubtype_stop (wpAny_pure (q _ kp)))
end
abbrev pTit (h:Heap)(l:Addr):Heap:=h.push { cls := .type "tuple_iterator",data := .fields #[.ref l, .int 0 0] }
abbrev zTT (h:Heap)(l1 l2:Addr):Heap:=(pTit (pTit h l1) l2).push { cls := .type "tuple",data := .seq #[.ref h.objs.size, .ref (pTit h l1).objs.size] }
abbrev zOT (h:Heap)(l1 l2:Addr):Heap:=(zTT h l1 l2).push { cls := .type "tuple",data := .seq #[.none, .none] }
abbrev zZT (h:Heap)(l1 l2:Addr):Heap:=(zOT h l1 l2).push { cls := .type "zip",data := .fields #[.none, .bool false, .bool false, .ref (pTit (pTit h l1) l2).objs.size, .ref (zTT h l1 l2).objs.size] }
def tG (l1 l2:Addr)(xs ys:Array Value):
  Meets (Builtin.«zip.__new__» ⟨[.type "zip", .ref l1, .ref l2], []⟩) (λ_ R s=>s.heap.IsTuple l1 xs/\s.heap.IsTuple l2 ys ∧
   R (.ok (.ret (.ref (zOT s.heap l1 l2).objs.size))) { s with heap:=zZT s.heap l1 l2 }):=
 .of_wp λprog w A R s h=>by
  obtain⟨hp,g,d,tk,os⟩:=s;obtain⟨f1,f2,h⟩:=h;have su:=sub_zip;have L1:Heap.IsTuple (Shared.heap ⟨hp,g,d,tk,os⟩) l1 xs:=f1;have L2:Heap.IsTuple (Shared.heap ⟨pTit hp l1,g,d,tk,os⟩) l2 ys:=Heap.IsTuple.push f2 _
  wp_walk using wpAny_pyIter_tuple L1,wpAny_pyIter_tuple L2
  exact⟨_,rfl,h⟩
section
variable {prog:Program}{w:World}{A:Around}{E:Value->Shared->Prop}{s:Shared}
def qO {l1 l2:Addr}{xs ys:Array Value}{Q:Value->Shared->Prop}(f1:s.heap.IsTuple l1 xs)(f2:s.heap.IsTuple l2 ys)
  (q:∀h',IsZip h' (s.heap.objs.size+4) (s.heap.objs.size+2) (s.heap.objs.size+3) .none->IsPair h' (s.heap.objs.size+2) (.ref s.heap.objs.size) (.ref (s.heap.objs.size+1)) →
   IsPair h' (s.heap.objs.size+3) .none .none->h'.IsTupleIter s.heap.objs.size l1 0->h'.IsTupleIter (s.heap.objs.size+1) l2 0 →
   (∀c o,s.heap.get? c=some o->h'.get? c=some o)->Q (.ref (s.heap.objs.size+4)) { s with heap:=h' }):
  wpAny (model prog w) A (call (.type "zip") [.ref l1, .ref l2]) Q E s:=by
 refine callType_new F.called_zip ∅ (F.typeCall_zip_2 _ _) (F.newCall_zip_2 _ _) (λobj=>F.args_object_init_3 obj _ _) F.entry_zip_new (tG l1 l2 xs ys) ⟨f1,f2,?_⟩;have y1:(pTit s.heap l1).objs.size=s.heap.objs.size+1:=Heap.size_push ..;have y2:(pTit (pTit s.heap l1) l2).objs.size=s.heap.objs.size+2:=by rw[Heap.size_push,y1]
 have y3:(zTT s.heap l1 l2).objs.size=s.heap.objs.size+3:=by rw[Heap.size_push,y2]
 have y4:(zOT s.heap l1 l2).objs.size=s.heap.objs.size+4:=by rw[Heap.size_push,y3]
 have p5:(zZT s.heap l1 l2).get? (zOT s.heap l1 l2).objs.size=some _:=Heap.get?_push_size _ rfl;have p4:(zZT s.heap l1 l2).get? (zTT s.heap l1 l2).objs.size=some _:=Heap.get?_push_of_some _ (Heap.get?_push_size _ rfl);have p3:(zZT s.heap l1 l2).get? (pTit (pTit s.heap l1) l2).objs.size=some _:=Heap.get?_push_of_some _ (Heap.get?_push_of_some _ (Heap.get?_push_size _ rfl));have p2:(zZT s.heap l1 l2).get? (pTit s.heap l1).objs.size=some _:=Heap.get?_push_of_some _ (Heap.get?_push_of_some _ (Heap.get?_push_of_some _ (Heap.get?_push_size _ rfl)));have p1:(zZT s.heap l1 l2).get? s.heap.objs.size=some _:=Heap.get?_push_of_some _ (Heap.get?_push_of_some _ (Heap.get?_push_of_some _ (Heap.get?_push_of_some _ (Heap.get?_push_size _ rfl))));show _/\_;rw[y2,y3,y4] at p5;rw[y3] at p4;rw[y1,y2] at p3;rw[y1] at p2;rw[y4];exact ⟨⟨_,p5,rfl⟩,q _ p5 p3 p4 ⟨_,p1,rfl,rfl⟩ ⟨_,p2,rfl,rfl⟩ λc o x=>
  Heap.get?_push_of_some _ (Heap.get?_push_of_some _ (Heap.get?_push_of_some _ (Heap.get?_push_of_some _ (Heap.get?_push_of_some _ x))))⟩
end
open PySem.Spec PyProof.Rows
def Itzt (a b:Addr):It:=
 ⟨λi H=>∃xs ys x y,H a=some (.tup xs)/\H b=some (.tup ys)/\xs[i]? = some x/\ys[i]? = some y,
  λi H x H'=>∃T x1 y1,(∀xs,H a=some (.tup xs)->xs[i]? = some x1)/\(∀ys,H b=some (.tup ys)->ys[i]? = some y1)/\H T=none/\x = .ref T/\H'=upd H T (.tup [x1,y1]),
  λi H=>∃xs ys,H a=some (.tup xs)/\H b=some (.tup ys)/\xs.length<=i⟩
def qP {P:Program}{w:World}{K:Frag}{elts:List Expr}{k:Nat}{pos:Pos}(a b z TI TO i1 i2:Addr)(nd:[z,TI,TO,i1,i2].Nodup):
  Turn P w K (.Tuple elts k pos) (Itzt a b) [z,TI,TO,i1,i2] z (λi h=>IsZip h z TI TO .none/\IsPair h TI (.ref i1) (.ref i2)/\(∃u v,IsPair h TO u v)/\h.IsTupleIter i1 a i/\h.IsTupleIter i2 b i) where
 mem:=by simp
 obj:=λi h st c hc=>by
  obtain⟨h1,h2,⟨u,v,h3⟩,⟨o4,h4,h4c,h4d⟩,⟨o5,h5,h5c,h5d⟩⟩:=st;rcases l8.mp hc with rfl |hc
  ·exact⟨_,h1,λv z=>by cases z⟩
  rcases l8.mp hc with rfl |hc
  ·exact⟨_,h2,λv z=>by cases z⟩
  rcases l8.mp hc with rfl |hc
  ·exact⟨_,h3,λv z=>by cases z⟩
  rcases l8.mp hc with rfl |hc
  ·exact⟨o4,h4,λv z=>by rw[h4d] at z;cases z⟩
  ·have e:c=i2:=by simpa using hc
   subst e;exact⟨o5,h5,λv z=>by rw[h5d] at z;cases z⟩
 keep:=λi h h' st kk=>by
  obtain⟨h1,h2,⟨u,v,h3⟩,⟨o4,h4,h4r⟩,⟨o5,h5,h5r⟩⟩:=st;exact⟨kk z (by simp) _ h1,kk TI (by simp) _ h2,⟨u,v,kk TO (by simp) _ h3⟩,⟨o4,kk i1 (by simp) _ h4,h4r⟩,⟨o5,kk i2 (by simp) _ h5,h5r⟩⟩
 item:=by
  intro X hP hw hK hc i w9 s σ H E I hf st hg;subst hP hw hK;obtain⟨xs,ys,x,y,hqx,hqy,hx,hy⟩:=hg;obtain⟨its,rv,p,hz⟩:=I.tuple (.of hqx);obtain⟨v5,rv2,p2,hz2⟩:=I.tuple (.of hqy);obtain⟨u,hu,ru⟩:=rv.get hx;obtain⟨v,hv,rw'⟩:=rv2.get hy;obtain⟨h1,h2,⟨u0,v0,h3⟩,h4,h5⟩:=st;obtain⟨o4,g4,c4,_⟩:=id h4;obtain⟨o5,g5,c5,_⟩:=id h5;have lne:∀{l:Addr} {us:List V},H l=some (.tup us)->l≠z/\l≠TO/\l≠i1/\l≠i2:=λ{l us} hL=>by
   have fr:∀c∈[z,TI,TO,i1,i2],l≠c:=λc hc e=>by rw[e,(hf _ hc).1] at hL;cases hL
   exact⟨fr z (by simp),fr TO (by simp),fr i1 (by simp),fr i2 (by simp)⟩
  have ap : ApartT z TI TO i1 i2 a b := ⟨nd,λl hl=>by
   rcases l8.mp hl with rfl |hl
   ·exact lne hqx
   ·rw[show l=b by simpa using hl];exact lne hqy⟩
  have nd':=nd;simp only[l45,l8,l39,or_false,not_or,l77,and_true,not_false_eq_true] at nd';obtain⟨⟨zTI,zTO,z1,z2⟩,⟨ITO,I1,I2⟩,_⟩:=nd';refine mx ap h1 h2 h3 h4 h5 (show s.heap.IsTuple a its.toArray from p) (show s.heap.IsTuple b v5.toArray from p2) (x:=u) (y:=v) (by simpa using hu) (by simpa using hv) λh' k1 k2 k3 k4 k6 k7 k8=>⟨_,rfl,?_⟩;have hlz:z < s.heap.objs.size:=Heap.lt_size h1;have hlTO:TO < s.heap.objs.size:=Heap.lt_size h3;have hlTI:TI < s.heap.objs.size:=Heap.lt_size h2;have hl1:i1 < s.heap.objs.size:=Heap.lt_size g4;have hl2:i2 < s.heap.objs.size:=Heap.lt_size g5;refine wpAny_letOwnedTupleGo_zip k1 λh2' q1 sb=>?_;have keep:∀c o,c≠z->h'.get? c=some o->h2'.get? c=some o:=λc o hc e=>(sb.2 c hc).trans e;refine⟨.ref s.heap.objs.size,upd H s.heap.objs.size (.tup [x,y]),?_,rfl,⟨s.heap.objs.size,x,y,λys' hy'=>by rw[hqx] at hy';cases hy';exact hx,λys' hy'=>by rw[hqy] at hy';cases hy';exact hy,I.hok.fresh (l7 _),rfl,rfl⟩,⟨q1,?_,⟨u,v,keep _ _ (Ne.symm zTO) k2⟩,?_,?_⟩,?_⟩
  ·refine I.turnedL (t':=s.toks) (ch:=[z,TI,TO,i1,i2]) (λc ob hc q=>?_) hf (l7 _) ?_ I.tk
   ·simp only[l8,l39,or_false,not_or] at hc;exact keep _ _ hc.1 (k8 c ob hc.1 hc.2.2.1 hc.2.2.2.1 hc.2.2.2.2 q)
   ·refine⟨by show 2<=sizeLine;rw[sizeLine_eq];decide,[u,v], .cons ru (.cons rw' .nil),?_⟩;exact⟨_,keep _ _ (l42 hlz) k6,rfl,0,rfl⟩
  ·exact keep _ _ (Ne.symm zTI) (k8 TI _ (Ne.symm zTI) ITO I1 I2 h2)
  ·obtain⟨o,e,r⟩:=k3;exact⟨o,keep _ _ (Ne.symm z1) e,r⟩
  ·obtain⟨o,e,r⟩:=k4;exact⟨o,keep _ _ (Ne.symm z2) e,r⟩
  ·intro c hc;have hlt:c < s.heap.objs.size:=by
    simp only[l8,l39,or_false] at hc;rcases hc with rfl |rfl |rfl |rfl |rfl
    ·exact hlz
    ·exact hlTI
    ·exact hlTO
    ·exact hl1
    ·exact hl2
   rw[ad (l26 hlt)];exact(hf c hc).1
 done:=by
  intro X hP hw hK hc i w9 s σ H E I hf st hg;subst hP hw hK;obtain⟨xs,ys,hqx,hqy,hx⟩:=hg;obtain⟨its,rv,p,hz⟩:=I.tuple (.of hqx);obtain⟨h1,h2,⟨u0,v0,h3⟩,h4,h5⟩:=st;have lne:∀{l:Addr} {us:List V},H l=some (.tup us)->l≠z/\l≠TO/\l≠i1/\l≠i2:=λ{l us} hL=>by
   have fr:∀c∈[z,TI,TO,i1,i2],l≠c:=λc hc e=>by rw[e,(hf _ hc).1] at hL;cases hL
   exact⟨fr z (by simp),fr TO (by simp),fr i1 (by simp),fr i2 (by simp)⟩
  have ap : ApartT z TI TO i1 i2 a b := ⟨nd,λl hl=>by
   rcases l8.mp hl with rfl |hl
   ·exact lne hqx
   ·rw[show l=b by simpa using hl];exact lne hqy⟩
  have e1:=rv.length;refine oA (I.ok.hd hc) ap h1 h2 h4 (show s.heap.IsTuple a its.toArray from p) (by simp;omega) λh' kp=>⟨rfl,I.turnedL0 (t':=s.toks) (ch:=[z,TI,TO,i1,i2]) (λc ob hc q=>?_) hf I.tk⟩;simp only[l8,l39,or_false,not_or] at hc;exact kp c ob hc.1 hc.2.2.2.1 q
 self:=λ_ _ _ _ _ st h=>wpAny_pyIter_zip st.1 h
section
variable {X:Cx}
inductive iZipA.I (K:Frag)(R:(It->Hp->Prop))(vs:List V)(H1:Hp):Prop
 |mk (a b)(_:vs=[.ref a, .ref b])(_:((∃xs,SqL K H1 a xs)/\(∃ys,SqL K H1 b ys)/\R (Itz K a b) H1) ∨ (∃xs,H1 a=some (.tup xs)/\(∃ys,H1 b=some (.tup ys))/\(xs.length<=sizeLine->R (Itzt a b) H1)))
def iZipA (K:Frag)(ta:TA):TI:=λσ H R=>ta σ H (iZipA.I K R)
def nd5 (n:Nat):[n+4,n+2,n+3,n,n+1].Nodup:=by
 simp only[l45,l8,l39,or_false,not_or,l77,and_true,not_false_eq_true];omega
def ge5 {n c:Nat}(hc:c∈[n+4,n+2,n+3,n,n+1]):n<=c:=by
 simp only[l8,l39,or_false] at hc;omega
def wl {l l2:Expr}{ta:TA}{p pos:Pos}{elts:List Expr}{k:Nat}{pos':Pos}(hg:Gl X "zip")(hm:X.mg "zip"=none)(ha:PA X [l,l2] ta)(hs:starEach [l,l2] X.env=(false,eval l X.env)::starEach [l2] X.env)(hs2:(backTo pos (starEach [l2] X.env)).any (·.1)=false):
  PI X (.Tuple elts k pos') (.Call (.Name "zip" p) [l,l2] [] pos) (iZipA X.K ta):=by
 intro w9 s σ H R I h;refine Call_ (fY I hg hm boot_zip (callWith_type1 (thn (ha pos w9 s σ H _ I h) λus s1 ⟨vs,H1,I1,r1,q1⟩=>?_) hs hs2));obtain⟨a,b,e,q1⟩:=q1;subst e;obtain⟨u,v,rfl,ru,rv⟩:=r1.two;cases ru;cases rv;rcases q1 with ⟨⟨xs,hqa⟩,⟨ys,hqb⟩,q⟩ |⟨xs,hqa,⟨ys,hqb⟩,q⟩
 ·obtain⟨its,_,pl,_⟩:=I1.list hqa;obtain⟨v5,_,pl2,_⟩:=I1.list hqb;refine call_zip_2 pl.isList pl2.isList λh' g1 g2 g3 g4 g5 g6 g7=>?_;refine wpAny_pyIter_zip g1 ?_;have nd:=nd5 s1.heap.objs.size;simp only[l45,l8,l39,or_false,not_or,l77,and_true,not_false_eq_true] at nd;obtain⟨⟨zTI,zTO,z1,z2⟩,⟨ITO,I1',I2⟩,⟨O1,O2⟩,n12⟩:=nd;exact ⟨s1.heap.objs.size+4,[s1.heap.objs.size+4,s1.heap.objs.size+2,s1.heap.objs.size+3,s1.heap.objs.size,s1.heap.objs.size+1],_,_,H1,rfl,I1.kept (t':=s1.toks) g7,
   mG a b _ (s1.heap.objs.size+2) (s1.heap.objs.size+3) s1.heap.objs.size (s1.heap.objs.size+1) (Ne.symm zTI) (Ne.symm zTO) (Ne.symm z1) (Ne.symm z2) ITO I1' I2 O1 O2 n12,⟨g1,g2,⟨_,_,g3⟩,g4,g5⟩,
   λc hc=>I1.fpOk (ge5 hc) (I1.hok.fresh (ge5 hc)),q⟩
 ·obtain⟨its,_,pl,hzl⟩:=I1.tuple (.of hqa);have q:=q hzl;obtain⟨v5,_,pl2,_⟩:=I1.tuple (.of hqb);refine qO (show s1.heap.IsTuple a its.toArray from pl) (show s1.heap.IsTuple b v5.toArray from pl2) λh' g1 g2 g3 g4 g5 g7=>?_;refine wpAny_pyIter_zip g1 ?_;exact ⟨s1.heap.objs.size+4,[s1.heap.objs.size+4,s1.heap.objs.size+2,s1.heap.objs.size+3,s1.heap.objs.size,s1.heap.objs.size+1],_,_,H1,rfl,I1.kept (t':=s1.toks) g7,
   qP a b _ (s1.heap.objs.size+2) (s1.heap.objs.size+3) s1.heap.objs.size (s1.heap.objs.size+1) (nd5 _),⟨g1,g2,⟨_,_,g3⟩,g4,g5⟩,
   λc hc=>I1.fpOk (ge5 hc) (I1.hok.fresh (ge5 hc)),q⟩
def xizA {l l2:Expr}{t:TA}{p pos:Pos}{elts:List Expr}{k:Nat}{pos':Pos}(hm:X.mg "zip"=none)(ha:XA X [l,l2] t)(hg:Gl X "zip":=by exact rfl) (h:bY l=false:=by rfl) (h2:bY l2=false:=by rfl):XI X (.Tuple elts k pos') (.Call (.Name "zip" p) [l,l2] [] pos) (iZipA X.K t):=
 ⟨wl hg hm ha.h (aK h) (by rw[aK h2];rfl)⟩
end
def forJ {J:It}{g:TG}{tb:TS}{D:Ends}{σ:St}{H:Hp}(n:Nat)(Pv:Nat->St->Hp->Prop)(h0:Pv 0 σ H)(hgo:∀i σ H,i < n->Pv i σ H->J.go i H)(hst:∀σ H,Pv n σ H->J.stop n H)
  (hs:∀i σ H x H',i < n->Pv i σ H->J.yld i H x H'->g x σ H' λσ2 H2=>tb { D with nx:=Pv (i+1),ct:=Pv (i+1),bk:=D.nx } σ2 H2) (hd:∀σ H,Pv n σ H->D.nx σ H):
  ∃W:Nat->Nat->St->Hp->Prop,(∃m,W 0 m σ H)/\∀i m σ H,W i m σ H →
   (J.stop i H/\D.nx σ H) ∨ (J.go i H/\∃N:St->Hp->Prop,(∀σ' H',N σ' H'->∃m',m' < m/\W (i+1) m' σ' H')/\∀x H',J.yld i H x H'->g x σ H' λσ2 H2=>tb { D with nx:=N,ct:=N,bk:=D.nx } σ2 H2):=by
 refine⟨λi m σ H=>m=n - i/\i<=n/\Pv i σ H,⟨n,by simp,l16 _,h0⟩,?_⟩;rintro i m σ H ⟨rfl,hi,p⟩;by_cases hlt:i < n
 ·exact .inr ⟨hgo i σ H hlt p,Pv (i+1),λσ' H' q=>⟨n - (i+1),by omega,rfl,hlt,q⟩,λx H' y=>hs i σ H x H' hlt p y⟩
 ·have e:i=n:=by omega
  subst e;exact .inl ⟨hst σ H p,hd σ H p⟩
end L2
namespace K12
open PySem L2 Lm Lw PySem.Builtin.Int
structure TxE (mg:Str->Option Value):Prop extends TxD mg where
 q10:mg "isinstance"=none
 u12:mg "tuple"=none
 u10:mg "list"=none
 z13:mg "bool"=none
 q15:mg "zip"=none
 z11:mg "all"=none
def wm (K:Frag)(d:PyData):kitAny K (.type (tyD d)) (["tuple","list"].map Value.type)=some (tyD d=="tuple"||tyD d=="list"):=by
 cases d <;> with_unfolding_all rfl
def yC {H:Hp}{v:V}{d:PyData}(h:Dn H v d):Flt2 H v (.type (tyD d)):=by
 cases h with
 |non=>exact .non
 |bl b=>exact .bl b
 |int i=>exact .flt (.int i)
 |str x _ _=>exact .flt (.str x)
 |lst e _ _=>exact .flt (.lst e)
 |tup e _=>exact .tup e
section
abbrev qQ:Stmt:=top 74
inductive spAl (n:Nat)(vs:List V)(H:Hp)(Q:VK)(u3:XK):Prop
 |mk (v u:V)(d:PyData)(_:vs=[v,u])(_:Dn H v d)(_:Dn H u d)(_:d.depth<=n)(_:∀H',Same H H'->Q (.bl true) H')
def zF (K:Frag)(d:PyData):∃b,kitOne K (.type (tyD d)) (.type "bool")=some b:=by
 cases d <;> exact⟨_,by with_unfolding_all rfl⟩
def wn {H:Hp}{v u:V}{d:PyData}(h:Dn H v d)(k:Dn H u d)(ht:(tyD d=="tuple"||tyD d=="list")=false):v=u/\scal v u=true:=by
 cases h with
 |non=>cases k;exact⟨rfl,rfl⟩
 |bl b=>cases k;exact⟨rfl,rfl⟩
 |int i=>cases k;exact⟨rfl,rfl⟩
 |str x _ _=>cases k;exact⟨rfl,rfl⟩
 |lst e _ _=>cases ht
 |tup e _=>cases ht
def m9 {k n:Nat}{spI:Sp}(F:Fun K "_law_alike" "_law_alike" qQ f fd)(T:TxE mg)(DH:Def P w K mg base k "_law_alike" p15 spI)(hI:∀j,n=j+1->∀vs H Q E,spAl j vs H Q E->spI vs H Q E):FnOk P w K mg base CX0 (k+2) f fd p15 (spAl n):=by
 have sc:FnScope p15 p15 (ab qQ):=mkS;refine F.oks sc λ{_ _ _ _ vs _}H Q hr h=>?_;obtain⟨v,u,d,rfl,dv,du,hdn,q⟩:=h;refine ak (xbc (xif (xor (bq (xcB cx T.q10 rfl (xac (xv 1) (xac (xty (T:="tuple") T.u12 rfl) xa0)))) (xor1 (bq (xcB cx T.q10 rfl (xac (xv 1) (xac (xty (T:="list") T.u10 rfl) xa0)))))).xt (xbc (xif (xor (aA iQ (xcB cx T.q10 rfl (xac (xv 0) (xac (xty (T:="list") T.u10 rfl) xa0))) (xcB cx T.q10 rfl (xac (xv 1) (xac (xty (T:="list") T.u10 rfl) xa0))) (ai _)) (xor1 (dY (bq (xcB oz T.q10 rfl (xac (xv 0) (xac (xtup (xac (xty (T:="tuple") T.u12 rfl) (xac (xty (T:="list") T.u10 rfl) xa0))) xa0))))))).xt (xb1 (xret xbl)) xb0)
  (xb1 (xret (o8 (xcmp aI (xcB aF T.g10 PySem.boot_len (xac (xv 0) xa0)) (xcB aF T.g10 PySem.boot_len (xac (xv 1) xa0)) (ai _)) (xone (xcB (fR rfl) T.z11 rfl (xac (xlc0 (own:=p19)
  (xizA T.q15 (xac (xv 0) (xac (xv 1) xa0)))
  (λ_ _ _ _=>xgtC (n:=2) rfl (xgsc (xgm (i:=0) (show (p19:List Str).Nodup by decide)) (xgsc (xgm (i:=1) (show (p19:List Str).Nodup by decide)) xgs0))) (λ_ _ _ _=>xq0) (λ_ _ _ _=>(xcd DH hr (xac (xv 0) (xac (xv 1) xa0))))) xa0))))))) xb0)
  (xb1 (xret (o8 (xcmp aI (xcB cx T.q10 rfl (xac (xv 0) (xac (xty (T:="bool") T.z13 rfl) xa0))) (xcB cx T.q10 rfl (xac (xv 1) (xac (xty (T:="bool") T.z13 rfl) xa0))) (ai _)) (xone (xcmp aI (xv 0) (xv 1) (ai _))))))) ?_
 have hs:=sizeLine_eq;rw[nN];have kd:=xY K d;refine s_if (tyD d=="tuple"||tyD d=="list") (t_or _ _ (xZ (ev_v rfl) du kd.2.2) λ_ H1 s1=>xZ (ev_v rfl) (du.same s1) kd.2.1) (λH1 s1 z=>?_) λH1 s1 z=>?_
 ·have dv1:=dv.same s1;have du1:=du.same s1;refine s_if false (t_or false false (λR kk=>⟨_,rfl,v,_,_,_,rfl,dv1.ty,kd.2.1,_,rfl,u,_,_,_,rfl,du1.ty,kd.2.1,rfl,_,rfl,by rw[decide_eq_true rfl];exact kk _ (Same.refl _)⟩) λ_ H2 s2=>lL true λR kk=>⟨_,rfl,bg2,λp hp=>⟨v,_,p,["tuple","list"],_,rfl,yC ((dv1.same s2).same (ac hp _)),aa,wm K d,_,rfl,by rw[z];exact kk _ (ac hp _)⟩⟩) (λH2 s2 z2=>nomatch z2) λH2 s2 _=>?_;have tail:∀(J:It) (n1:Nat) (vs us:List V) (ds:List PyData),n1=ds.length->DnAll H2 vs ds->DnAll H2 us ds->(∀e∈ds,e.depth < d.depth)->(∀i H3,i < n1->Same H2 H3->J.go i H3)->(∀H3,Same H2 H3->J.stop n1 H3)->(∀i H3 x H4,Same H2 H3->J.yld i H3 x H4->∃T x1 y1,vs[i]? = some x1/\us[i]? = some y1/\H3 T=none/\x = .ref T/\H4=upd H3 T (.tup [x1,y1])) →
    ∀(i:Nat) H3 x H4,i < n1->Same H2 H3->J.yld i H3 x H4->∃T x1 y1,H3 T=none/\x = .ref T/\H4=upd H3 T (.tup [x1,y1])/\∀(C:V->Hp->Prop),(∀H5,Same H4 H5->C (.bl true) H5)->spI [x1,y1] H4 C E0:=by
   intro J n1 vs us ds hn da db hdep _ _ hy i H3 x H4 hi s3 y;obtain⟨T,x1,y1,hx1,hy1,hT,rfl,rfl⟩:=hy i H3 x H4 s3 y;refine⟨T,x1,y1,hT,rfl,rfl,λC hC=>?_⟩;obtain⟨e,he,dx⟩:=da.getV hx1;obtain⟨e',he',dy⟩:=db.getV hy1;rw[he] at he';cases he';have hlt:=hdep e (l18 he);obtain⟨j,rfl⟩:∃j,n=j+1:=⟨n - 1,by omega⟩;have s4:=s3.trans (ac hT (.tup [x1,y1]));exact hI j rfl _ _ _ _ ⟨x1,y1,e,rfl,dx.same s4,dy.same s4,by omega,hC⟩
  have j8:∀n1:Nat,((List.range n1).map λ_=>V.bl true)=((List.range n1).map λ_=>true).map V.bl:=λn1=>by rw[l30];rfl
  have j7:∀n1:Nat,((List.range n1).map λ_=>true).all id=true:=λn1=>by simp
  have dv2:=dv1.same s2;have du2:=du1.same s2;cases dv2 with
  |non=>cases z
  |bl b=>cases z
  |int i=>cases z
  |str x _ _=>cases z
  | @lst a xs ds ea da hla=>
   cases du2 with
   | @lst b ys _ eb db hlb=>
    have h1:=da.len;have h2:=db.len;refine⟨_,rfl,a,xs,rfl, .inl (SqL.of ea),_,rfl,b,ys,rfl, .inl (SqL.of eb),rfl,_,rfl,?_⟩;rw[decide_eq_true (by rw[h1,h2])];refine iteT ⟨_,rfl,_,rfl,a,b,rfl, .inl ⟨⟨_,SqL.of ea⟩,⟨_,SqL.of eb⟩,?_⟩⟩;have tl:=tail (Itz K a b) xs.length xs ys ds h1 da db (λe he=>js he) (λi H3 hi s3=>⟨xs,ys,_,_,SqL.of (s3 _ _ ea),SqL.of (s3 _ _ eb),List.getElem?_eq_getElem hi,List.getElem?_eq_getElem nofun⟩) (λH3 s3=>⟨xs,ys,SqL.of (s3 _ _ ea),SqL.of (s3 _ _ eb), .inl (l7 _)⟩) (λi H3 x H4 s3 ⟨T,u1,v1,e1,e2,hT,hx,hH⟩=>⟨T,u1,v1,e1 _ (SqL.of (s3 _ _ ea)),e2 _ (SqL.of (s3 _ _ eb)),hT,hx,hH⟩);refine pN xs.length (λ_ => .bl true) (by rw[hs];omega) (λi H3 hi s3=>⟨xs,ys,_,_,SqL.of (s3 _ _ ea),SqL.of (s3 _ _ eb),List.getElem?_eq_getElem hi,List.getElem?_eq_getElem nofun⟩) (λH3 s3=>⟨xs,ys,SqL.of (s3 _ _ ea),SqL.of (s3 _ _ eb), .inl (l7 _)⟩) (λi H3 x H4 hi s3 y=>?_) λD H3 hD s3 eD=>⟨D,_,rfl,SqL.of (eD.trans (by rw[j8])),by rw[j7];exact q H3 ((s1.trans s2).trans s3)⟩;obtain⟨T,x1,y1,hT,rfl,rfl,hc⟩:=tl i H3 x H4 hi s3 y;exact⟨ac hT _,λC N hC=>⟨T,_,rfl,SqT.of aa,rfl,_,_,rfl,_,_,rfl,rfl,((nfLe.refl _ _ _).set ∅ _).set ∅ _,iteT (B:=N (upd H3 T (.tup [x1,y1]))) ⟨_,rfl,_,rfl,hc C hC⟩⟩⟩
  | @tup a xs ds ea da=>
   cases du2 with
   | @tup b ys _ eb db=>
    have h1:=da.len;have h2:=db.len;refine⟨_,rfl,a,xs,rfl, .inr (SqT.of ea),_,rfl,b,ys,rfl, .inr (SqT.of eb),rfl,_,rfl,?_⟩;rw[decide_eq_true (by rw[h1,h2])];refine iteT ⟨_,rfl,_,rfl,a,b,rfl, .inr ⟨xs,ea,⟨ys,eb⟩,λhzl=>?_⟩⟩;have tl:=tail (Itzt a b) xs.length xs ys ds h1 da db (λe he=>kW he) (λi H3 hi s3=>⟨xs,ys,_,_,s3 _ _ ea,s3 _ _ eb,List.getElem?_eq_getElem hi,List.getElem?_eq_getElem nofun⟩) (λH3 s3=>⟨xs,ys,s3 _ _ ea,s3 _ _ eb,l7 _⟩) (λi H3 x H4 s3 ⟨T,u1,v1,e1,e2,hT,hx,hH⟩=>⟨T,u1,v1,e1 _ (s3 _ _ ea),e2 _ (s3 _ _ eb),hT,hx,hH⟩);refine pN xs.length (λ_ => .bl true) hzl (λi H3 hi s3=>⟨xs,ys,_,_,s3 _ _ ea,s3 _ _ eb,List.getElem?_eq_getElem hi,List.getElem?_eq_getElem nofun⟩) (λH3 s3=>⟨xs,ys,s3 _ _ ea,s3 _ _ eb,l7 _⟩) (λi H3 x H4 hi s3 y=>?_) λD H3 hD s3 eD=>⟨D,_,rfl,SqL.of (eD.trans (by rw[j8])),by rw[j7];exact q H3 ((s1.trans s2).trans s3)⟩;obtain⟨T,x1,y1,hT,rfl,rfl,hc⟩:=tl i H3 x H4 hi s3 y;exact⟨ac hT _,λC N hC=>⟨T,_,rfl,SqT.of aa,rfl,_,_,rfl,_,_,rfl,rfl,((nfLe.refl _ _ _).set ∅ _).set ∅ _,iteT (B:=N (upd H3 T (.tup [x1,y1]))) ⟨_,rfl,_,rfl,hc C hC⟩⟩⟩
 ·obtain⟨b,hb⟩:=zF K d;obtain⟨e,hsc⟩:=wn dv du z;refine⟨_,rfl,v,_,"bool",b,rfl,(dv.same s1).ty,hb,_,rfl,u,_,"bool",b,rfl,(du.same s1).ty,hb,rfl,_,rfl,?_⟩;rw[decide_eq_true rfl];refine iteT ⟨_,rfl,_,rfl,hsc,?_⟩;rw[decide_eq_true e];exact q H1 s1
end
def bx {W:Addr}{H H':Hp}(k:KeepX W H H'):Same (offX H W) (offX H' W):=λb o e=>by
 unfold offX at e ⊢;split at e
 ·cases e
 ·rename_i hb;rw[if_neg hb];exact k b o hb e
def cC {W:Addr}{H:Hp}:Same (offX H W) H:=λb o e=>by
 unfold offX at e;split at e
 ·cases e
 ·exact e
def onL (ka:List Addr)(H:Hp):Hp:=λb=>if b∈ka then H b else none
def yD {ka:List Addr}{H:Hp}{b:Addr}(h:b∈ka):onL ka H b=H b:=if_pos h
def jt {ka:List Addr}{H:Hp}{b:Addr}{o:HO}(h:onL ka H b=some o):b∈ka/\H b=some o:=by
 unfold onL at h;split at h
 ·rename_i z;exact⟨z,h⟩
 ·cases h
def cQ {ka kb:List Addr}{H H':Hp}(hs:∀b∈ka,b∈kb)(k:∀b∈ka,∀o,H b=some o->H' b=some o):Same (onL ka H) (onL kb H'):=λb o e=>by
 obtain⟨hb,e⟩:=jt e;rw[yD (hs b hb)];exact k b hb o e
def IsK (H:Hp)(a:Addr):Prop:=∃xs:List V,H a=some (.lst xs)/\xs.length<=100000
def Mo2 (R:Hp->Hp->Prop):Prop:=∀F F' G G',Same F F'->Same G G'->R F G->R F' G'
structure Got (W:Addr)(H:Hp)(ka:List Addr)(H':Hp)(R:Hp->Hp->Prop):Prop where
 keep:KeepX W H H'
 new:∀a∈ka,H a=none/\IsK H' a
 q:NewQ H ka H' (R (onL ka H'))
section
variable {W:Addr}{H H1 H2:Hp}{ka kb:List Addr}{R R1 R2:Hp->Hp->Prop}
def Got.map (h:Got W H ka H1 R1)(k:∀F G,R1 F G->R F G):Got W H ka H1 R:=⟨h.keep,h.new,h.q.map λG=>k _ G⟩
def kX (s:Same H H1)(h:R (onL [] H1) (dif H H1)):Got W H [] H1 R:=⟨λb o _ e=>s b o e,(λ_ z=>nomatch z),dif H H1,dif_same,(λ_ z=>nomatch z),λb hb=>bg hb,h⟩
def Got.ne (h:Got W H ka H1 R)(hW:H W≠none){a:Addr}(ha:a∈ka):a≠W:=λz=>hW (z▸(h.new a ha).1)
def Got.join (h:Got W H ka H1 R1)(h2:Got W H1 kb H2 R2)(hW:H W≠none)(hW1:H1 W≠none)(m1:Mo2 R1)(m2:Mo2 R2)(k:∀F G,R1 F G->R2 F G->R F G):Got W H (ka++kb) H2 R:=by
 have kp:=h.keep.trans h2.keep;have hka:∀a∈ka,∀o,H1 a=some o->H2 a=some o:=λa ha o e=>h2.keep a o (h.ne hW ha) e;refine⟨kp,λa ha=>?_,?_⟩
 ·rcases l24.mp ha with z |z
  ·obtain⟨e,xs,e1,e2⟩:=h.new a z;exact⟨e,xs,hka a z _ e1,e2⟩
  ·obtain⟨e,xs,e1,e2⟩:=h2.new a z;exact⟨ax h.keep (h2.ne hW1 z) e,xs,e1,e2⟩
 ·obtain⟨G1,a1,b1,c1,r1⟩:=h.q;obtain⟨G2,a2,b2,c2,r2⟩:=h2.q;have q1:NewQ H (ka++kb) H2 λG=>R1 (onL (ka++kb) H2) G:=by
   refine⟨G1,λb o e=>h2.keep b o (λz=>?_) (a1 b o e),λb hb=>?_,c1,m1 _ _ _ _ (cQ (λb hb=>l54 _ hb) hka) (Same.refl _) r1⟩
   ·rw[z,c1 W hW] at e;cases e
   ·rcases l24.mp hb with z |z
    ·exact b1 b z
    ·cases e:G1 b with
     |none=>rfl
     |some o=>have:=a1 b o e;rw[(h2.new b z).1] at this;cases this
  have q2:NewQ H (ka++kb) H2 λG=>R2 (onL (ka++kb) H2) G:=by
   refine⟨G2,a2,λb hb=>?_,λb hb=>c2 b (eM h.keep hW1 hb),m2 _ _ _ _ (cQ (λb hb=>l31 _ hb) λ_ _ _ e=>e) (Same.refl _) r2⟩;rcases l24.mp hb with z |z
   ·obtain⟨_,xs,e1,_⟩:=h.new b z;exact c2 b (nz e1)
   ·exact b2 b z
  exact NewQ.join q1 q2 (λG G' s z=>m1 _ _ _ _ (Same.refl _) s z) (λG G' s z=>m2 _ _ _ _ (Same.refl _) s z) λG z1 z2=>k _ G z1 z2
end
def RL {α:Type}(R:Hp->Hp->Addr->α->Prop)(F G:Hp)(r:Addr)(zs:List α):Prop:=∃as:List Addr,F r=some (.lst (as.map V.ref))/\Ls (R F G) as zs
def Mo3 {α:Type}(R:Hp->Hp->Addr->α->Prop):Prop:=∀a z,Mo2 λF G=>R F G a z
def eO {α:Type}{R:Hp->Hp->Addr->α->Prop}(m:Mo3 R):Mo3 (RL R):=λa z F F' G G' s1 s2 ⟨as,e,k⟩=>⟨as,s1 _ _ e,k.mono λb x=>m b x _ _ _ _ s1 s2⟩
def dW {α:Type}{R:Hp->Hp->Addr->α->Prop}(m:Mo3 R)(as:List Addr)(zs:List α):Mo2 λF G=>Ls (R F G) as zs:=λF F' G G' s1 s2 k=>k.mono λb x=>m b x _ _ _ _ s1 s2
def ju {α:Type}{K:Frag}{l W:Addr}{xs:List V}{k:Nat}{fr:List Nat}{g:TG}{tt:TT}{te:TE}{σ:St}{H0:Hp}{Q:Addr->Hp->Prop}{ks:List V}(R:Hp->Hp->Addr->α->Prop)(mR:Mo3 R)(zs:List α)(cst:Nat)(hW:H0 W=some (.lst ks))(hx:H0 l=some (.lst xs))(hlW:l≠W)(w6:xs.length=zs.length)(hl:zs.length<=100000)
  (ht:∀(i:Nat) x z,xs[i]? = some x->zs[i]? = some z->∀H' ks',KeepX W H0 H'->H' W=some (.lst ks')->ks'.length<=ks.length+cst * i->∀(C:V->Hp->Prop)(N:Hp->Prop),(∀a ka H4,H4 W=some (.lst (ks'++ka.map V.ref))->ka.length<=cst->Got W H' ka H4 (λF G=>R F G a z)->C (.ref a) H4) →
   g x (nfS k fr σ) H' λσ2 H2=>nfLe k fr σ σ2/\tt σ2 H2 λb H3=>if b=true then te σ2 H3 C else N H3)
  (hq:∀D ka H' as,H0 D=none->H' W=some (.lst (ks++ka.map V.ref))->ka.length<=cst * zs.length->D∉ka->H' D=some (.lst (as.map V.ref))->KeepX W H0 H'->(∀a∈ka,H0 a=none/\IsK H' a)->NewQ H0 (D::ka) H' (λG=>Ls (R (onL ka H') G) as zs)->Q D H'):rLC k fr g tt te σ (Itl K l) H0 Q:=by
 intro D hD;have hWn:H0 W≠none:=nz hW;have hDW:D≠W:=λe=>by rw[e] at hD;exact hWn hD
 refine ⟨λi m acc H=>m=xs.length - i/\i<=xs.length/\H D=some (.lst acc)/\KeepX W H0 H/\∃(as:List Addr) (ka:List Addr),acc=as.map V.ref/\as.length=i/\H W=some (.lst (ks++ka.map V.ref))/\ka.length<=cst * i/\D∉ka/\(∀a∈ka,H0 a=none/\IsK H a)/\NewQ H0 (D::ka) H (λG=>Ls (R (onL ka H) G) as (zs.take i)),
  ⟨xs.length,by simp,l16 _,aa,ae (ac hD _),[],[],rfl,rfl,?_,l16 _,(λz=>nomatch z),(λ_ z=>nomatch z),NewQ.triv trivial⟩,?_⟩
 ·rw[ad (Ne.symm hDW),hW];simp
 rintro i m acc H ⟨rfl,hi,hDa,kp,as,ka,rfl,hal,hWa,hkl,hDk,v6,hn⟩;refine⟨hDa,?_⟩;by_cases hlt:i < xs.length
 ·refine .inr ⟨⟨xs,xs[i],SqL.of (kp _ _ hlW hx),by simp[hlt]⟩,λx H' y=>?_⟩;obtain⟨e,y⟩:=y;rw[e];have hzi:zs[i]? = some zs[i]:=List.getElem?_eq_getElem nofun;have hHW:H W≠none:=nz hWa;refine ht i x _ (y xs (SqL.of (kp _ _ hlW hx))) hzi _ _ kp hWa (by rw[l6,l5];omega) _ _ λa kb H4 hW4 hkb got=>?_;have hDkb:D∉kb:=λz=>by have:=(got.new D z).1;rw[hDa] at this;cases this
  have hD4:=got.keep _ _ hDW hDa;have hkaW:∀b∈ka,b≠W:=λb hb z=>hWn (z▸(v6 b hb).1);have hkab:∀b∈ka,∀o,H b=some o->H4 b=some o:=λb hb o e=>got.keep b o (hkaW b hb) e;have hDab:D∉ka++kb:=λz=>(l24.mp z).elim hDk hDkb;refine⟨hD4,by rw[l5,sizeLine_eq];omega,xs.length - (i+1),by omega,rfl,hlt,aa,?_,as++[a],ka++kb,by rw[l17];rfl,by rw[l6,hal];rfl,?_,?_,hDab,λb hb=>?_,?_⟩
  ·intro b o nb hb;rw[ad (nq hD hb)];exact(kp.trans got.keep) b o nb hb
  ·rw[ad (Ne.symm hDW),hW4,l17,l28]
  ·rw[l6,Nat.mul_succ];omega
  ·have hbD:b≠D:=λz=>hDab (z▸hb);unfold IsK;rw[ad hbD];rcases l24.mp hb with z |z
   ·obtain⟨e,ys,e1,e2⟩:=v6 b z;exact⟨e,ys,hkab b z _ e1,e2⟩
   ·obtain⟨e,ys,e1,e2⟩:=got.new b z;exact⟨ax kp (got.ne hHW z) e,ys,e1,e2⟩
  ·refine NewQ.upd ?_ l10;have hF:Same (onL (ka++kb) H4) (onL (ka++kb) (upd H4 D (.lst (as.map V.ref++[.ref a])))):=cQ (λ_ h=>h) λb hb o e=>(ad (λz:b=D=>hDab (z▸hb))).trans e;rw[l41,hzi];have q1:NewQ H0 (D::(ka++kb)) H4 λG=>Ls (R (onL (ka++kb) H4) G) as (zs.take i):=by
    obtain⟨G1,a1,b1,c1,r1⟩:=hn;refine⟨G1,λb o e=>got.keep b o (λz=>?_) (a1 b o e),λb hb=>?_,c1,dW mR _ _ _ _ _ _ (cQ (λb hb=>l54 _ hb) hkab) (Same.refl _) r1⟩
    ·rw[z,c1 W hWn] at e;cases e
    ·rcases l8.mp hb with z |z
     ·exact b1 b (z▸l10)
     ·rcases l24.mp z with z |z
      ·exact b1 b (l15 _ z)
      ·cases e:G1 b with
       |none=>rfl
       |some o=>have:=a1 b o e;rw[(got.new b z).1] at this;cases this
   have q2:NewQ H0 (D::(ka++kb)) H4 λG=>R (onL (ka++kb) H4) G a zs[i]:=by
    obtain⟨G2,a2,b2,c2,r2⟩:=got.q;refine⟨G2,a2,λb hb=>?_,λb hb=>c2 b (eM kp hHW hb),mR a _ _ _ _ _ (cQ (λb hb=>l31 _ hb) λ_ _ _ e=>e) (Same.refl _) r2⟩;rcases l8.mp hb with z |z
    ·exact c2 b (by rw[z,hDa];exact λz=>nomatch z)
    ·rcases l24.mp z with z |z
     ·obtain⟨_,ys,e1,_⟩:=v6 b z;exact c2 b (nz e1)
     ·exact b2 b z
   refine NewQ.join q1 q2 (λG G' s z=>dW mR _ _ _ _ _ _ (Same.refl _) s z) (λG G' s z=>mR _ _ _ _ _ _ (Same.refl _) s z) λG z1 z2=>?_;exact(z1.snoc z2).mono λb x=>mR b x _ _ _ _ hF (Same.refl _)
 ·have e:i=xs.length:=by omega
  subst e;rw[l55 nofun] at hn;exact .inl ⟨⟨xs,SqL.of (kp _ _ hlW hx),l7 _⟩,hq D ka H as hD hWa (by rw[<- w6];exact hkl) hDk hDa kp v6 hn⟩
section
variable {W:Addr}{H H1 H2:Hp}{ka kb:List Addr}{R R1 R2:Hp->Hp->Prop}
def Got.open {α:Type}{R:Hp->Hp->Addr->α->Prop}{r:Addr}{zs:List α}(h:Got W H ka H1 λF G=>RL R F G r zs):∃as:List Addr,H1 r=some (.lst (as.map V.ref))/\r∈ka/\Got W H ka H1 λF G=>Ls (R F G) as zs:=by
 obtain⟨G,a,b,c,as,e,k⟩:=h.q;obtain⟨hr,e⟩:=jt e;exact⟨as,e,hr,h.keep,h.new,G,a,b,c,k⟩
def Got.add {S:Hp->Prop}(h:Got W H ka H1 R1)(hW:H W≠none)(hW1:H1 W≠none)(s:Same H1 H2)(m1:Mo2 R1)(m:Mo S)(k:S (dif H1 H2)):Got W H ka H2 λF G=>R1 F G/\S G:=by
 have:=h.join (kX (R:=λ_ G=>S G) s k) hW hW1 m1 (λ_ _ _ _ _ s z=>m _ _ s z) (R:=λF G=>R1 F G/\S G) λF G a b=>⟨a,b⟩;rwa [l25] at this
end
theorem hZ {c:Cp}{H:Hp}:∀{as:List Addr} {ps:List PC},Ls (PCAt c H) as ps->PCs c H as ps
 | [],[],_=>trivial
 | [],_::_,h=>h.elim
 |_::_,[],h=>h.elim
 |_::_,_::_,h=>⟨h.1,hZ h.2⟩
def RP (c:Cp)(_ G:Hp)(a:Addr)(p:PC):Prop:=PCAt c G a p
def df {c:Cp}:Mo3 (RP c):=λ_ _ _ _ _ _ _ s h=>zr _ _ s h
section
variable {c:Cp}
abbrev wo:Stmt:=top 76
inductive spKept (vs:List V)(H:Hp)(Q:VK)(u3:XK):Prop
 |mk (r W:Addr)(ks:List V)(_:vs=[.ref r, .ref W])(_:H W=some (.lst ks))(_:ks.length<=1000000)(_:Q (.ref r) (upd H W (.lst (ks++[.ref r]))))
def wp (F:Fun K "_law_kept" "_law_kept" wo f fd):FnOk P w K mg base CX0 1 f fd p17 spKept:=by
 have sc:FnScope p17 p17 (ab wo):=mkS;refine F.oks sc λ{_ _ _ _ vs _}H Q hr h=>?_;obtain⟨r,W,ks,rfl,e,hl,q⟩:=h;refine ak (xbc (bo (xmA (xv 1) (xac (xv 0) xa0)))
  (xb1 (xret (xv 0)))) ?_
 rw[nN];exact⟨_,rfl, .inl ⟨rfl,_,SqL.of e⟩,_,rfl,W,ks, .ref r,rfl,rfl,e,by rw[sizeLine_eq];omega,_,rfl,q⟩
inductive spPtOf (c:Cp)(Rp:PC->Prop)(n:Nat)(vs:List V)(H:Hp)(Q:VK)(u3:XK):Prop
 |mk (v:V)(p:PC)(W:Addr)(ks:List V)(_:vs=[v, .ref W])(_:Dn (offX H W) v (dP p))(_:Rp p)(_:H W=some (.lst ks))(_:ks.length<=500000)(_:∀a ka H',H' W=some (.lst (ks++ka.map V.ref))->ka.length<=n->Got W H ka H' (λF G=>RP c F G a p)->Q (.ref a) H')
inductive spPsOf (c:Cp)(Rp:PC->Prop)(n:Nat)(vs:List V)(H:Hp)(Q:VK)(u3:XK):Prop
 |mk (v:V)(ps:List PC)(W:Addr)(ks:List V)(_:vs=[v, .ref W])(_:Dn (offX H W) v (.list (ps.map dP)))(_:∀p∈ps,Rp p)(_:ps.length<=100000)(_:H W=some (.lst ks))(_:ks.length+n * ps.length<=500000)(_:∀r ka H',H' W=some (.lst (ks++ka.map V.ref))->ka.length<=n * ps.length+1->Got W H ka H' (λF G=>RL (RP c) F G r ps)->Q (.ref r) H')
abbrev wq:Stmt:=top 77
def qR {k n:Nat}{Rp:PC->Prop}{spI:Sp}(F:Fun K "_law_part_of" "_law_part_of" wq f fd)(hk:1<=k)(DP:New P w K mg base 1 "Link" c.Link p28 (spInit2 c.Link "words" "name"))(Dl:New P w K mg base 1 "Plain" c.Plain p11 (spInit1 c.Plain "signs"))(DQ:New P w K mg base 1 "Code" c.Code p11 (spInit1 c.Code "signs"))
  (DR:New P w K mg base 1 "Mark" c.Mark ["self","name"] (spInit1 c.Mark "name"))(DS:New P w K mg base 1 "Strong" c.Strong p13 (spInitS c.Strong))(Df:Def P w K mg base k "_law_parts_of" p6 spI)(hI:∀ps,Rp (.strong ps)->1<=n/\ps.length<=100000/\∀vs H Q E,spPsOf c R1 0 vs H Q E->spI vs H Q E):FnOk P w K mg base CX0 (k+3) f fd p6 (spPtOf c Rp n):=by
 have sc:FnScope p6 p6 (ab wq):=mkS;refine F.oks sc λ{_ _ _ s _ _}H Q hr h=>?_;obtain⟨v,p,W,ks,rfl,dv,hRp,eW,hkl,q⟩:=h;refine ak (xbc (xif (aA aI (xix ar (xv 0) xint (λ_ _=>rfl)) xstr (ai _)) (xb1 (xret (xnew Dl hr.mono (xac (xix ar (xv 0) xint (λ_ _=>rfl)) xa0)))) xb0)
  (xbc (xif (aA aI (xix ar (xv 0) xint (λ_ _=>rfl)) xstr (ai _)) (xb1 (xret (xnew DQ hr.mono (xac (xix ar (xv 0) xint (λ_ _=>rfl)) xa0)))) xb0)
  (xbc (xif (aA aI (xix ar (xv 0) xint (λ_ _=>rfl)) xstr (ai _)) (xb1 (xret (xnew DS hr.mono (xac (xcd Df hr (xac (xix ar (xv 0) xint (λ_ _=>rfl)) (xac (xv 1) xa0))) xa0)))) xb0)
  (xbc (xif (aA aI (xix ar (xv 0) xint (λ_ _=>rfl)) xstr (ai _)) (xb1 (xret (xnew DP hr.mono (xac (xix ar (xv 0) xint (λ_ _=>rfl)) (xac (xix ar (xv 0) xint (λ_ _=>rfl)) xa0))))) xb0)
  (xb1 (xret (xnew DR hr.mono (xac (xix ar (xv 0) xint (λ_ _=>rfl)) xa0)))))))) ?_
 have hs:=sizeLine_eq;rw[nN];obtain⟨tb,ys,rfl,et⟩:=jn dv;have et:=cC _ _ et;have hWn:H W≠none:=nz eW;have evx:∀(j:Nat) (y:V),(V.str (kdP p)::ys)[j]? = some y->∀H',Same H H'->Ev (tOp (rIxT K) (tVar 0) (tC (.int j))) [some (.ref tb),some (.ref W)] H' y:=λj y hj H' s'=>eg (ev_v rfl) ev_c (SqT.of (s' _ _ et)) (ay hj);have done:∀(H2:Hp) (y:Addr),Same H H2->PCAt c (dif H H2) y p->Q (.ref y) H2:=λH2 y s2 h2=>q _ [] _ (by rw[l73,l25];exact s2 _ _ eW) (l16 _) (kX s2 h2)
 match p,dv,hRp,evx,et,done,q with
 | .one (.plain st),dv,hRp,evx,et,done,q=>
  obtain⟨_,e',e⟩:=kO dv;cases e';cases (cC _ _ e).symm.trans et;refine cA (Same.refl H) (evx 0 _ rfl) rfl λH1 s1=>?_;refine evx 1 _ rfl H1 s1 _ λy dx hy hd' _=>?_;obtain⟨m1,m2⟩:=pS (C:=c.Plain) (o := .ins c.Plain dx [("signs", .str st)]) s1 hy hd';exact⟨y,dx,_,rfl,aa,rfl,done _ _ m1 ⟨jo (p := .plain st) dv,dx,m2⟩⟩
 | .one (.code st),dv,hRp,evx,et,done,q=>
  obtain⟨_,e',e⟩:=kO dv;cases e';cases (cC _ _ e).symm.trans et;refine aD (k:=lM) (Same.refl H) (evx 0 _ rfl) ∅ λH1 s1=>cA s1 (evx 0 _ rfl) rfl λH1 s1=>?_;refine evx 1 _ rfl H1 s1 _ λy dx hy hd' _=>?_;obtain⟨m1,m2⟩:=pS (C:=c.Code) (o := .ins c.Code dx [("signs", .str st)]) s1 hy hd';exact⟨y,dx,_,rfl,aa,rfl,done _ _ m1 ⟨jo (p := .code st) dv,dx,m2⟩⟩
 | .one (.note st),dv,hRp,evx,et,done,q=>
  obtain⟨_,e',e⟩:=kO dv;cases e';cases (cC _ _ e).symm.trans et;refine aD (k:=ij) (Same.refl H) (evx 0 _ rfl) ∅ λH1 s1=>aD (k:=ij) s1 (evx 0 _ rfl) ∅ λH1 s1=>aD (k:=ij) s1 (evx 0 _ rfl) ∅ λH1 s1=>aD (k:=ij) s1 (evx 0 _ rfl) ∅ λH1 s1=>?_;refine evx 1 _ rfl H1 s1 _ λy dx hy hd' _=>?_;obtain⟨m1,m2⟩:=pS (C:=c.Mark) (o := .ins c.Mark dx [("name", .str st)]) s1 hy hd';exact⟨y,dx,_,rfl,aa,rfl,done _ _ m1 ⟨jo (p := .note st) dv,dx,m2⟩⟩
 | .one (.link st nm),dv,hRp,evx,et,done,q=>
  obtain⟨_,e',e⟩:=yo dv;cases e';cases (cC _ _ e).symm.trans et;obtain⟨g1,g2⟩:=jo (p := .link st nm) dv;refine aD (k:=i4) (Same.refl H) (evx 0 _ rfl) ∅ λH1 s1=>aD (k:=i4) s1 (evx 0 _ rfl) ∅ λH1 s1=>aD (k:=i4) s1 (evx 0 _ rfl) ∅ λH1 s1=>cA s1 (evx 0 _ rfl) rfl λH1 s1=>?_;refine evx 1 _ rfl H1 s1 _ (evx 2 _ rfl H1 s1 _ λy dx hy hd' _=>?_);obtain⟨m1,m2⟩:=yb (C:=c.Link) (o1 := .ins c.Link dx [("words", .str st)]) (o := .ins c.Link dx [("words", .str st),("name", .str nm)]) s1 hy hd';exact⟨y,dx,_,_,rfl,aa,rfl,done _ _ m1 ⟨g1,g2,dx,m2⟩⟩
 | .strong qs,dv,hRp,evx,et,done,q=>
  obtain⟨_,vm,e',e,b⟩:=qu dv;cases e';cases (cC _ _ e).symm.trans et;obtain⟨hn1,hql,hI⟩:=hI qs hRp;have em:(qs.map PC.one).map dP=qs.map d1:=by rw[l30];rfl
  have hq1:∀p∈qs.map PC.one,R1 p:=λp hp=>by
   obtain⟨x,_,rfl⟩:=l23.mp hp;unfold R1;simp[one?]
  refine aD (k:=cU) (Same.refl H) (evx 0 _ rfl) ∅ λH1 s1=>aD (k:=cU) s1 (evx 0 _ rfl) ∅ λH1 s1=>cA s1 (evx 0 _ rfl) rfl λH1 s1=>?_;refine evx 1 _ rfl H1 s1 _ ⟨_,rfl,hI _ _ _ _ ⟨_,qs.map .one,W,ks,rfl,?_,hq1,by rw[l5];exact hql,s1 _ _ eW,by omega,λr2 ka H5 eW5 hka got=>?_⟩⟩
  ·rw[em];exact b.same (bx (ae s1))
  obtain⟨bs,er2,hr2,got⟩:=got.open;have hW1:H1 W≠none:=by rw[s1 _ _ eW];exact λz=>nomatch z
  have hW5:H5 W≠none:=nz eW5;refine λy dx hy hd' hyd=>?_;have hry:r2≠y:=(nq hy er2);have hrd:r2≠dx:=(nq (hd') er2);refine⟨y,dx,r2,_,rfl,aa,by rw[ad hry,ad hrd];exact er2,λp2 hp2=>⟨rfl,?_⟩⟩;have hpy:p2≠y:=(nq aa hp2);have s6:Same H5 (upd (upd H5 dx (.own y)) y (.ins c.Strong dx [])):=aj hy (ac hd' _);have hp5:H5 p2=none:=s6.free hp2;generalize hH7:upd (upd (upd (upd H5 dx (.own y)) y (.ins c.Strong dx [])) p2 (.lst (bs.map V.ref))) y (.ins c.Strong dx [("parts", .ref p2)])=H7;have s7:Same H5 H7:=by rw[<- hH7];exact aj hy (s6.trans (ac hp2 _))
  have e7y:H7 y=some (.ins c.Strong dx [("parts", .ref p2)]):=by rw[<- hH7];exact aa
  have e7p:H7 p2=some (.lst (bs.map V.ref)):=by rw[<- hH7,ad hpy];exact aa
  have g7:=got.add (S:=λG=>G y=some (.ins c.Strong dx [("parts", .ref p2)])/\G p2=some (.lst (bs.map V.ref))) hW1 hW5 s7 (dW df _ _) (λG G' s h=>⟨s _ _ h.1,s _ _ h.2⟩) ⟨by rw[am hy];exact e7y,by rw[am hp5];exact e7p⟩;have g0:=(kX (W:=W) (R:=λ_ _=>True) s1 trivial).join g7 hWn hW1 (λ_ _ _ _ _ _ z=>z) (λF F' G G' sF sG h=>⟨dW df _ _ _ _ _ _ sF sG h.1,sG _ _ h.2.1,sG _ _ h.2.2⟩) (R:=λF G=>RP c F G y (.strong qs)) λF G _ h=>by
   have h3:=(hZ h.1).ones λp hp=>by
    obtain⟨x,_,rfl⟩:=l23.mp hp;exact λz=>nomatch z
   rw[mN] at h3;exact⟨dx,p2,bs,h.2.1,h.2.2,h3⟩
  exact q y _ H7 (s7 _ _ eW5) (l13 hka (by rw[Nat.zero_mul];exact hn1)) g0
end
def eQ {α:Type}{R:Hp->Hp->Addr->α->Prop}{W D:Addr}{H0 H':Hp}{ka as:List Addr}{zs:List α}{o:HO}(mR:Mo3 R)(hWn:H0 W≠none)(hD:H0 D=none)(hDk:D∉ka)(eD:H' D=some (.lst (as.map V.ref)))(kp:KeepX W H0 H')(v6:∀a∈ka,H0 a=none/\IsK H' a)(hlz:zs.length<=100000)(hn:NewQ H0 (D::ka) H' (λG=>Ls (R (onL ka H') G) as zs)):Got W H0 (ka++[D]) (upd H' W o) λF G=>RL R F G D zs:=by
 have hDW:D≠W:=λz=>hWn (z▸hD);have hne:∀b∈ka,b≠W:=λb hb z=>hWn (z▸(v6 b hb).1);refine⟨λb o' nb e=>(ad nb).trans (kp b o' nb e),λb hb=>?_,?_⟩
 ·rcases l24.mp hb with z |z
  ·unfold IsK;rw[ad (hne b z)];exact v6 b z
  ·unfold IsK;rw[l14.mp z,ad hDW];exact⟨hD,_,eD,by obtain⟨G,_,_,_,k⟩:=hn;rw[l5,k.len];exact hlz⟩
 ·obtain⟨G,a,b,c,k⟩:=hn;refine⟨G,λx o' e=>(ad λz=>?_).trans (a x o' e),λx hx=>b x ?_,c,as,?_,k.mono λx z=>mR x z _ _ _ _ ?_ (Same.refl _)⟩
  ·rw[z,c W hWn] at e;cases e
  ·rcases l24.mp hx with z |z
   ·exact l15 _ z
   ·rw[l14.mp z];exact l10
  ·rw[yD (l31 _ l10),ad hDW];exact eD
  ·exact cQ (λx hx=>l54 _ hx) λx hx o' e=>(ad (hne x hx)).trans e
def cR {W a:Addr}{H:Hp}{o:HO}(h:offX H W a=some o):a≠W/\H a=some o:=by
 unfold offX at h;split at h
 ·cases h
 ·rename_i z;exact⟨z,h⟩
section
variable {c:Cp}
abbrev wt:Stmt:=top 78
def qS {k n:Nat}{Rp:PC->Prop}(F:Fun K "_law_parts_of" "_law_parts_of" wt f fd)(hk:1<=k)(Dd:Def P w K mg base 1 "_law_kept" p17 spKept)(Ym:Def P w K mg base k "_law_part_of" p6 (spPtOf c Rp n)):FnOk P w K mg base CX0 (k+3) f fd p6 (spPsOf c Rp n):=by
 have sc:FnScope p6 p6 (ab wt):=mkS;refine F.oks sc λ{_ _ _ s _ _}H Q hr h=>?_;obtain⟨v,ps,W,ks,rfl,dv,hRp,hpl,eW,hkl,q⟩:=h;refine ak (xb1 (xret (xcd Dd hr (xac (xlc (cl:=[("_law_lists",s.heap.objs.size+1)]) (own:=["_law_one"]) (fr:=[1]) (N':=p20) rfl (eZ (xs:=["_law_lists"]) ⟨rfl,trivial⟩ ⟨rfl,rfl, .inl rfl, .inl rfl,trivial⟩ ∅) ∅ ∅ (by with_unfolding_all rfl)
  (xil (xv 0))
  (λ_ _ _ _=>xgm (i:=0) (show (p20:List Str).Nodup by decide)) (λ_ _ _ _=>xq0) (λ_ _ _ _=>(xcd Ym hr (xac (xv 0) (xac (xv 1) xa0))))) (xac (xv 1) xa0))))) ?_
 have hs:=sizeLine_eq;obtain⟨l,xs,rfl,el,da⟩:=aZ dv;obtain⟨hlW,el⟩:=cR el;have w6:xs.length=ps.length:=by rw[da.len,l5]
 have hWn:H W≠none:=nz eW;rw[nN];refine⟨_,rfl,l,rfl,⟨_,SqL.of el⟩,?_⟩;refine ju (RP c) df ps n eW el hlW w6 hpl ?_ ?_
 ·intro i x p hx hp H1 ks1 k1 eW1 hk1 C N hC;obtain⟨p',hp',_,dp⟩:=tu da hx;rw[hp] at hp';cases hp';have hni:n * i<=n * ps.length:=Nat.mul_le_mul_left _ (by have:=(List.getElem?_eq_some_iff.mp hp).1;omega);exact⟨(nfLe.refl _ _ _).set ∅ _,iteT (B:=N H1) ⟨_,rfl,_,rfl,_,p,W,ks1,rfl,dp.same (bx k1),hRp p (l18 hp),eW1,by omega,λa ka H4 eW4 hka got=>hC a ka H4 eW4 hka got⟩⟩
 ·intro D ka H1 as hD eW1 hka hDk eD kp v6 hn;refine⟨_,rfl,D,W,_,rfl,eW1,by rw[l6,l5];omega,?_⟩;refine q D (ka++[D]) _ (by rw[aa,l17,l28];rfl) (by rw[l6];show _+1<=_;omega) (eQ df hWn hD hDk eD kp v6 nofun hn)
abbrev wu:Stmt:=top 80
inductive spCsOf (c:Cp)(vs:List V)(H:Hp)(Q:VK)(u3:XK):Prop
 |mk (v:V)(cs:List (List PC))(W:Addr)(ks:List V)(_:vs=[v, .ref W])(_:Dn (offX H W) v (bI cs))(_:∀ps∈cs,ps.length<=4/\∀p∈ps,R2 p)(_:cs.length<=1000)(_:H W=some (.lst ks))(_:ks.length<=300000)(_:∀r ka H',H' W=some (.lst (ks++ka.map V.ref))->ka.length<=5 * cs.length+1->Got W H ka H' (λF G=>RL (RL (RP c)) F G r cs)->Q (.ref r) H')
def ww {k:Nat}(F:Fun K "_law_cells_of" "_law_cells_of" wu f fd)(hk:1<=k)(Dd:Def P w K mg base 1 "_law_kept" p17 spKept)(Df:Def P w K mg base k "_law_parts_of" p6 (spPsOf c R2 1)):FnOk P w K mg base CX0 (k+3) f fd p6 (spCsOf c):=by
 have sc:FnScope p6 p6 (ab wu):=mkS;refine F.oks sc λ{_ _ _ s _ _}H Q hr h=>?_;obtain⟨v,cs,W,ks,rfl,dv,hRp,hpl,eW,hkl,q⟩:=h;refine ak (xb1 (xret (xcd Dd hr (xac (xlc (cl:=[("_law_lists",s.heap.objs.size+1)]) (own:=["_law_one"]) (fr:=[1]) (N':=p20) rfl (eZ (xs:=["_law_lists"]) ⟨rfl,trivial⟩ ⟨rfl,rfl, .inl rfl, .inl rfl,trivial⟩ ∅) ∅ ∅ (by with_unfolding_all rfl)
  (xil (xv 0))
  (λ_ _ _ _=>xgm (i:=0) (show (p20:List Str).Nodup by decide)) (λ_ _ _ _=>xq0) (λ_ _ _ _=>(xcd Df hr (xac (xv 0) (xac (xv 1) xa0))))) (xac (xv 1) xa0))))) ?_
 have hs:=sizeLine_eq;obtain⟨l,xs,rfl,el,da⟩:=aZ dv;obtain⟨hlW,el⟩:=cR el;have w6:xs.length=cs.length:=by rw[da.len,l5]
 have hWn:H W≠none:=nz eW;rw[nN];refine⟨_,rfl,l,rfl,⟨_,SqL.of el⟩,?_⟩;refine ju (RL (RP c)) (eO df) cs 5 eW el hlW w6 nofun ?_ ?_
 ·intro i x ps hx hp H1 ks1 k1 eW1 hk1 C N hC;obtain⟨d,hdi,dx⟩:=da.getV hx;rw[List.getElem?_map,hp] at hdi;cases hdi;obtain⟨h4,hR⟩:=hRp ps (l18 hp);have hil:=(List.getElem?_eq_some_iff.mp hp).1;exact⟨(nfLe.refl _ _ _).set ∅ _,iteT (B:=N H1) ⟨_,rfl,_,rfl,_,ps,W,ks1,rfl,dx.same (bx k1),hR,by omega,eW1,by omega,λr ka H4 eW4 hka got=>hC r ka H4 eW4 nofun got⟩⟩
 ·intro D ka H1 as hD eW1 hka hDk eD kp v6 hn;refine⟨_,rfl,D,W,_,rfl,eW1,by rw[l6,l5];omega,?_⟩;refine q D (ka++[D]) _ (by rw[aa,l17,l28];rfl) (by rw[l6];show _+1<=_;omega) (eQ (eO df) hWn hD hDk eD kp v6 nofun hn)
end
structure KI {α:Type}(R:Hp->Hp->Addr->α->Prop)(W D:Addr)(ks:List V)(H0 H:Hp)(as ka:List Addr)(zs:List α):Prop where
 keep:KeepX W H0 H
 eD:H D=some (.lst (as.map V.ref))
 eW:H W=some (.lst (ks++ka.map V.ref))
 out:D∉ka
 new:∀a∈ka,H0 a=none/\IsK H a
 q:NewQ H0 (D::ka) H (λG=>Ls (R (onL ka H) G) as zs)
def KI.step {α:Type}{R:Hp->Hp->Addr->α->Prop}{W D a:Addr}{ks:List V}{H0 H H4:Hp}{as ka kb:List Addr}{zs:List α}{z:α}(h:KI R W D ks H0 H as ka zs)(mR:Mo3 R)(hW:H0 W=some (.lst ks))(hD:H0 D=none)(hW4:H4 W=some (.lst (ks++ka.map V.ref++kb.map V.ref)))(got:Got W H kb H4 λF G=>R F G a z):KI R W D ks H0 (upd H4 D (.lst (as.map V.ref++[.ref a]))) (as++[a]) (ka++kb) (zs++[z]):=by
 obtain⟨kp,hDa,hWa,hDk,v6,hn⟩:=h;have hWn:H0 W≠none:=nz hW;have hDW:D≠W:=λe=>by rw[e] at hD;exact hWn hD
 have hHW:H W≠none:=nz hWa;have hDkb:D∉kb:=λz=>by have:=(got.new D z).1;rw[hDa] at this;cases this
 have hkaW:∀b∈ka,b≠W:=λb hb z=>hWn (z▸(v6 b hb).1);have hkab:∀b∈ka,∀o,H b=some o->H4 b=some o:=λb hb o e=>got.keep b o (hkaW b hb) e;have hDab:D∉ka++kb:=λz=>(l24.mp z).elim hDk hDkb;refine⟨?_,by rw[aa,l17];rfl,?_,hDab,λb hb=>?_,?_⟩
 ·intro b o nb hb;rw[ad (nq hD hb)];exact(kp.trans got.keep) b o nb hb
 ·rw[ad (Ne.symm hDW),hW4,l17,l28]
 ·have hbD:b≠D:=λz=>hDab (z▸hb);unfold IsK;rw[ad hbD];rcases l24.mp hb with z |z
  ·obtain⟨e,ys,e1,e2⟩:=v6 b z;exact⟨e,ys,hkab b z _ e1,e2⟩
  ·obtain⟨e,ys,e1,e2⟩:=got.new b z;exact⟨ax kp (got.ne hHW z) e,ys,e1,e2⟩
 ·refine NewQ.upd ?_ l10;have hF:Same (onL (ka++kb) H4) (onL (ka++kb) (upd H4 D (.lst (as.map V.ref++[.ref a])))):=cQ (λ_ h=>h) λb hb o e=>(ad (λz:b=D=>hDab (z▸hb))).trans e;have q1:NewQ H0 (D::(ka++kb)) H4 λG=>Ls (R (onL (ka++kb) H4) G) as zs:=by
   obtain⟨G1,a1,b1,c1,r1⟩:=hn;refine⟨G1,λb o e=>got.keep b o (λz=>?_) (a1 b o e),λb hb=>?_,c1,dW mR _ _ _ _ _ _ (cQ (λb hb=>l54 _ hb) hkab) (Same.refl _) r1⟩
   ·rw[z,c1 W hWn] at e;cases e
   ·rcases l8.mp hb with z |z
    ·exact b1 b (z▸l10)
    ·rcases l24.mp z with z |z
     ·exact b1 b (l15 _ z)
     ·cases e:G1 b with
      |none=>rfl
      |some o=>have:=a1 b o e;rw[(got.new b z).1] at this;cases this
  have q2:NewQ H0 (D::(ka++kb)) H4 λG=>R (onL (ka++kb) H4) G a z:=by
   obtain⟨G2,a2,b2,c2,r2⟩:=got.q;refine⟨G2,a2,λb hb=>?_,λb hb=>c2 b (eM kp hHW hb),mR a _ _ _ _ _ (cQ (λb hb=>l31 _ hb) λ_ _ _ e=>e) (Same.refl _) r2⟩;rcases l8.mp hb with z |z
   ·exact c2 b (by rw[z,hDa];exact λz=>nomatch z)
   ·rcases l24.mp z with z |z
    ·obtain⟨_,ys,e1,_⟩:=v6 b z;exact c2 b (nz e1)
    ·exact b2 b z
  refine NewQ.join q1 q2 (λG G' s z=>dW mR _ _ _ _ _ _ (Same.refl _) s z) (λG G' s z=>mR _ _ _ _ _ _ (Same.refl _) s z) λG z1 z2=>?_;exact(z1.snoc z2).mono λb x=>mR b x _ _ _ _ hF (Same.refl _)
def RE (c:Cb)(n:Nat)(_ G:Hp)(a:Addr)(e:En n):Prop:=EAt c n G a e
def oB {c:Cb}{n:Nat}:Mo3 (RE c n):=λ_ _ _ _ _ _ _ s h=>gX n _ _ _ _ s h
def kE:Nat->Nat
 |0=>1
 |n+1=>2 * (5+kE n)+1
def SPs.r2 {ps : List PC} (h : CPs ps) : ∀ p ∈ ps, R2 p := yd (fun p hp => (h.2 p hp).1) (by
 have h1:∀l:List PC,(∀p∈l,szC p<=400)->(l.map szC).sum<=400 * l.length:=λl hl=>by
  induction l with
  |nil=>exact l7 _
  |cons p l ih=>
   have a:=hl p l10;have b:=ih λx hx=>hl x (l15 _ hx);rw[l20,l35,l9];omega
 have h2:=h1 ps λp hp=>(h.2 p hp).2;have:=h.1;omega)
section
variable {c:Cb}
abbrev wx:Stmt:=top 79
inductive spEsOf (c:Cb)(n:Nat)(vs:List V)(H:Hp)(Q:VK)(u3:XK):Prop
 |mk (v:V)(es:List (En n))(W:Addr)(ks:List V)(_:vs=[v, .ref W])(_:Dn (offX H W) v (.list (es.map (dE n))))(_:∀e∈es,GE n e)(_:es.length<=2)(_:H W=some (.lst ks))(_:ks.length+kE n<=300000)(_:∀r ka H',H' W=some (.lst (ks++ka.map V.ref))->ka.length<=kE n->Got W H ka H' (λF G=>RL (RE c n) F G r es)->Q (.ref r) H')
def zG (c:Cb)(spI:Sp):Nat->Prop
 |0=>True
 |m+1=>∀vs H Q E,spEsOf c m vs H Q E->spI vs H Q E
def qT {k:Nat}(n:Nat){spI:Sp}(F:Fun K "_law_entries_of" "_law_entries_of" wx f fd)(hk:1<=k)(Dd:Def P w K mg base 1 "_law_kept" p17 spKept)(Df:Def P w K mg base k "_law_parts_of" p6 (spPsOf c.cp R2 1))(Dq:New P w K mg base 1 "Entry" c.Entry p24 (spInitE c.Entry))(Yn:Def P w K mg base k "_law_entries_of" p6 spI)(hI:zG c spI n):FnOk P w K mg base CX0 (k+3) f fd p6 (spEsOf c n):=by
 have sc:FnScope ["_law_told","_law_lists","_law_found","_law_sign","_law_parts_here","_law_within"] p6 (ab wx):=mkS;refine F.oks sc λ{_ _ _ s _ _}H Q hr h=>?_;obtain⟨v,es,W,ks,rfl,dv,hG,hel,eW,hkl,q⟩:=h;refine ak (xbc (xst (i:=2) sc.nd (xlst xa0))
  (xbc (xfor PassesOwn.never rfl (xil (xv 0)) (xgt rfl (xgsc (xgm (i:=3) sc.nd) (xgsc (xgm (i:=4) sc.nd) (xgsc (xgm (i:=5) sc.nd) xgs0))))
  (xb1 (bo (xmA (xv 2) (xac (xnew Dq hr.mono (xac (xv 3) (xac (xcd Df hr (xac (xv 4) (xac (xv 1) xa0))) (xac (xcd Yn hr (xac (xv 5) (xac (xv 1) xa0))) xa0)))) xa0)))))
  (xb1 (xret (xcd Dd hr (xac (xv 2) (xac (xv 1) xa0))))))) ?_
 have hs:=sizeLine_eq;obtain⟨l,xs,rfl,el,da⟩:=aZ dv;obtain⟨hlW,el⟩:=cR el;have w6:xs.length=es.length:=by rw[da.len,l5]
 have hWn:H W≠none:=nz eW;rw[xC];refine ba λU0 eU=>?_;refine⟨bg0,λD hD=>?_⟩;have hDW:D≠W:=λz=>hWn (z▸hD);have s1:=ac hD (.lst []);have e1:upd H D (.lst []) D=some (.lst []):=aa
 left
 refine eU _ _ _ ?_;generalize upd H D (.lst [])=H1 at s1 e1 ⊢;refine⟨_,rfl,l,rfl,⟨_,SqL.of (s1 _ _ el)⟩,?_⟩;have hkE1:∀m,n=m+1->kE n=2 * (5+kE m)+1:=λm e=>by rw[e];rfl
 refine bc (xs:=xs) (λi σ H'=>∃as ka x3 x4 x5,σ=[some (.ref l),some (.ref W),some (.ref D),x3,x4,x5]/\(∀m,n=m+1->ka.length<=(5+kE m) * i)/\(i=0->ka=[])/\as.length=i/\KI (RE c n) W D ks H H' as ka (es.take i)) ⟨[],[],none,none,none,rfl,(λ_ _=>l16 _),(λ_=>rfl),rfl,ae s1,e1,by rw[l73,l25];exact s1 _ _ eW,(λz=>nomatch z),(λ_ z=>nomatch z),NewQ.triv trivial⟩ ?_ ?_ ?_
 ·rintro i σ H3 _ ⟨_,_,_,_,_,_,_,_,_,ki⟩;exact SqL.of (ki.keep _ _ hlW el)
 ·rintro i x σ H3 hx ⟨as,ka,x3,x4,x5,rfl,hkm,_,hal,ki⟩;obtain⟨dd,hdi,hdx⟩:=da.getV hx;rw[List.getElem?_map] at hdi;obtain⟨en,hei,rfl⟩:=l52.mp hdi;have hm:=l18 hei;have hil:=(List.getElem?_eq_some_iff.mp hei).1;cases n with
  |zero=>exact nomatch en
  |succ m=>
   have hdx:=hdx.same (bx ki.keep);obtain⟨b0,ys,rfl,eb,dy⟩:=iP hdx;obtain⟨y0,ys,rfl,d0,dy⟩:=ag dy;obtain⟨y1,ys,rfl,d1,dy⟩:=ag dy;obtain⟨y2,ys,rfl,d2,dy⟩:=ag dy;cases dU dy;cases bu d0;obtain⟨hps,hwl,hw⟩:=hG en hm;have hkm:=hkm m rfl;have hkE:=hkE1 m rfl;have hmi:(5+kE m) * i<=5+kE m:=by
    have:i=0 ∨ i=1:=by omega
    rcases this with z |z <;> rw[z] <;> simp
   refine⟨b0,_,rfl,SqT.of (cR eb).2,rfl,_,_,rfl,_,_,rfl,_,_,rfl,rfl,?_⟩
   left
   refine⟨_,rfl, .inl ⟨rfl,_,SqL.of ki.eD⟩,_,rfl,_,rfl,_,rfl,?_⟩;refine⟨_,EnF.parts en,W,_,rfl,d1,SPs.r2 hps.c,by have:=hps.2.1;omega,ki.eW,by rw[l6,l5];have:=hps.2.1;omega,λr1 k1 H4 eW4 hk1 g1=>?_⟩;have hH3W:H3 W≠none:=by rw[ki.eW];exact λz=>nomatch z
   have hH4W:H4 W≠none:=nz eW4;refine⟨_,rfl,_,rfl,hI _ _ _ _ ⟨_,EnF.within en,W,_,rfl,d2.same (bx g1.keep),hw,hwl,eW4,?_,λr2 k2 H5 eW5 hk2 g2=>?_⟩⟩
   ·have:=hps.2.1;rw[l6,l6,l5,l5];omega
   obtain⟨as1,er1,hr1,got1⟩:=g1.open;obtain⟨bs,er2,hr2,got2⟩:=g2.open;have hH5W:H5 W≠none:=nz eW5;have er15:=got2.keep _ _ (got1.ne hH3W hr1) er1;have g12:=got1.join got2 hH3W hH4W (dW df _ _) (dW oB _ _) (R:=λF G=>Ls (RP c.cp F G) as1 (EnF.parts en)/\Ls (RE c m F G) bs (EnF.within en)) λF G a b=>⟨a,b⟩;refine λy dx hy hd' hyd=>?_;have s6:Same H5 (upd (upd H5 dx (.own y)) y (.ins c.Entry dx [])):=aj hy (ac hd' _);refine⟨y,dx,_,r1,_,r2,_,rfl,aa,s6 _ _ er15,s6 _ _ er2,λp r H6 hp hr kx e6p e6r e6y=>⟨rfl,?_⟩⟩;have s56:Same H5 H6:=λb o e=>kx b o (nq hy e) (s6 _ _ e);have hp5:=s6.free hp;have hr5:=s6.free hr;have g6:=g12.add (S:=λG=>G y=some (.ins c.Entry dx [("sign",vS (cw (EnF.sign en))),("parts", .ref p),("entries", .ref r)])/\G p=some (.lst (as1.map V.ref))/\G r=some (.lst (bs.map V.ref))) hH3W hH5W s56 (λF F' G G' sF sG h=>⟨dW df _ _ _ _ _ _ sF sG h.1,dW oB _ _ _ _ _ _ sF sG h.2⟩) (λG G' s h=>⟨s _ _ h.1,s _ _ h.2.1,s _ _ h.2.2⟩) ⟨by rw[am hy];exact e6y,by rw[am hp5];exact e6p,by rw[am hr5];exact e6r⟩;have g7:Got W H3 (k1++k2) H6 λF G=>RE c (m+1) F G y en:=g6.map λF G h=>⟨dx,p,r,h.2.1,⟨as1,h.2.2.1,hZ h.1.1⟩,⟨bs,h.2.2.2,h.1.2⟩⟩;have eD6:=s56 _ _ (got2.keep _ _ hDW (got1.keep _ _ hDW ki.eD));have eW6:=s56 _ _ eW5;refine⟨D,_, .ref y,rfl,rfl,eD6,by rw[l5,hs];omega,?_⟩;have hst:=ki.step oB eW hD (by rw[l17,<- l28];exact eW6) g7;refine⟨as++[y],ka++(k1++k2),_,_,_,rfl,λm' e=>?_,(λz=>absurd z (Nat.succ_ne_zero i)),by rw[l6,hal];rfl,?_⟩
   ·cases e;have:=hps.2.1;rw[l6,l6,Nat.mul_succ];omega
   ·rw[l41,hei];exact hst
 ·rintro σ H3 ⟨as,ka,x3,x4,x5,rfl,hkm,hk0,hal,ki⟩;rw[w6,l38] at ki;have hkk:ka.length+1<=kE n:=by
   cases n with
   |zero=>
    have:es=[]:=by cases es with |nil=>rfl |cons e _=>exact nomatch e
    rw[hk0 (by rw[w6,this];rfl)];exact l7 _
   |succ m=>
    have h1:=hkm m rfl;have h2:=hkE1 m rfl;have h3:(5+kE m) * xs.length<=(5+kE m) * 2:=Nat.mul_le_mul_left _ nofun;omega
  refine⟨_,rfl,_,rfl,D,W,_,rfl,ki.eW,by rw[l6,l5];omega,?_⟩;exact q D (ka++[D]) _ (by rw[aa,l17,l28];rfl) (by rw[l6];exact hkk) (eQ oB hWn hD ki.out ki.eD ki.keep ki.new nofun ki.q)
end
def ini {C:Addr}{H5 H6:Hp}{y dx:Addr}(hy:H5 y=none)(hd':H5 dx=none)(kx:KeepX y (upd (upd H5 dx (.own y)) y (.ins C dx [])) H6):Same H5 H6:=λb o e=>kx b o (nq hy e) (aj hy (ac hd' _) b o e)
def ini0 {C:Addr}{H5:Hp}{y dx:Addr}(hy:H5 y=none)(hd':H5 dx=none):Same H5 (upd (upd H5 dx (.own y)) y (.ins C dx [])):=aj hy (ac hd' _)
def RB {β:Type}(R:Hp->Addr->β->Prop)(_ G:Hp)(a:Addr)(b:β):Prop:=R G a b
def tH {β:Type}{R:Hp->Addr->β->Prop}(m:MoR R):Mo3 (RB R):=λ_ _ _ _ _ _ _ s h=>m _ _ _ _ s h
def Zs {α γ:Type}(P:α->γ->Prop):List α->List γ->Prop
 | [],[]=>True
 |a::as,b::bs=>P a b/\Zs P as bs
 |_,_=>False
theorem Zs.len {α γ:Type}{P:α->γ->Prop}:∀{as:List α} {bs:List γ},Zs P as bs->as.length=bs.length
 | [],[],_=>rfl
 | [],_::_,h=>h.elim
 |_::_,[],h=>h.elim
 |_::_,_::_,h=>congrArg (· + 1) h.2.len
theorem Zs.mono {α γ:Type}{P P':α->γ->Prop}(k:∀a b,P a b->P' a b):∀{as:List α} {bs:List γ},Zs P as bs->Zs P' as bs
 | [],[],_=>trivial
 | [],_::_,h=>h.elim
 |_::_,[],h=>h.elim
 |_::_,_::_,h=>⟨k _ _ h.1,h.2.mono k⟩
theorem jv {α γ:Type}{Q:Addr->α->Prop}{P:α->γ->Prop}:∀{as:List Addr} {zs:List γ},Ls (λa z=>∃x,Q a x/\P x z) as zs->∃xs,Ls Q as xs/\Zs P xs zs
 | [],[],_=>⟨[],trivial,trivial⟩
 | [],_::_,h=>h.elim
 |_::_,[],h=>h.elim
 |_::_,_::_,h=>let ⟨x,h1,h2⟩:=h.1;let ⟨xs,h3,h4⟩:=jv h.2;⟨x::xs,⟨h1,h3⟩,h2,h4⟩
theorem jw {α γ:Type}{Q:Addr->α->Prop}{P:α->γ->Prop}{R:Addr->γ->Prop}(k:∀a x z,Q a x->P x z->R a z):∀{as:List Addr} {xs:List α} {zs:List γ},Ls Q as xs->Zs P xs zs->Ls R as zs
 | [],[],[],_,_=>trivial
 | [],[],_::_,_,h=>h.elim
 | [],_::_,_,h,_=>h.elim
 |_::_,[],_,h,_=>h.elim
 |_::_,_::_,[],_,h=>h.elim
 |_::_,_::_,_::_,h1,h2=>⟨k _ _ _ h1.1 h2.1,jw k h1.2 h2.2⟩
def PX (c:Cp)(G:Hp)(xs:List V)(ps:List PC):Prop:=∃as:List Addr,xs=as.map V.ref/\PCs c G as ps
def PX.same {c:Cp}{G G':Hp}{xs:List V}{ps:List PC}(s:Same G G')(h:PX c G xs ps):PX c G' xs ps:=let ⟨as,e,k⟩:=h;⟨as,e,k.same s⟩
def uy {c:Cp}{F G:Hp}{r:Addr}{cs:List (List PC)}(h:RL (RL (RP c)) F G r cs):∃hss,LV F r hss/\Zs (PX c G) hss cs:=by
 obtain⟨as,e,k⟩:=h;obtain⟨xs,h1,h2⟩:=jv (Q:=λa x=>F a=some (.lst x)) (P:=PX c G) (k.mono λa ps ⟨bs,e,k⟩=>⟨bs.map V.ref,e,bs,rfl,hZ k⟩);exact⟨xs,⟨as,e,h1⟩,h2⟩
def yE {c:Cp}{F G:Hp}{r:Addr}{ls:List (List (List PC))}(h:RL (RL (RL (RP c))) F G r ls):∃lss,LAt LV F r lss/\Zs (Zs (PX c G)) lss ls:=by
 obtain⟨as,e,k⟩:=h;obtain⟨xs,h1,h2⟩:=jv (Q:=λa x=>LV F a x) (P:=Zs (PX c G)) (k.mono λa cs h=>uy h);exact⟨xs,⟨as,e,h1⟩,h2⟩
def uz {c:Cp}{G:Hp}{r:Addr}{hss:List (List V)}{cs:List (List PC)}(h:LV G r hss)(k:Zs (PX c G) hss cs):LAt (PL c) G r cs:=
 let ⟨as,e,h1⟩:=h;⟨as,e,jw (λa x z h1 ⟨bs,e2,h2⟩=>⟨bs,by rw[h1,e2],h2⟩) h1 k⟩
def yF {c:Cp}{G:Hp}{r:Addr}{lss:List (List (List V))}{ls:List (List (List PC))}(h:LAt LV G r lss)(k:Zs (Zs (PX c G)) lss ls):LAt (LAt (PL c)) G r ls:=
 let ⟨as,e,h1⟩:=h;⟨as,e,jw (Q:=LV G) (P:=Zs (PX c G)) (R:=LAt (PL c) G) (λa x z h1 h2=>uz h1 h2) h1 k⟩
def Got.open1 {W:Addr}{H H1:Hp}{ka:List Addr}{c:Cp}{r:Addr}{cs:List (List PC)}(h:Got W H ka H1 λF G=>RL (RL (RP c)) F G r cs):∃hss,LV (onL ka H1) r hss/\Got W H ka H1 λ_ G=>Zs (PX c G) hss cs:=by
 obtain⟨G,a,b,d,k⟩:=h.q;obtain⟨hss,h1,h2⟩:=uy k;exact⟨hss,h1,h.keep,h.new,G,a,b,d,h2⟩
def Got.open2 {W:Addr}{H H1:Hp}{ka:List Addr}{c:Cp}{r:Addr}{ls:List (List (List PC))}(h:Got W H ka H1 λF G=>RL (RL (RL (RP c))) F G r ls):∃lss,LAt LV (onL ka H1) r lss/\Got W H ka H1 λ_ G=>Zs (Zs (PX c G)) lss ls:=by
 obtain⟨G,a,b,d,k⟩:=h.q;obtain⟨lss,h1,h2⟩:=yE k;exact⟨lss,h1,h.keep,h.new,G,a,b,d,h2⟩
theorem kY {G:Hp}:∀{sd:List Bool} {xs:List V},DnAll G xs (sd.map λb => .str (S (cr b)))->xs=sd.map λb=>vS (cr b)
 | [],_,h=>dU h
 |_::_,_,h=>by
  obtain⟨v,us,rfl,d,r⟩:=ag h;cases bu d;rw[kY r];rfl
def CCs.pre {cs:List (List PC)}(h:CCs cs):∀ps∈cs,ps.length<=4/\∀p∈ps,R2 p:=λps hp=>⟨(h.2 ps hp).1,SPs.r2 (h.2 ps hp)⟩
section
variable {c:Cb}{BT:Addr}{β:Type}
abbrev wy:Stmt:=top 81
inductive spBkOf (g:β->PyData)(R:Hp->Addr->β->Prop)(ok:β->Prop)(kc:Nat)(vs:List V)(H:Hp)(Q:VK)(u3:XK):Prop
 |mk (v:V)(b:β)(W:Addr)(ks:List V)(_:vs=[v, .ref W])(_:Dn (offX H W) v (g b))(_:ok b)(_:H W=some (.lst ks))(_:ks.length+kc<=200000)(_:∀a ka H',H' W=some (.lst (ks++ka.map V.ref))->ka.length<=kc->Got W H ka H' (λF G=>RB R F G a b)->Q (.ref a) H')
def jx {k kc:Nat}{spI:Sp}{g:β->PyData}{R:Hp->Addr->β->Prop}{ok:β->Prop}(mR:MoR R)(F:Fun K "_law_block_of" "_law_block_of" wy f fd)(T:TxB K mg c BT)(hk:2<=k)(Dd:Def P w K mg base 1 "_law_kept" p17 spKept)(Df:Def P w K mg base k "_law_parts_of" p6 (spPsOf c.cp R2 1))(Dr:Def P w K mg base k "_law_cells_of" p6 (spCsOf c.cp))(Yn:Def P w K mg base k "_law_entries_of" p6 (spEsOf c 6))
  (Dx:New P w K mg base 1 "Naming" c.Naming p32 (spInit2 c.Naming "name" "target"))(Dy:New P w K mg base 1 "Para" c.Para p13 (spInitL c.Para "parts"))(Dz:New P w K mg base 1 "Noting" c.Noting p31 (spInitVL c.Noting "name" "parts"))(DA:New P w K mg base 1 "Heading" c.Heading p30 (spInitVL c.Heading "level" "parts"))(DB:New P w K mg base 1 "Listing" c.Listing p29 (spInitL c.Listing "entries"))(DC:New P w K mg base 1 "Literal" c.Literal p22 (spInitL c.Literal "lines"))(Do:New P w K mg base 1 "Quote" c.Quote p23 (spInitL c.Quote "blocks"))(DD:New P w K mg base 2 "Table" c.Table p33 (spInitT c.Table))
  (DE:Def P w K mg base k "_law_block_of" p6 spI)(hI:∀b:β,∀vs H Q E,spBkOf g R ok kc vs H Q E->spI vs H Q E):FnOk P w K mg base CX0 (k+3) f fd p6 (spBkOf (dBF g) (BAtF c R) (GBF ok) (2 * kc+1000)):=by
 have sc:FnScope ["_law_told","_law_lists","_law_lines"] p6 (ab wy):=mkS;refine F.oks sc λ{_ _ _ s _ _}H Q hr h=>?_;obtain⟨v,b,W,ks,rfl,dv,hok,eW,hkl,q⟩:=h;refine ak (xbc (xif (aA aI (xix ar (xv 0) xint (λ_ _=>rfl)) xstr (ai _)) (xb1 (xret (xnew Dx hr.mono (xac (xix ar (xv 0) xint (λ_ _=>rfl)) (xac (xix ar (xv 0) xint (λ_ _=>rfl)) xa0))))) xb0)
  (xbc (xif (aA aI (xix ar (xv 0) xint (λ_ _=>rfl)) xstr (ai _)) (xb1 (xret (xnew Dy hr.mono (xac (xcd Df hr (xac (xix ar (xv 0) xint (λ_ _=>rfl)) (xac (xv 1) xa0))) xa0)))) xb0)
  (xbc (xif (aA aI (xix ar (xv 0) xint (λ_ _=>rfl)) xstr (ai _)) (xb1 (xret (xnew Dz hr.mono (xac (xix ar (xv 0) xint (λ_ _=>rfl)) (xac (xcd Df hr (xac (xix ar (xv 0) xint (λ_ _=>rfl)) (xac (xv 1) xa0))) xa0))))) xb0)
  (xbc (xif (aA aI (xix ar (xv 0) xint (λ_ _=>rfl)) xstr (ai _)) (xb1 (xret (xnew DA hr.mono (xac (xix ar (xv 0) xint (λ_ _=>rfl)) (xac (xcd Df hr (xac (xix ar (xv 0) xint (λ_ _=>rfl)) (xac (xv 1) xa0))) xa0))))) xb0)
  (xbc (xif (aA aI (xix ar (xv 0) xint (λ_ _=>rfl)) xstr (ai _)) (xb1 (xret (xnew DB hr.mono (xac (xcd Yn hr (xac (xix ar (xv 0) xint (λ_ _=>rfl)) (xac (xv 1) xa0))) xa0)))) xb0)
  (xbc (xif (aA aI (xix ar (xv 0) xint (λ_ _=>rfl)) xstr (ai _)) (xb1 (xret (xnew DC hr.mono (xac (xcd Dd hr (xac (xcTy ao T.u10 rfl (xac (xix ar (xv 0) xint (λ_ _=>rfl)) xa0)) (xac (xv 1) xa0))) xa0)))) xb0)
  (xbc (xif (aA aI (xix ar (xv 0) xint (λ_ _=>rfl)) xstr (ai _)) (xb1 (xret (xnew Do hr.mono (xac (xcd Dd hr (xac (xlc (cl:=[("_law_lists",s.heap.objs.size+1)]) (own:=["_law_one"]) (fr:=[1]) (N':=p20) rfl (eZ (xs:=["_law_lists"]) ⟨rfl,trivial⟩ ⟨rfl,rfl, .inl rfl, .inl rfl,trivial⟩ ∅) ∅ ∅ (by with_unfolding_all rfl)
  (xil (xix ar (xv 0) xint (λ_ _=>rfl)))
  (λ_ _ _ _=>xgm (i:=0) (show (p20:List Str).Nodup by decide)) (λ_ _ _ _=>xq0) (λ_ _ _ _=>(xcd DE hr (xac (xv 0) (xac (xv 1) xa0))))) (xac (xv 1) xa0))) xa0)))) xb0)
  (xbc (xst (i:=2) sc.nd (xcd Dd hr (xac (xlc (cl:=[("_law_lists",s.heap.objs.size+1)]) (own:=["_law_line"]) (fr:=[1]) (N':=["_law_line","_law_lists"]) rfl (eZ (xs:=["_law_lists"]) ⟨rfl,trivial⟩ ⟨rfl,rfl, .inl rfl, .inl rfl,trivial⟩ ∅) ∅ ∅ (by with_unfolding_all rfl)
  (xil (xix ar (xv 0) xint (λ_ _=>rfl)))
  (λ_ _ _ _=>xgm (i:=0) (show (["_law_line","_law_lists"]:List Str).Nodup by decide)) (λ_ _ _ _=>xq0) (λ_ _ _ _=>(xcd Dr hr (xac (xv 0) (xac (xv 1) xa0))))) (xac (xv 1) xa0))))
  (xb1 (xret (xnew DD hr.mono (xac (xcd Dr hr (xac (xix ar (xv 0) xint (λ_ _=>rfl)) (xac (xv 1) xa0))) (xac (xcd Dd hr (xac (xcTy ao T.u10 rfl (xac (xix ar (xv 0) xint (λ_ _=>rfl)) xa0)) (xac (xv 1) xa0))) (xac (xv 2) xa0)))))))))))))) ?_
 have hs:=sizeLine_eq;have hWn:H W≠none:=nz eW;rw[u6];obtain⟨b0,ys,rfl,eb,ds,hds,dy⟩:∃b0 ys,v = .ref b0/\offX H W b0=some (.tup ys)/\∃ds,dBF g b = .tuple ds/\DnAll (offX H W) ys ds:=by
  cases b <;> exact let ⟨b0,ys,e,eb,dy⟩:=iP dv;⟨b0,ys,e,eb,_,rfl,dy⟩
 obtain⟨hbW,eb⟩:=cR eb;have evk:∀{j:Nat} {y:V} {x2:Option V},ys[j]? = some y->∀H',KeepX W H H'->Ev (tOp (rIxT K) (tVar 0) (tC (.int j))) [some (.ref b0),some (.ref W),x2] H' y:=λhj H' s'=>eg (ev_v rfl) ev_c (SqT.of (s' _ _ hbW eb)) (ay hj);have evx:∀{j:Nat} {y:V},ys[j]? = some y->∀H',Same H H'->Ev (tOp (rIxT K) (tVar 0) (tC (.int j))) [some (.ref b0),some (.ref W),none] H' y:=λhj H' s'=>evk hj H' (ae s');have base_:∀{H1 H2:Hp} {ka:List Addr} {R1:Hp->Hp->Prop},Same H H1->Got W H1 ka H2 R1->Mo2 R1->Got W H ka H2 R1:=λ{H1 H2 ka R1} s1 g1 m1=>(kX (W:=W) (R:=λ_ _=>True) s1 trivial).join g1 hWn (by rw[s1 _ _ eW];exact λz=>nomatch z) (λ_ _ _ _ _ _ z=>z) m1 λF G _ h=>h;refine gen7 λB0 B1 B2 B3 B4 B5 B6 U0 e0 e1 e2 e3 e4 e5 e6 eU=>?_;cases b with
 |name n t=>
  cases hds;obtain⟨y0,ys,rfl,d0,dy⟩:=ag dy;obtain⟨y1,ys,rfl,d1,dy⟩:=ag dy;obtain⟨y2,ys,rfl,d2,dy⟩:=ag dy;cases bu d0;cases bu d1;cases bu d2;refine cA (Same.refl H) (evx (j:=0) rfl) rfl λH1 s1=>?_;refine e0 _ _ _ ?_;refine evx (j:=1) rfl H1 s1 _ (evx (j:=2) rfl H1 s1 _ λy dx hy hd' _=>?_);obtain⟨m1,m2⟩:=yb (C:=c.Naming) (o1 := .ins c.Naming dx [("name",vS n)]) (o := .ins c.Naming dx [("name",vS n),("target",vS t)]) s1 hy hd';exact⟨y,dx,_,_,rfl,aa,rfl,q y [] _ (by rw[l73,l25];exact m1 _ _ eW) (l16 _) (kX m1 ⟨dx,m2⟩)⟩
 |para ps=>
  cases hds;obtain⟨y0,ys,rfl,d0,dy⟩:=ag dy;obtain⟨y1,ys,rfl,d1,dy⟩:=ag dy;cases bu d0;have hps:SPs ps:=hok;refine aD (Same.refl H) (evx (j:=0) rfl) ∅ λH1 s1=>cA s1 (evx (j:=0) rfl) rfl λH1 s1=>?_;refine e1 _ _ _ ?_;refine evx (j:=1) rfl H1 s1 _ ⟨_,rfl,_,ps,W,ks,rfl,d1.same (bx (ae s1)),SPs.r2 hps.c,by have:=hps.2.1;omega,s1 _ _ eW,by have:=hps.2.1;omega,λr ka H5 eW5 hka got=>?_⟩;obtain⟨as,er,_,got⟩:=(base_ s1 got (eO df _ _)).open;refine λy dx hy hd' hyd=>⟨y,dx,r,_,rfl,aa,ini0 hy hd' _ _ er,λp H6 hp kx e6p e6y=>⟨rfl,?_⟩⟩;have s56:=ini hy hd' kx;have g6:=got.add (S:=λG=>G y=some (.ins c.Para dx [("parts", .ref p)])/\G p=some (.lst (as.map V.ref))) hWn (nz eW5) s56 (dW df _ _) (λG G' s h=>⟨s _ _ h.1,s _ _ h.2⟩) ⟨by rw[am hy];exact e6y,by rw[am ((ini0 hy hd').free hp)];exact e6p⟩;exact q y ka H6 (s56 _ _ eW5) (by have:=hps.2.1;omega) (g6.map λF G h=>⟨dx,p,h.2.1,as,h.2.2,hZ h.1⟩)
 |note n ps=>
  cases hds;obtain⟨y0,ys,rfl,d0,dy⟩:=ag dy;obtain⟨y1,ys,rfl,d1,dy⟩:=ag dy;obtain⟨y2,ys,rfl,d2,dy⟩:=ag dy;cases bu d0;cases bu d1;have hps:SPs ps:=hok.2;refine aD (Same.refl H) (evx (j:=0) rfl) ∅ λH1 s1=>aD s1 (evx (j:=0) rfl) ∅ λH1 s1=>cA s1 (evx (j:=0) rfl) rfl λH1 s1=>?_;refine e2 _ _ _ ?_;refine evx (j:=1) rfl H1 s1 _ (evx (j:=2) rfl H1 s1 _ ⟨_,rfl,_,ps,W,ks,rfl,d2.same (bx (ae s1)),SPs.r2 hps.c,by have:=hps.2.1;omega,s1 _ _ eW,by have:=hps.2.1;omega,λr ka H5 eW5 hka got=>?_⟩);obtain⟨as,er,_,got⟩:=(base_ s1 got (eO df _ _)).open;refine λy dx hy hd' hyd=>⟨y,dx,_,r,_,rfl,aa,ini0 hy hd' _ _ er,λp H6 hp kx e6p e6y=>⟨rfl,?_⟩⟩;have s56:=ini hy hd' kx;have g6:=got.add (S:=λG=>G y=some (.ins c.Noting dx [("name",vS n),("parts", .ref p)])/\G p=some (.lst (as.map V.ref))) hWn (nz eW5) s56 (dW df _ _) (λG G' s h=>⟨s _ _ h.1,s _ _ h.2⟩) ⟨by rw[am hy];exact e6y,by rw[am ((ini0 hy hd').free hp)];exact e6p⟩;exact q y ka H6 (s56 _ _ eW5) (by have:=hps.2.1;omega) (g6.map λF G h=>⟨dx,p,h.2.1,as,h.2.2,hZ h.1⟩)
 |heading n ps=>
  cases hds;obtain⟨y0,ys,rfl,d0,dy⟩:=ag dy;obtain⟨y1,ys,rfl,d1,dy⟩:=ag dy;obtain⟨y2,ys,rfl,d2,dy⟩:=ag dy;cases bu d0;cases d1;have hps:SPs ps:=hok.2;refine aD (Same.refl H) (evx (j:=0) rfl) ∅ λH1 s1=>aD s1 (evx (j:=0) rfl) ∅ λH1 s1=>aD s1 (evx (j:=0) rfl) ∅ λH1 s1=>cA s1 (evx (j:=0) rfl) rfl λH1 s1=>?_;refine e3 _ _ _ ?_;refine evx (j:=1) rfl H1 s1 _ (evx (j:=2) rfl H1 s1 _ ⟨_,rfl,_,ps,W,ks,rfl,d2.same (bx (ae s1)),SPs.r2 hps.c,by have:=hps.2.1;omega,s1 _ _ eW,by have:=hps.2.1;omega,λr ka H5 eW5 hka got=>?_⟩);obtain⟨as,er,_,got⟩:=(base_ s1 got (eO df _ _)).open;refine λy dx hy hd' hyd=>⟨y,dx,_,r,_,rfl,aa,ini0 hy hd' _ _ er,λp H6 hp kx e6p e6y=>⟨rfl,?_⟩⟩;have s56:=ini hy hd' kx;have g6:=got.add (S:=λG=>G y=some (.ins c.Heading dx [("level", .int n),("parts", .ref p)])/\G p=some (.lst (as.map V.ref))) hWn (nz eW5) s56 (dW df _ _) (λG G' s h=>⟨s _ _ h.1,s _ _ h.2⟩) ⟨by rw[am hy];exact e6y,by rw[am ((ini0 hy hd').free hp)];exact e6p⟩;exact q y ka H6 (s56 _ _ eW5) (by have:=hps.2.1;omega) (g6.map λF G h=>⟨dx,p,h.2.1,as,h.2.2,hZ h.1⟩)
 |lst es=>
  cases hds;obtain⟨y0,ys,rfl,d0,dy⟩:=ag dy;obtain⟨y1,ys,rfl,d1,dy⟩:=ag dy;cases bu d0;have hk6:kE 6=757:=by decide
  refine aD (Same.refl H) (evx (j:=0) rfl) ∅ λH1 s1=>aD s1 (evx (j:=0) rfl) ∅ λH1 s1=>aD s1 (evx (j:=0) rfl) ∅ λH1 s1=>aD s1 (evx (j:=0) rfl) ∅ λH1 s1=>cA s1 (evx (j:=0) rfl) rfl λH1 s1=>?_;refine e4 _ _ _ ?_;refine evx (j:=1) rfl H1 s1 _ ⟨_,rfl,_,es,W,ks,rfl,d1.same (bx (ae s1)),hok.2.1,hok.1,s1 _ _ eW,by omega,λr ka H5 eW5 hka got=>?_⟩;obtain⟨as,er,_,got⟩:=(base_ s1 got (eO oB _ _)).open;refine λy dx hy hd' hyd=>⟨y,dx,r,_,rfl,aa,ini0 hy hd' _ _ er,λp H6 hp kx e6p e6y=>⟨rfl,?_⟩⟩;have s56:=ini hy hd' kx;have g6:=got.add (S:=λG=>G y=some (.ins c.Listing dx [("entries", .ref p)])/\G p=some (.lst (as.map V.ref))) hWn (nz eW5) s56 (dW oB _ _) (λG G' s h=>⟨s _ _ h.1,s _ _ h.2⟩) ⟨by rw[am hy];exact e6y,by rw[am ((ini0 hy hd').free hp)];exact e6p⟩;exact q y ka H6 (s56 _ _ eW5) nofun (g6.map λF G h=>⟨dx,p,h.2.1,as,h.2.2,h.1⟩)
 |lit ls=>
  cases hds;obtain⟨y0,ys,rfl,d0,dy⟩:=ag dy;obtain⟨y1,ys,rfl,d1,dy⟩:=ag dy;cases bu d0;refine aD (Same.refl H) (evx (j:=0) rfl) ∅ λH1 s1=>aD s1 (evx (j:=0) rfl) ∅ λH1 s1=>aD s1 (evx (j:=0) rfl) ∅ λH1 s1=>aD s1 (evx (j:=0) rfl) ∅ λH1 s1=>aD s1 (evx (j:=0) rfl) ∅ λH1 s1=>cA s1 (evx (j:=0) rfl) rfl λH1 s1=>?_;refine e5 _ _ _ ?_;obtain⟨l,xs,rfl,el,dx0⟩:=aZ d1;obtain⟨hlW,el⟩:=cR el;cases m5 dx0;refine evx (j:=1) rfl H1 s1 _ ⟨l,_,rfl, .inl (SqL.of (s1 _ _ el)),λD hD=>⟨_,rfl,D,W,ks,rfl,ac hD _ _ _ (s1 _ _ eW),by omega,?_⟩⟩;have hDW:D≠W:=(nq (s1 _ _ eW) hD);have s2:Same H (upd H1 D (.lst (ls.map vS))):=s1.trans (ac hD _);have e2:upd H1 D (.lst (ls.map vS)) D=some (.lst (ls.map vS)):=aa;have got:Got W H [D] (upd (upd H1 D (.lst (ls.map vS))) W (.lst (ks++[.ref D]))) λ_ _=>True:=by
   refine⟨λb o nb e=>(ad nb).trans (s2 b o e),λb hb=>?_,NewQ.triv trivial⟩;unfold IsK;rw[l14.mp hb,ad hDW];exact⟨s1.free hD,_,e2,by rw[l5];have:=hok.1;omega⟩
  have eD5:upd (upd H1 D (.lst (ls.map vS))) W (.lst (ks++[.ref D])) D=some (.lst (ls.map vS)):=(ad hDW).trans e2;have eW5:upd (upd H1 D (.lst (ls.map vS))) W (.lst (ks++[.ref D])) W=some (.lst (ks++[D].map V.ref)):=aa;generalize upd (upd H1 D (.lst (ls.map vS))) W (.lst (ks++[.ref D]))=H5 at got eD5 eW5 ⊢;refine λy dx hy hd' hyd=>⟨y,dx,D,_,rfl,aa,ini0 hy hd' _ _ eD5,λp H6 hp kx e6p e6y=>⟨rfl,?_⟩⟩;have s56:=ini hy hd' kx;have g6:=got.add (S:=λG=>G y=some (.ins c.Literal dx [("lines", .ref p)])/\G p=some (.lst (ls.map vS))) hWn (nz eW5) s56 (λ_ _ _ _ _ _ z=>z) (λG G' s h=>⟨s _ _ h.1,s _ _ h.2⟩) ⟨by rw[am hy];exact e6y,by rw[am ((ini0 hy hd').free hp)];exact e6p⟩;exact q y [D] H6 (s56 _ _ eW5) (by show 1<=_;omega) (g6.map λF G h=>⟨dx,p,h.2.1,h.2.2⟩)
 |quote bs=>
  cases hds;obtain⟨y0,ys,rfl,d0,dy⟩:=ag dy;obtain⟨y1,ys,rfl,d1,dy⟩:=ag dy;cases bu d0;have hbl:bs.length<=2:=hok.1;have hbo:∀b∈bs,ok b:=hok.2;refine aD (Same.refl H) (evx (j:=0) rfl) ∅ λH1 s1=>aD s1 (evx (j:=0) rfl) ∅ λH1 s1=>aD s1 (evx (j:=0) rfl) ∅ λH1 s1=>aD s1 (evx (j:=0) rfl) ∅ λH1 s1=>aD s1 (evx (j:=0) rfl) ∅ λH1 s1=>aD s1 (evx (j:=0) rfl) ∅ λH1 s1=>cA s1 (evx (j:=0) rfl) rfl λH1 s1=>?_;refine e6 _ _ _ ?_;obtain⟨l,xs,rfl,el,da⟩:=aZ d1;obtain⟨hlW,el⟩:=cR el;have w6:xs.length=bs.length:=by rw[da.len,l5]
  refine evx (j:=1) rfl H1 s1 _ ⟨l,rfl,⟨_,SqL.of (s1 _ _ el)⟩,?_⟩;refine ju (RB R) (tH mR) bs kc (s1 _ _ eW) (s1 _ _ el) hlW w6 nofun ?_ ?_
  ·intro i x b hx hb H2 ks2 k2 eW2 hk2 C N hC;obtain⟨d,hdi,dx0⟩:=da.getV hx;rw[List.getElem?_map,hb] at hdi;cases hdi;have hil:=(List.getElem?_eq_some_iff.mp hb).1;have hki:kc * i<=kc:=by
    have:i=0 ∨ i=1:=by omega
    rcases this with z |z <;> rw[z] <;> simp
   exact⟨(nfLe.refl _ _ _).set ∅ _,iteT (B:=N H2) ⟨_,rfl,_,rfl,hI b _ _ _ _ ⟨_,b,W,ks2,rfl,dx0.same (bx ((ae s1).trans k2)),hbo b (l18 hb),eW2,by omega,λa ka H4 eW4 hka got=>hC a ka H4 eW4 hka got⟩⟩⟩
  ·intro D ka H2 as hD eW2 hka hDk eD kp v6 hn;have hki:kc * bs.length<=kc * 2:=Nat.mul_le_mul_left _ hbl;refine⟨_,rfl,D,W,_,rfl,eW2,by rw[l6,l5];omega,?_⟩;have hW1:H1 W≠none:=by rw[s1 _ _ eW];exact λz=>nomatch z
   have got:=eQ (o := .lst (ks++ka.map V.ref++[.ref D])) (tH mR) hW1 hD hDk eD kp v6 nofun hn;have eW5:upd H2 W (.lst (ks++ka.map V.ref++[.ref D])) W=some (.lst (ks++(ka++[D]).map V.ref)):=by rw[aa,l17,l28];rfl
   generalize upd H2 W (.lst (ks++ka.map V.ref++[.ref D]))=H5 at got eW5 ⊢;obtain⟨as,er,_,got⟩:=(base_ s1 got (eO (tH mR) _ _)).open;refine λy dx hy hd' hyd=>⟨y,dx,D,_,rfl,aa,ini0 hy hd' _ _ er,λp H6 hp kx e6p e6y=>⟨rfl,?_⟩⟩;have s56:=ini hy hd' kx;have g6:=got.add (S:=λG=>G y=some (.ins c.Quote dx [("blocks", .ref p)])/\G p=some (.lst (as.map V.ref))) hWn (nz eW5) s56 (dW (tH mR) _ _) (λG G' s h=>⟨s _ _ h.1,s _ _ h.2⟩) ⟨by rw[am hy];exact e6y,by rw[am ((ini0 hy hd').free hp)];exact e6p⟩;exact q y _ H6 (s56 _ _ eW5) (by rw[l6];show _+1<=_;omega) (g6.map λF G h=>⟨dx,p,h.2.1,as,h.2.2,h.1⟩)
 |table hd sd ls=>
  cases hds;obtain⟨y0,ys,rfl,d0,dy⟩:=ag dy;obtain⟨y1,ys,rfl,d1,dy⟩:=ag dy;obtain⟨y2,ys,rfl,d2,dy⟩:=ag dy;obtain⟨y3,ys,rfl,d3,dy⟩:=ag dy;cases bu d0;obtain⟨o1,o2,o3,o4,_⟩:TbOk hd sd ls:=hok;refine aD (Same.refl H) (evx (j:=0) rfl) ∅ λH1 s1=>aD s1 (evx (j:=0) rfl) ∅ λH1 s1=>aD s1 (evx (j:=0) rfl) ∅ λH1 s1=>aD s1 (evx (j:=0) rfl) ∅ λH1 s1=>aD s1 (evx (j:=0) rfl) ∅ λH1 s1=>aD s1 (evx (j:=0) rfl) ∅ λH1 s1=>aD s1 (evx (j:=0) rfl) ∅ λH1 s1=>?_;refine eU _ _ _ ?_;obtain⟨l,xs,rfl,el,da⟩:=aZ d3;obtain⟨hlW,el⟩:=cR el;have w6:xs.length=ls.length:=by rw[da.len,l5]
  have hW1:H1 W≠none:=by rw[s1 _ _ eW];exact λz=>nomatch z
  refine evx (j:=3) rfl H1 s1 _ ⟨l,rfl,⟨_,SqL.of (s1 _ _ el)⟩,?_⟩;refine ju (RL (RL (RP c.cp))) (eO (eO df)) ls 16 (s1 _ _ eW) (s1 _ _ el) hlW w6 nofun ?_ ?_
  ·intro i x cs hx hb H2 ks2 k2 eW2 hk2 C N hC;obtain⟨d,hdi,dx0⟩:=da.getV hx;rw[List.getElem?_map,hb] at hdi;cases hdi;have hil:=(List.getElem?_eq_some_iff.mp hb).1;have oc:=o4 cs (l18 hb);exact⟨(nfLe.refl _ _ _).set ∅ _,iteT (B:=N H2) ⟨_,rfl,_,rfl,_,cs,W,ks2,rfl,dx0.same (bx ((ae s1).trans k2)),oc.pre,by have:=oc.1;omega,eW2,by omega,λr ka H4 eW4 hka got=>hC r ka H4 eW4 (by have:=oc.1;omega) got⟩⟩
  ·intro D ka H2 as hD eW2 hka hDk eD kp v6 hn;refine⟨_,rfl,D,W,_,rfl,eW2,by rw[l6,l5];omega,?_⟩;have got:=eQ (o := .lst (ks++ka.map V.ref++[.ref D])) (eO (eO df)) hW1 hD hDk eD kp v6 nofun hn;have eW3:upd H2 W (.lst (ks++ka.map V.ref++[.ref D])) W=some (.lst (ks++(ka++[D]).map V.ref)):=by rw[aa,l17,l28];rfl
   have hka3:(ka++[D]).length<=49:=by rw[l6];show _+1<=_;omega
   left
   generalize upd H2 W (.lst (ks++ka.map V.ref++[.ref D]))=H3 at got eW3 ⊢;generalize ka++[D]=k3 at got eW3 hka3;have got3:=base_ s1 got (eO (eO (eO df)) _ _);obtain⟨lss,el3,got3⟩:=got3.open2;have hW3:H3 W≠none:=nz eW3;refine evk (j:=1) rfl H3 got3.keep _ ⟨_,rfl,_,hd,W,_,rfl,d1.same (bx got3.keep),o1.pre,by have:=o1.1;omega,eW3,by rw[l6,l5];omega,λr1 k1 H4 eW4 hk1 got1=>?_⟩;obtain⟨hss,eh4,got1⟩:=got1.open1;have hW4:H4 W≠none:=nz eW4;have mX1:Mo2 λ_ G=>Zs (PX c.cp G) hss hd:=λF F' G G' _ sG h=>h.mono λ_ _ z=>z.same sG;have mX2:Mo2 λ_ G=>Zs (Zs (PX c.cp G)) lss ls:=λF F' G G' _ sG h=>h.mono λ_ _ z=>z.mono λ_ _ z=>z.same sG;have k34:=got3.keep.trans got1.keep;obtain⟨l2,xs2,rfl,el2,da2⟩:=aZ d2;obtain⟨hl2W,el2⟩:=cR el2;cases kY da2;refine evk (j:=2) rfl H4 k34 _ ⟨l2,_,rfl, .inl (SqL.of (k34 _ _ hl2W el2)),λD2 hD2=>⟨_,rfl,D2,W,_,rfl,ac hD2 _ _ _ eW4,by rw[l6,l6,l5,l5];have:=o1.1;omega,_,rfl,?_⟩⟩;have hD2W:D2≠W:=(nq eW4 hD2);have s45:=ac hD2 (.lst (sd.map λb=>vS (cr b)));have e45:upd H4 D2 (.lst (sd.map λb=>vS (cr b))) D2=some (.lst (sd.map λb=>vS (cr b))):=aa;generalize upd H4 D2 (.lst (sd.map λb=>vS (cr b)))=H4' at s45 e45 ⊢;generalize ho:HO.lst (ks++k3.map V.ref++k1.map V.ref++[.ref D2])=ow;have got2:Got W H4 [D2] (upd H4' W ow) λ_ _=>True:=by
    refine⟨λb o nb e=>(ad nb).trans (s45 b o e),λb hb=>?_,NewQ.triv trivial⟩;unfold IsK;rw[l14.mp hb,ad hD2W];exact⟨hD2,_,e45,by rw[l5];omega⟩
   have eD5:upd H4' W ow D2=some (.lst (sd.map λb=>vS (cr b))):=(ad hD2W).trans e45;have eW5:upd H4' W ow W=some (.lst (ks++(k3++k1++[D2]).map V.ref)):=by rw[aa,<- ho];simp
   generalize upd H4' W ow=H5 at got2 eD5 eW5 ⊢;have hW5:H5 W≠none:=nz eW5;have g31:=got3.join got1 hWn hW3 mX2 mX1 (R:=λ_ G=>Zs (Zs (PX c.cp G)) lss ls/\Zs (PX c.cp G) hss hd) λF G a b=>⟨a,b⟩;have m31:Mo2 λ_ G=>Zs (Zs (PX c.cp G)) lss ls/\Zs (PX c.cp G) hss hd:=λF F' G G' sF sG h=>⟨mX2 _ _ _ _ sF sG h.1,mX1 _ _ _ _ sF sG h.2⟩;have gall:=g31.join got2 hWn hW4 m31 (λ_ _ _ _ _ _ z=>z) (R:=λ_ G=>Zs (Zs (PX c.cp G)) lss ls/\Zs (PX c.cp G) hss hd) λF G a _=>a;have hz:lss.length=ls.length/\hss.length=hd.length/\∀l∈lss,l.length<=100000:=by
    obtain⟨G,_,_,_,z1,z2⟩:=g31.q;refine⟨z1.len,z2.len,?_⟩;have aux:∀{lss:List (List (List V))} {ls:List (List (List PC))},(∀l∈ls,CCs l)->Zs (Zs (PX c.cp G)) lss ls->∀l∈lss,l.length<=100000:=λ{lss ls}=>by
     induction lss generalizing ls with
     |nil=>intro _ _ l hl;exact nomatch hl
     |cons x lss ih=>
      intro ho z l hl;cases ls with
      |nil=>exact z.elim
      |cons y ls=>
       rcases l8.mp hl with e |e
       ·rw[e,z.1.len];have:=(ho y l10).1;omega
       ·exact ih (λl' h'=>ho l' (l15 _ h')) z.2 l e
    exact aux o4 z1
   refine λy dx hy hd' hyd=>?_;have sn:=ini0 (C:=c.Table) hy hd';have sh:Same (onL k1 H4) (upd (upd H5 dx (.own y)) y (.ins c.Table dx [])):=λb o e=>by
    obtain⟨hb,e⟩:=jt e;exact sn _ _ (got2.keep b o (got1.ne hW3 hb) e)
   have sl:Same (onL k3 H3) (upd (upd H5 dx (.own y)) y (.ins c.Table dx [])):=λb o e=>by
    obtain⟨hb,e⟩:=jt e;exact sn _ _ (got2.keep b o (got3.ne hWn hb) (got1.keep b o (got3.ne hWn hb) e))
   refine⟨y,dx,r1,D2,D,hss,_,lss,rfl,aa,ir _ _ _ _ sh eh4,by have:=o1.1;omega,sn _ _ eD5,gV ir _ _ _ _ sl el3,by omega,hz.2.2,λh' s' l' H6 kx e1 e2 e3 e6y=>⟨rfl,?_⟩⟩;have s56:=ini hy hd' kx;have sd56:=aX (H2:=H6) (H3:=H6) sn (Same.refl _);have g6:=gall.add (S:=λG=>G y=some (.ins c.Table dx [("head", .ref h'),("sides", .ref s'),("lines", .ref l')])/\LV G h' hss/\G s'=some (.lst (sd.map λb=>vS (cr b)))/\LAt LV G l' lss) hWn hW5 s56 m31 (λG G' s h=>⟨s _ _ h.1,ir _ _ _ _ s h.2.1,s _ _ h.2.2.1,gV ir _ _ _ _ s h.2.2.2⟩) ⟨by rw[am hy];exact e6y,ir _ _ _ _ sd56 e1,sd56 _ _ e2,gV ir _ _ _ _ sd56 e3⟩;exact q y _ H6 (s56 _ _ eW5) (by rw[l6,l6];show _+1<=_;have:=o1.1;omega) (g6.map λF G h=>⟨dx,h',s',l',h.2.1,uz h.2.2.1 h.1.2,h.2.2.2.1,yF h.2.2.2.2 h.1.1⟩)
end
def CPs.sum {ps:List PC}(h:CPs ps):(ps.map szC).sum<=1600:=by
 have h1:∀l:List PC,(∀p∈l,szC p<=400)->(l.map szC).sum<=400 * l.length:=λl hl=>by
  induction l with
  |nil=>exact l7 _
  |cons p l ih=>
   have a:=hl p l10;have b:=ih λx hx=>hl x (l15 _ hx);rw[l20,l35,l9];omega
 have h2:=h1 ps λp hp=>(h.2 p hp).2;have:=h.1;omega
def CPs.ok {ps:List PC}(h:CPs ps):OkPs ps:=⟨by have:=h.1;omega,λp hp=>(h.2 p hp).1,by have:=h.sum;omega⟩
def CPs.raw {ps:List PC}(h:CPs ps):(raws false ps).length<=6400/\Asc (raws false ps):=by
 obtain⟨a,b⟩:=qa (b:=false) h.ok.ok;exact⟨by have:=h.sum;omega,b⟩
def CCs.ok {cs:List (List PC)}(h:CCs cs):OkCs cs:=⟨by have:=h.1;omega,λps hp=>(h.2 ps hp).ok⟩
def GE.ok:∀{n:Nat} {e:En n},GE n e->OkE n e
 |0,e,_=>nomatch e
 |n+1,e,h=>⟨h.1.c.ok,by have:=h.2.1;omega,λx hx=>(h.2.2 x hx).ok⟩
theorem GBF.ok {β:Type}{ok ok':β->Prop}(k:∀b,ok b->ok' b):∀{b:BkF β},GBF ok b->OkBF ok' b
 | .heading _ _,h=>⟨h.1,SPs.c h.2 |>.ok⟩
 | .para _,h=>(SPs.c h).ok
 | .lst _,h=>⟨l13 h.1 ∅,λe he=>(h.2.1 e he).ok⟩
 | .table _ _ _,h=>⟨h.1.ok,l13 h.2.1 ∅,l13 h.2.2.1 ∅,λl hl=>(h.2.2.2.1 l hl).ok⟩
 | .lit _,h=>⟨l13 h.1 ∅,λl hl=>⟨(h.2 l hl).1,l13 (h.2 l hl).2 ∅⟩⟩
 | .quote _,h=>⟨l13 h.1 ∅,λb hb=>k b (h.2 b hb)⟩
 | .name _ _,h=>⟨⟨h.1.1,l13 h.1.2 ∅⟩,h.2.1,l13 h.2.2 ∅⟩
 | .note _ _,h=>⟨⟨h.1.1,l13 h.1.2 ∅⟩,(SPs.c h.2).ok⟩
theorem GB.ok:∀{n:Nat} {b:Bl n},GB n b->OkB n b
 |0,_,h=>GBF.ok (λz=>nomatch z) h
 |_+1,_,h=>GBF.ok (λ_ z=>GB.ok z) h
def RowsIn (N L:Nat)(rs:List (List Nat)):Prop:=rs.length<=N/\∀r∈rs,r.length<=L/\Asc r
def RowsIn.mono {N L N' L':Nat}{rs:List (List Nat)}(h:RowsIn N L rs)(hN:N<=N')(hL:L<=L'):RowsIn N' L' rs:=⟨l13 h.1 hN,λr hr=>⟨l13 (h.2 r hr).1 hL,(h.2 r hr).2⟩⟩
def RowsIn.app {N M L:Nat}{rs qs:List (List Nat)}(h:RowsIn N L rs)(k:RowsIn M L qs):RowsIn (N+M) L (rs++qs):=⟨by rw[l6];exact Nat.add_le_add h.1 k.1,λr hr=>(l24.mp hr).elim (h.2 r) (k.2 r)⟩
def RowsIn.one {L:Nat}{r:List Nat}(h:r.length<=L)(a:Asc r):RowsIn 1 L [r]:=⟨l7 _,λx hx=>by rw[l14.mp hx];exact⟨h,a⟩⟩
def RowsIn.nil {N L:Nat}:RowsIn N L []:=⟨l16 _,λ_ z=>nomatch z⟩
def nE:Nat->Nat
 |0=>0
 |n+1=>2 * (1+nE n)
def nc:∀{n:Nat} {ah:List Nat} {es:List (En n)},Asc ah->es.length<=2->(∀e∈es,GE n e)->RowsIn (nE n) (ah.length+2 * n+6500) (bW n ah es)
 |0,_,_,_,_,_ => .nil
 |n+1,ah,es,ha,hl,hg=>by
  have one:∀e∈es,RowsIn (1+nE n) (ah.length+2 * (n+1)+6500) ((ah++cw (EnF.sign e)++[32]++raws false (EnF.parts e))::bW n (ah++[32,32]) (EnF.within e)):=λe he=>by
   obtain⟨h1,h2,h3⟩:=hg e he;obtain⟨r1,r2⟩:=h1.c.raw;have hsg:(cw (EnF.sign e)).length=1/\Asc (cw (EnF.sign e)):=by cases EnF.sign e <;> exact⟨rfl,aE _ rfl⟩
   refine(RowsIn.one (r:=ah++cw (EnF.sign e)++[32]++raws false (EnF.parts e)) ?_ (av (av (av ha hsg.2) (aE _ rfl)) r2)).app ((nc (av ha (aE _ rfl)) h2 h3).mono (l7 _) ?_)
   ·simp only[l6];show ah.length+_+1+_<=_;rw[hsg.1];omega
   ·rw[l6];show ah.length+2+_+_<=_;omega
  have all:∀zs:List (En (n+1)),(∀e∈zs,e∈es)->RowsIn (zs.length * (1+nE n)) (ah.length+2 * (n+1)+6500) (bW (n+1) ah zs):=λzs=>by
   induction zs with
   |nil=>intro _;exact .nil
   |cons e zs ih=>
    intro h;have:=(one e (h e l10)).app (ih λx hx=>h x (l15 _ hx));exact this.mono (by rw[l9,l58];omega) (l7 _)
  exact(all es λ_ h=>h).mono (l53 _ hl) (l7 _)
def yG {l:List Nat}(h:Asc l):(Lm.escC l).length<=2 * l.length/\Asc (Lm.escC l):=by
 rw[qg];refine⟨?_,λc hc=>?_⟩
 ·induction l with
  |nil=>exact l7 _
  |cons x l ih=>
   rw[l56,l6,l9];have h1:(if x=124 then [92,124] else [x]:List Nat).length<=2:=by split <;> simp
   have h2:=ih λc hc=>h c (l15 _ hc);omega
 ·obtain⟨x,hx,hc⟩:=l51.mp hc;split at hc
  ·exact aE [92,124] rfl c hc
  ·rw[l14.mp hc];exact h x hx
def wz {ps:List PC}(h:CPs ps):(kC ps).length<=12802/\Asc (kC ps):=by
 obtain⟨r1,r2⟩:=h.raw;have key:(if il (raws false ps) then 92::raws false ps else raws false ps).length<=6401/\Asc (if il (raws false ps) then 92::raws false ps else raws false ps):=by
  split
  ·exact⟨by rw[l9];omega,λc hc=>(l8.mp hc).elim (λz=>by rw[z];decide) (r2 c)⟩
  ·exact⟨by omega,r2⟩
 obtain⟨e1,e2⟩:=yG key.2;exact⟨l13 e1 (by have:=key.1;omega),e2⟩
def qU {L:Nat}:∀{ts:List (List Nat)},(∀t∈ts,t.length<=L/\Asc t)->(im ts).length<=1+ts.length * (L+3)/\Asc (im ts):=λ{ts} h=>by
 have aux:∀ts:List (List Nat),(∀t∈ts,t.length<=L/\Asc t)->(ts.flatMap barF).length<=ts.length * (L+3)/\Asc (ts.flatMap barF):=λts=>by
  induction ts with
  |nil=>intro _;exact⟨l16 _,λ_ z=>nomatch z⟩
  |cons t ts ih=>
   intro h;obtain⟨i1,i2⟩:=ih λx hx=>h x (l15 _ hx);obtain⟨t1,t2⟩:=h t l10;have hb:(barF t).length<=L+3/\Asc (barF t):=by
    unfold barF;split
    ·exact⟨by show 2<=_;omega,aE _ rfl⟩
    ·exact⟨by simp only[l6];show 1+_+2<=_;omega,av (av (aE _ rfl) t2) (aE _ rfl)⟩
   rw[l56,l6,l9,l58];exact⟨by have:=hb.1;omega,av hb.2 i2⟩
 obtain⟨a1,a2⟩:=aux ts h;exact⟨by unfold im;rw[l6];show 1+_<=_;exact Nat.add_le_add_left a1 1,av (aE _ rfl) a2⟩
def qV {cs:List (List PC)}(h:CCs cs):(b9 cs).length<=40000/\Asc (b9 cs):=by
 obtain⟨b1,b2⟩:=qU (L:=12802) (ts:=cs.map kC) λt ht=>by
  obtain⟨ps,hp,rfl⟩:=l23.mp ht;exact wz (h.2 ps hp)
 rw[l5] at b1;have h3:cs.length * (12802+3)<=3 * (12802+3):=l53 _ h.1;exact⟨l13 b1 nofun,b2⟩
def tI {sd:List Bool}(h:sd.length<=3):(cW sd).length<=40000/\Asc (cW sd):=by
 obtain⟨b1,b2⟩:=qU (L:=3) (ts:=sd.map sdG) λt ht=>by
  obtain⟨b,_,rfl⟩:=l23.mp ht;cases b <;> exact⟨by decide,aE _ rfl⟩
 rw[l5] at b1;have h3:sd.length * (3+3)<=3 * (3+3):=l53 _ h;exact⟨l13 b1 nofun,b2⟩
def tJ {ls : List (List (List PC))} (h : ∀ l ∈ ls, CCs l) : RowsIn ls.length 40000 (ls.map b9) := ⟨by rw[l5];exact l7 _,λr hr=>by
 obtain⟨l,hl,rfl⟩:=l23.mp hr;exact qV (h l hl)⟩
theorem wA {N L:Nat}:∀{rs:List (List (List Nat))},(∀r∈rs,RowsIn N L r)->RowsIn (rs.length * (N+1)) L (betw rs)
 | [],_ => .nil
 |r::rs,h=>by
  have aux:∀qs:List (List (List Nat)),(∀r∈qs,RowsIn N L r)->RowsIn (qs.length * (N+1)) L (qs.flatMap λq=>[]::q):=λqs=>by
   induction qs with
   |nil=>intro _;exact .nil
   |cons q qs ih=>
    intro h;have h0:RowsIn 1 L [([]:List Nat)] := .one (l16 _) λ_ z=>nomatch z;have:=(h0.app (h q l10)).app (ih λx hx=>h x (l15 _ hx));exact this.mono (by rw[l9,l58];omega) (l7 _)
  exact((h r l10).app (aux rs λx hx=>h x (l15 _ hx))).mono (by rw[l9,l58];omega) (l7 _)
theorem kZ {β:Type}{ok:β->Prop}{fr:β->List (List Nat)}{N L:Nat}(hL:40000<=L)(k:∀b,ok b->RowsIn N L (fr b)):∀{b:BkF β},GBF ok b->RowsIn (2 * N+130) (L+2) (fN aS fr b)
 | .heading n ps,h=>by
  obtain⟨r1,r2⟩:=(SPs.c h.2).raw;refine(RowsIn.one ?_ (av (av (λc hc=>by rw[List.eq_of_mem_replicate hc];decide) (aE _ rfl)) r2)).mono nofun (l7 _);simp only[l6,l72];show n+1+_<=_;have:=h.1;omega
 | .para ps,h=>by
  obtain⟨r1,r2⟩:=(SPs.c h).raw;refine(RowsIn.one (L:=L+2) (r:=if aS (raws false ps) then raws false ps else 92::raws false ps) ?_ ?_).mono nofun (l7 _)
  ·split
   ·omega
   ·rw[l9];omega
  ·split
   ·exact r2
   ·exact λc hc=>(l8.mp hc).elim (λz=>by rw[z];decide) (r2 c)
 | .lst es,h=>(nc (n:=6) (ah:=[]) (λ_ z=>nomatch z) h.1 h.2.1).mono (by show 126<=_;omega) (by show 0+12+6500<=_;omega)
 | .table hd sd ls,h=>by
  have hl:=(tJ h.2.2.2.1).mono (N':=3) h.2.2.1 (l7 _);show RowsIn _ _ (if hd=[] then ls.map b9 else [b9 hd,cW sd]++ls.map b9);split
  ·exact hl.mono nofun nofun
  ·obtain⟨a1,a2⟩:=qV h.1;obtain⟨b1,b2⟩:=tI h.2.1;exact(((RowsIn.one a1 a2).app (RowsIn.one b1 b2)).app hl).mono nofun nofun
 | .lit ls,h=>by
  have h0:RowsIn 1 100 [([126,126,126]:List Nat)] := .one ∅ (aE _ rfl);have h1:RowsIn 3 100 ls:=⟨h.1,λl hl=>⟨(h.2 l hl).2,(h.2 l hl).1⟩⟩;exact((h0.app h1).app h0).mono nofun nofun
 | .quote bs,h=>by
  show RowsIn _ _ (if bs.isEmpty then [[62]] else (betw (bs.map fr)).map fP);split
  ·exact(RowsIn.one (L:=L+2) (by show 1<=_;omega) (aE _ rfl)).mono nofun (l7 _)
  ·have hb:=wA (rs:=bs.map fr) λr hr=>by
    obtain⟨b,hb,rfl⟩:=l23.mp hr;exact k b (h.2 b hb)
   rw[l5] at hb;have h2:bs.length * (N+1)<=2 * (N+1):=l53 _ h.1;refine⟨by rw[l5];have:=hb.1;omega,λr hr=>?_⟩;obtain⟨q,hq,rfl⟩:=l23.mp hr;obtain⟨q1,q2⟩:=hb.2 q hq;unfold fP;split
   ·exact⟨by show 1<=_;omega,aE _ rfl⟩
   ·exact⟨by rw[l6];show 2+_<=_;omega,av (aE _ rfl) q2⟩
 | .name n t,h=>by
  refine(RowsIn.one ?_ (av (av (av (aE _ rfl) h.1.1) (aE _ rfl)) h.2.1)).mono nofun (l7 _);simp only[l6];show 1+_+3+_<=_;have:=h.1.2;have:=h.2.2;omega
 | .note n ps,h=>by
  obtain⟨r1,r2⟩:=(SPs.c h.2).raw;refine(RowsIn.one ?_ (av (av (av (aE _ rfl) h.1.1) (aE _ rfl)) r2)).mono nofun (l7 _);simp only[l6];show 2+_+3+_<=_;have:=h.1.2;omega
def nB:Nat->Nat
 |0=>130
 |n+1=>2 * nB n+130
def ng:∀{n:Nat} {b:Bl n},GB n b->RowsIn (nB n) (40002+2 * n) (cI aS n b)
 |0,b,h=>(kZ (N:=0) (l7 40000) (λz=>nomatch z) h).mono (l7 _) (l7 _)
 |n+1,b,h=>(kZ (L:=40002+2 * n) nofun (λx z=>ng z) h).mono (l7 _) nofun
def Sz (d:PyData)(n c:Nat):Prop:=d.depth<=n/\nlD d<=c
def Sz.mono {d:PyData}{n c n' c':Nat}(h:Sz d n c)(a:n<=n')(b:c<=c'):Sz d n' c':=⟨l13 h.1 a,l13 h.2 b⟩
def be {s:Str}{n c:Nat}:Sz (.str s) n c:=⟨l16 _,l16 _⟩
def yH {i:Int}{n c:Nat}:Sz (.int i) n c:=⟨l16 _,l16 _⟩
theorem uA {m:Nat}:∀{ds:List PyData},(∀d∈ds,nlD d<=m)->nlA ds<=ds.length * m
 | [],_=>by rw[nlA];exact l16 _
 |d::ds,h=>by
  have a:=h d l10;have b:=uA (ds:=ds) λx hx=>h x (l15 _ hx);rw[nlA,l9,l58];omega
def bX {α:Type}{f:α->PyData}{xs:List α}{n c k:Nat}(hl:xs.length<=k)(h:∀x∈xs,Sz (f x) n c):Sz (.list (xs.map f)) (n+1) (k * c+1):=by
 have h':∀d∈xs.map f,Sz d n c:=λd hd=>by
  obtain⟨x,hx,rfl⟩:=l23.mp hd;exact h x hx
 refine⟨oa λd hd=>(h' d hd).1,?_⟩;rw[nlD];have:=uA λd hd=>(h' d hd).2;rw[l5] at this;have:=l53 c hl;omega
def cS {a b:PyData}{n c1 c2:Nat}(h1:Sz a n c1)(h2:Sz b n c2):Sz (.tuple [a,b]) (n+1) (c1+c2):=by
 refine⟨gS λd hd=>?_,by rw[nlD,nlA,nlA,nlA];have:=h1.2;have:=h2.2;omega⟩;simp only[l8,l39,or_false] at hd;rcases hd with z |z <;> rw[z]
 ·exact h1.1
 ·exact h2.1
def h8 {a b d:PyData}{n c1 c2 c3:Nat}(h1:Sz a n c1)(h2:Sz b n c2)(h3:Sz d n c3):Sz (.tuple [a,b,d]) (n+1) (c1+c2+c3):=by
 refine⟨gS λx hd=>?_,by rw[nlD,nlA,nlA,nlA,nlA];have:=h1.2;have:=h2.2;have:=h3.2;omega⟩;simp only[l8,l39,or_false] at hd;rcases hd with z |z |z <;> rw[z]
 ·exact h1.1
 ·exact h2.1
 ·exact h3.1
def wB {a b d e:PyData}{n c1 c2 c3 c4:Nat}(h1:Sz a n c1)(h2:Sz b n c2)(h3:Sz d n c3)(h4:Sz e n c4):Sz (.tuple [a,b,d,e]) (n+1) (c1+c2+c3+c4):=by
 refine⟨gS λx hd=>?_,by rw[nlD,nlA,nlA,nlA,nlA,nlA];have:=h1.2;have:=h2.2;have:=h3.2;have:=h4.2;omega⟩;simp only[l8,l39,or_false] at hd;rcases hd with z |z |z |z <;> rw[z]
 ·exact h1.1
 ·exact h2.1
 ·exact h3.1
 ·exact h4.1
def yI (p:P1):Sz (d1 p) 1 0:=by
 cases p with
 |plain s=>exact cS (n:=0) (c1:=0) (c2:=0) be be
 |code s=>exact cS (n:=0) (c1:=0) (c2:=0) be be
 |link w n=>exact h8 (n:=0) (c1:=0) (c2:=0) (c3:=0) be be be
 |note n=>exact cS (n:=0) (c1:=0) (c2:=0) be be
def yJ (p:PC):Sz (dP p) 3 1:=by
 cases p with
 |one p=>exact(yI p).mono ∅ ∅
 |strong ps=>exact(cS (n:=2) (c1:=0) (c2:=1) be ((bX (f:=d1) (xs:=ps) (k:=ps.length) (n:=1) (c:=0) (l7 _) λx _=>yI x).mono (l7 _) (by rw[Nat.mul_zero];exact l7 _))).mono (l7 _) ∅
def qW {ps:List PC}(h:ps.length<=4):Sz (.list (ps.map dP)) 4 5:=bX h λx _=>yJ x
def cEn:Nat->Nat
 |0=>0
 |n+1=>6+2 * cEn n
def yK:∀{n:Nat} {e:En n},GE n e->Sz (dE n e) (3+2 * n) (cEn n)
 |0,e,_=>nomatch e
 |n+1,e,h=>(h8 (n:=4+2 * n) (c1:=0) (c2:=5) (c3:=2 * cEn n+1) be ((qW h.1.2.1).mono nofun (l7 _)) ((bX h.2.1 λx hx=>yK (h.2.2 x hx)).mono nofun (l7 _))).mono nofun (by show _<=6+2 * cEn n;omega)
def nh {cs:List (List PC)}(h:CCs cs):Sz (bI cs) 5 16:=bX (k:=3) (c:=5) h.1 λps hp=>qW (h.2 ps hp).1
def uB {β:Type}{g:β->PyData}{ok:β->Prop}{n c:Nat}(hn:15<=n)(k:∀b,ok b->Sz (g b) n c):∀{b:BkF β},GBF ok b->Sz (dBF g b) (n+2) (2 * c+800)
 | .heading _ _,h=>(h8 (n:=4) (c1:=0) (c2:=0) (c3:=5) be yH (qW h.2.2.1)).mono nofun nofun
 | .para _,h=>(cS (n:=4) (c1:=0) (c2:=5) be (qW (SPs.c h).1)).mono nofun nofun
 | .lst _,h=>(cS (n:=16) (c1:=0) (c2:=2 * cEn 6+1) be (bX (n:=15) h.1 λe he=>yK (h.2.1 e he))).mono nofun (by show 0+757<=_;omega)
 | .table hd sd ls,h=>(wB (n:=6) (c1:=0) (c2:=16) (c3:=1) (c4:=49) be ((nh h.1).mono ∅ (l7 _)) ((bX (n:=0) (c:=0) (k:=3) h.2.1 λ_ _=>be).mono ∅ ∅) (bX (n:=5) (c:=16) (k:=3) h.2.2.1 λl hl=>nh (h.2.2.2.1 l hl))).mono nofun nofun
 | .lit ls,h=>(cS (n:=1) (c1:=0) (c2:=1) be ((bX (n:=0) (c:=0) (k:=3) h.1 λ_ _=>be).mono (l7 _) ∅)).mono nofun nofun
 | .quote bs,h=>(cS (n:=n+1) (c1:=0) (c2:=2 * c+1) be (bX h.1 λb hb=>k b (h.2 b hb))).mono nofun nofun
 | .name _ _,_=>(h8 (n:=0) (c1:=0) (c2:=0) (c3:=0) be be be).mono nofun nofun
 | .note _ _,h=>(h8 (n:=4) (c1:=0) (c2:=0) (c3:=5) be be (qW h.2.2.1)).mono nofun nofun
def cBn:Nat->Nat
 |0=>800
 |n+1=>2 * cBn n+800
def wC:∀{n:Nat} {b:Bl n},GB n b->Sz (dB n b) (17+2 * n) (cBn n)
 |0,_,h=>(uB (n:=15) (c:=0) (l7 _) (λz=>nomatch z) h).mono (l7 _) (l7 _)
 |n+1,_,h=>(uB (n:=17+2 * n) nofun (λb z=>wC z) h).mono nofun (l7 _)
def FnOk.ex.{u}{P:Program}{w:World}{K:Frag}{mg:Str->Option Value}{base:Heap}{CX:CXT}{k:Nat}{f:Addr}{fd:FuncData}{ps:List Str}{ι:Sort u}{sp:ι->Sp}(F:∀i,FnOk P w K mg base CX k f fd ps (sp i)):FnOk P w K mg base CX k f fd ps (λvs H Q E=>∃i,sp i vs H Q E):=
 ⟨λvs H Q E ⟨i,h⟩=>(F i).len vs H Q E h,λA outer s H args us vs Q E hr e b v ⟨i,h⟩=>(F i).run A outer s H args us vs Q E hr e b v h⟩
def uC:Sp:=λvs H Q E=>∃i:(β:Type)×(β->PyData),spLTx i.2 vs H Q E
def MTx (P:Program)(w:World)(K:Frag)(mg:Str->Option Value)(base:Heap)(k:Nat)(c:Cb):Prop:=∀{β:Type} {R:Hp->Addr->β->Prop} {ok:β->Prop} (b:BkF β),OkBF ok b->(bn b).length<=100000->∀G H a,BAtF c R G a b->Same G H->∃C dx fs sp,H a=some (.ins C dx fs)/\fs.lookup ("texts":Str)=none/\MethV P w K mg base k C "texts" ["self"] sp/\∀Q E,(∀r H',TxsR c G H H' r (bn b)->Q (.ref r) H')->sp [.ref a] H Q E
def uD:∀{n:Nat} {es:List (En n)},(∀e∈es,OkE n e)->∀ps∈aM n es,OkPs ps
 |0,_,_,_,h=>by rw[aM] at h;cases h
 |n+1,es,ho,ps,h=>by
  rw[aM] at h;obtain⟨e,he,h⟩:=l51.mp h;have:=ho e he;rcases l8.mp h with rfl |h
  ·exact this.1
  ·exact uD this.2.2 ps h
theorem yL {β:Type}{ok:β->Prop}:∀{b:BkF β},OkBF ok b->∀ps∈bn b,OkPs ps
 | .heading _ _,h,ps,hp=>by rw[l14.mp hp];exact h.2
 | .para _,h,ps,hp=>by rw[l14.mp hp];exact h
 | .note _ _,h,ps,hp=>by rw[l14.mp hp];exact h.2
 | .lst es,h,ps,hp=>uD h.2 ps hp
 | .table hd _ ls,h,ps,hp=>by
  rcases l24.mp hp with hp |hp
  ·exact h.1.2 ps hp
  ·obtain⟨l,hl,hp⟩:=List.mem_flatten.mp hp;exact(h.2.2.2 l hl).2 ps hp
 | .lit _,_,_,hp=>nomatch hp
 | .quote _,_,_,hp=>nomatch hp
 | .name _ _,_,_,hp=>nomatch hp
def yM {c:Cb}{G H H':Hp}{r:Addr}{as:List Addr}{tss:List (List PC)}(sG:Same G H)(hr:H r=none)(er:H' r=some (.lst (as.map V.ref)))(h:Ls (PLn c G H') as tss){x:Addr}(hx:x∈as):x≠r:=by
 intro z;rw[z] at hx;obtain⟨i,hi⟩:=l92.mp hx;obtain⟨a,ps,ha,_,_,bs,eb,hb⟩:=h.get (v := .ref r) (i:=i) (by rw[List.getElem?_map,hi];rfl);cases ha;rw[er] at eb;have e:as.map V.ref=bs.map V.ref:=HO.lst.inj (Option.some.inj eb);have hj:(as.map V.ref)[i]? = some (.ref r):=by rw[List.getElem?_map,hi];rfl
 rw[e,List.getElem?_map] at hj;obtain⟨y,hy,hyr⟩:=l52.mp hj;cases hyr;obtain⟨p,_,hp⟩:=hb.get hy;have:=qJ hp;cases e2:G r with
 |none=>exact this e2
 |some o=>rw[sG _ _ e2] at hr;cases hr
inductive spTxR (c:Cb)(vs:List V)(H:Hp)(Q:VK)(u3:XK):Prop
 |mk (β:Type)(R:Hp->Addr->β->Prop)(ok:β->Prop)(g:β->PyData)(a:Addr)(v:V)(b:BkF β)(G:Hp)(_:vs=[.ref a,v])(_:BAtF c R G a b)(_:Dn G v (dBF g b))(_:Same G H)(_:OkBF ok b)(_:(bn b).length<=10000)(_:∀H',Same H H'->Q (.bl true) H')
section
variable {c:Cb}
abbrev sTxR:Stmt:=top 84
def yN {k:Nat}(hk:2<=k)(F:Fun K "_law_texts_right" "_law_texts_right" sTxR f fd)(T:TxE mg)(hM:MTx P w K mg base k c)(Dc:Def P w K mg base k "told_parts" ["parts"] (spTolds c.cp R2))(DH:Def P w K mg base k "_law_alike" p15 (spAl 25))(Yo:Def P w K mg base k "_law_texts" ["_law_block_here"] uC)(Dl:New P w K mg base 1 "Plain" c.cp.Plain p11 (spInit1 c.cp.Plain "signs")):FnOk P w K mg base CX0 (k+1) f fd p35 (spTxR c):=by
 have sc:FnScope ["_law_block_here","_law_due","_law_turn","_law_found","_law_told","_law_parts_here"] p35 (ab sTxR):=mkS;refine F.oks sc λH Q hr h=>?_;obtain⟨β,R,ok,g,a,v,b,G,rfl,ha,dv,sG,hok,hl,q⟩:=h;refine ak (xbc (xfor PassesOwn.never rfl (xir1 rfl T.u11 (xac xint xa0)) (xgm (i:=2) sc.nd)
  (xbc (xst (i:=3) sc.nd (xmV0 (k:=k) (xv 0) hr.mono))
  (xbc (pb (i:=4) (own:=["_law_parts_here"]) sc.nd
  (xil (xv 3))
  (λ_ _ _ _=>xgm (i:=0) (show (["_law_parts_here"]:List Str).Nodup by decide)) (λ_ _ _ _=>xq0) (λ_ _ _ _=>(xcd Dc hr (xac (xv 0) xa0))))
  (xbc (xif (xor (dY (bq (xcB cx T.q10 rfl (xac (xv 3) (xac (xty (T:="list") T.u10 rfl) xa0))))) (xor1 (dY (bq (xcd DH hr (xac (xv 4) (xac (xcd Yo hr (xac (xv 1) xa0)) xa0))))))).xt (xb1 (xret xbl)) xb0)
  (xbc (xfor PassesOwn.never rfl (xil (xv 3)) (xgm (i:=5) sc.nd)
  (xb1 (bo (xmA (xv 5) (xac (xnew Dl hr.mono (xac xstr xa0)) xa0)))))
  (xb1 (bo (xmA (xv 3) (xac (xlst xa0) xa0)))))))))
  (xb1 (xret xbl))) ?_
 have hs:=sizeLine_eq;rw[xC];refine⟨_,rfl,by omega,by omega,?_⟩;rw[show ((2:Int)).toNat=2 from rfl];refine bO (n:=2) (λi σ H'=>∃x2 x3 x4 x5,σ=[some (V.ref a),some v,x2,x3,x4,x5]/\Same H H') ⟨none,none,none,none,rfl,Same.refl _⟩ ?_ ?_
 ·rintro i σ H0 hi ⟨x2,x3,x4,x5,rfl,s0⟩
  left
  have sG0:=sG.trans s0;obtain⟨C1,dx1,fs1,sp1,e1,e2,V1,hsp1⟩:=hM b hok nofun G H0 a ha sG0;refine⟨_,rfl,a,C1,dx1,fs1,_,sp1,rfl,e1,e2,V1,hsp1 _ _ λr H1 tx=>?_⟩;obtain⟨s1,nr,as,er,v6,hls⟩:=tx
  left
  have hal:=hls.len;have hne:∀x∈as,x≠r:=λx hx=>yM sG0 nr er hls hx;have hokp:=yL hok;refine⟨_,rfl,r,rfl,⟨_,SqL.of er⟩,?_⟩;refine fk (λj=>dPs ((bn b).getD j [])) (SqL.of er) (by rw[l5];omega) ?_ ?_
  ·intro j x hx H2 s2 C N hC;obtain⟨y,ps,rfl,hpj,_,bs,eb,hb⟩:=hls.get hx;refine⟨(nfLe.refl _ _ _).set ∅ _,iteT (B:=N H2) ⟨_,rfl,y,bs,ps,rfl,s2 _ _ eb,hb.same (sG0.trans (s1.trans s2)),(hokp ps (l18 hpj)).r2,?_,λr4 H4 s4 d4=>hC _ H4 s4 ?_⟩⟩
   ·rw[hb.len];have:=(hokp ps (l18 hpj)).len;omega
   ·rw[l33,hpj];exact d4
  intro D H2 hD s2 dD
  left
  have eD:(List.range (as.map V.ref).length).map (λj=>dPs ((bn b).getD j []))=(bn b).map dPs:=by
   rw[l5,hal];apply List.ext_getElem?;intro j;rw[List.getElem?_map,List.getElem?_map];by_cases hj:j < (bn b).length
   ·rw[List.getElem?_range hj,List.getElem?_eq_getElem hj];simp only[Option.map_some,l33,List.getElem?_eq_getElem hj,Option.getD_some]
   ·rw[List.getElem?_eq_none (by rw[l50];omega),List.getElem?_eq_none nofun];rfl
  rw[eD] at dD;have hdep:(PyData.list ((bn b).map dPs)).depth<=25:=l13 (bX (f:=dPs) (n:=4) (c:=1001) (k:=10000) hl λps hp=>(bX (n:=3) (c:=1) (k:=1000) (hokp ps hp).len λp _=>yJ p)).1 ∅;have sG2:=sG0.trans (s1.trans s2);refine s_if false (t_or false false (lL true λR kk=>⟨_,rfl, .ref r,_,"list",true,rfl, .lst (s2 _ _ er),(xY K (.list [])).2.1,_,rfl,kk _ (Same.refl _)⟩) λ_ H3 s3=>lL true λR kk=>?_) (λ_ _ z=>nomatch z) λH3 s3 _=>?_
  ·refine⟨_,rfl,_,rfl,⟨β,g⟩,v,b,G,rfl,dv,sG2.trans s3,by omega,λr5 xs5 H5 s5 n5 e5 d5=>?_⟩;refine⟨.ref D, .ref r5,_,rfl,dD.out.same (s3.trans s5), .lst e5 (d5.same (sG2.trans (s3.trans s5))) ?_,hdep,λH6 s6=>⟨_,rfl,kk _ (s5.trans s6)⟩⟩;rw[d5.len,l5];omega
  have s03:Same H0 H3:=(s1.trans s2).trans s3;refine⟨_,rfl,r,rfl,⟨_,SqL.of (s3 _ _ (s2 _ _ er))⟩,?_⟩;refine bc (xs:=as.map V.ref) (λj σ H'=>∃x5,σ=[some (V.ref a),some v,some (.int ((0:Int)+i)),some (.ref r),some (.ref D),x5]/\Same H0 H'/\H' r=some (.lst (as.map V.ref))/\∀x∈as,∃ys,H' x=some (.lst ys)/\ys.length<=1000+j) ⟨_,rfl,s03,s3 _ _ (s2 _ _ er),λx hx=>?_⟩ ?_ ?_ ?_
  ·obtain⟨j,hj⟩:=l92.mp hx;obtain⟨y,ps,hy,hpj,_,bs,eb,hb⟩:=hls.get (v := .ref x) (i:=j) (by rw[List.getElem?_map,hj];rfl);cases hy;refine⟨_,s3 _ _ (s2 _ _ eb),?_⟩;rw[l5,hb.len];have:=(hokp ps (l18 hpj)).len;omega
  ·rintro j σ H4 _ ⟨_,_,_,e4,_⟩;exact SqL.of e4
  ·rintro j x σ H4 hx ⟨x5,rfl,s4,e4,h4⟩;rw[List.getElem?_map] at hx;obtain⟨y,hy,rfl⟩:=l52.mp hx;have hym:=l18 hy;obtain⟨ys,ey,hyl⟩:=h4 y hym;have hjl:j < as.length:=List.getElem?_eq_some_iff.mp hy |>.1
   left
   refine⟨_,rfl, .inl ⟨rfl,_,SqL.of ey⟩,λz dx hz hdz hzd=>?_⟩;obtain⟨m1,m2⟩:=pS (C:=c.cp.Plain) (o := .ins c.cp.Plain dx [("signs", .str "more")]) (Same.refl H4) hz hdz;refine⟨z,dx,_,rfl,aa,rfl,y,ys, .ref z,rfl,rfl,m1 _ _ ey,by rw[hs];omega,?_⟩;generalize upd (upd (upd H4 dx (.own z)) z (.ins c.cp.Plain dx [])) z (.ins c.cp.Plain dx [("signs", .str "more")])=H5 at m1 ⊢;refine⟨_,rfl,aj (v6 y hym) (s4.trans m1),(ad (hne y hym).symm).trans (m1 _ _ e4),λx hx=>?_⟩;by_cases hxy:x=y
   ·rw[hxy];exact⟨_,aa,by rw[l6];show _+1<=_;omega⟩
   ·obtain⟨zs,ez,hzl⟩:=h4 x hx;exact⟨zs,(ad hxy).trans (m1 _ _ ez),by omega⟩
  ·rintro σ H4 ⟨x5,rfl,s4,e4,h4⟩;refine⟨_,rfl, .inl ⟨rfl,_,SqL.of e4⟩,bg0,λp hp=>?_⟩;have s5:=ac hp (.lst []);refine⟨r,_, .ref p,rfl,rfl,s5 _ _ e4,by rw[l5,hs];omega,?_⟩;exact⟨_,_,_,_,rfl,s0.trans (aj nr (s4.trans s5))⟩
 ·rintro σ H3 ⟨x2,x3,x4,x5,rfl,s3⟩;exact q H3 s3
end
end K12
namespace L2
open PySem PySem.Spec PyProof.Rows
structure BaseY (K:Frag)(mg:Str->Option Value)(b₀:Heap)(D:List Clo)(base:Heap):Prop where
 kin:K.In base
 glob:base.Ns mainGlobals mg
 old:∀b o,b₀.get? b=some o->base.get? b=some o
 fn:∀d∈D,base.get? d.g=some d.obj
 cd:∀d∈D,base.CodeRec (.ref d.c) d.qual
section
variable {X:Cx}{w9:List (Addr×Obj)}{σ:St}{H:Hp}{s:Shared}{D:List Clo}
def InY (X:Cx)(D:List Clo)(b:Addr):Prop:=X.base.get? b≠none ∨ b∈adrs D
noncomputable def baseY (X:Cx) (D:List Clo) (h:Heap):Heap:=hideAll h ((List.range h.objs.size).filter λb=>@decide (¬ InY X D b) (Classical.propDecidable _))
def mem_hidY {n:Nat}{b:Addr}:b∈(List.range n).filter (λb=>@decide (¬ InY X D b) (Classical.propDecidable _)) ↔ b < n/\¬ InY X D b:=by
 rw[l69,l57];exact and_congr Iff.rfl (@decide_eq_true_iff _ (Classical.propDecidable _))
def eR {h:Heap}{b:Addr}{o:Obj}(e:h.get? b=some o)(p:InY X D b):(baseY X D h).get? b=some o:=
 PySem.W.hideAll_get _ e λz=>(mem_hidY.mp z).2 p
def ni {h:Heap}{b:Addr}{o:Obj}(e:(baseY X D h).get? b=some o):h.get? b=some o/\InY X D b:=by
 have e1:=of_hideAll _ e;refine⟨e1,Classical.byContradiction λn=>?_⟩;have:=PySem.W.hideAll_none (h:=h) _ (mem_hidY.mpr ⟨Heap.lt_size e1,n⟩);unfold baseY at e;rw[this] at e;cases e
def Inv.baseY_ok (I:Inv X w9 σ H s)(hD:∀d∈D,dF H d):BaseY X.K X.mg X.base D (baseY X D s.heap):=by
 have old:∀b o,X.base.get? b=some o->(baseY X D s.heap).get? b=some o:=λb o e=>eR (I.bk b o e) (.inl (by rw[e];simp));refine⟨I.mod.kin.keeps old,I.mod.glob.keeps old,old,λd hd=>?_,λd hd=>?_⟩
 ·obtain⟨z,_⟩:=I.hok d.g _ (hD d hd).1;exact eR z (.inr (mem_adrs.mpr ⟨d,hd, .inl rfl⟩))
 ·obtain⟨⟨c,o,vs,t,e,z,r⟩,_⟩:=I.hok d.c _ (hD d hd).2.1;have e':d.c=c:=by cases e;rfl
  exact⟨c,o,vs,t,e,eR z (.inr (mem_adrs.mpr ⟨d,hd, .inr (.inl e'.symm)⟩)),r⟩
def Inv.env0Y (I:Inv X w9 σ H s)(hD:∀d∈D,dF H d):Env0 X.prog X.w X.K X.mg (baseY X D s.heap) X.A X.stack s (drop H D):=by
 have B:=I.baseY_ok hD;have dn:∀b,H b=none->drop H D b=none:=λb e=>by unfold drop;split;rfl;exact e
 have frN:∀b∈frs X.stack,(baseY X D s.heap).get? b=none:=λb hb=>by
  cases q:(baseY X D s.heap).get? b with
  |none=>rfl
  |some o=>
   obtain⟨e,p⟩:=ni q;rcases p with p |p
   ·exact absurd (I.stack.mem hb).1 p
   ·obtain⟨φ,z⟩:=iW hD p;rw[I.stkFree b hb] at z;cases z
 have fun':∀l:List Env,(∀b∈frs l,b∈frs X.stack)->s.heap.FunFrames X.base l->s.heap.FunFrames (baseY X D s.heap) l:=by
  intro l
  induction l with
  |nil=>intro _ _;trivial
  |cons env r ih=>
   intro hs hl;obtain⟨hk,⟨L,o,hf,hn,ho,hd⟩,hr⟩:=hl;have hL:L∈frs X.stack:=hs L (by unfold frs;rw[l64,hf];exact l10);exact⟨hk,⟨L,o,hf,frN L hL,ho,hd⟩,ih (λb hb=>hs b (by unfold frs;rw[l64,hf];exact l15 _ hb)) hr⟩
 refine⟨I.ok.frames,⟨B.kin,B.glob,?_,I.mod.nolimit.keeps B.old⟩,λb o e=>?_,Nat.le_of_eq (PySem.W.hideAll_size _ _),fun' X.stack (λ_ h=>h) I.stack,λb hb=>dn b (I.stkFree b hb),λb o e=>?_,I.bare,I.tk⟩
 ·obtain⟨mb,h1,h2⟩:=I.mod.blt;exact⟨mb,h1.keeps B.old,h2⟩
 ·obtain⟨e1,p⟩:=ni e;refine⟨e1,?_⟩;rcases p with p |p
  ·cases q:X.base.get? b with
   |none=>exact absurd q p
   |some o'=>exact dn b (I.bs b o' q).2
  ·exact fb p
 ·by_cases hb:b∈adrs D
  ·rw[fb hb] at e;cases e
  ·rw[aR hb] at e;refine(I.hok b o e).stay (λ_ _ _ q=>q) (λc q=>?_) λc xs q=>?_
   ·rw[aR (bV hD q λφ z=>by cases z)];exact q
   ·rw[aR (bV hD q λφ z=>by cases z)];exact q
def wD {k:Nat}{f:Addr}{fd:FuncData}{ps:List Str}{sp:Sp}{us:List Value}{vs:List V}{Q:VK}(I:Inv X w9 σ H s)(hD:∀d∈D,dF H d)(F:FnOk X.prog X.w X.K X.mg (baseY X D s.heap) CX0 k f fd ps sp)(hr:Room k X.A)(hb:Binds X.K fd ps [])(r:Vals vs us)
  (q:sp vs (drop H D) (λv H2=>(∀b∈adrs D,H2 b=none)->Q v (back H D H2)) E0):wpAny (model X.prog X.w) X.A (call (.ref f) us) (EP X w9 σ Q) X.xe s:=by
 have hl:(us++[]).length=ps.length:=by rw[l25,<- r.length];exact F.len _ _ _ _ q
 refine wpAny_call (codeAny_mono (F.run X.A X.stack s (drop H D) ⟨us,[]⟩ us vs _ E0 hr (I.env0Y hD) (by have:=hb s us I.kIn hl;rwa [l25] at this) r q) λr s' hq=>?_);cases r with
 |error e=>exact False.elim hq
 |ok fl=>
  cases fl with
  |ret u=>exact I.afterX hD hq
  |next=>exact False.elim hq
  |brk=>exact False.elim hq
  |cont=>exact False.elim hq
end
structure BaseZ (K:Frag)(mg:Str->Option Value)(b₀:Heap)(D:List Clo)(base:Heap):Prop extends BaseY K mg b₀ D base where
 cs:∀d∈D,∀q∈d.cs,∃u,RelV q.2 u/\base.IsCell q.1 (some u)
def Inv.baseZ_ok {X : Cx} {w9 : List (Addr × Obj)} {σ : St} {H : Hp} {s : Shared} {D : List Clo} (I : Inv X w9 σ H s) (hD : ∀ d ∈ D, dF H d) : BaseZ X.K X.mg X.base D (baseY X D s.heap) := ⟨I.baseY_ok hD,λd hd q hq=>by
 obtain⟨⟨u,r,o,z,r2⟩,_⟩:=I.hok q.1 _ ((hD d hd).2.2 q hq);exact⟨u,r,o,eR z (.inr (mem_adrs.mpr ⟨d,hd, .inr (.inr (l43 hq))⟩)),r2⟩⟩
def BaseZ.kept {K:Frag}{mg:Str->Option Value}{b₀:Heap}{D:List Clo}{base:Heap}(B:BaseZ K mg b₀ D base){d:Clo}(hd:d∈D){cl:List (Str×Addr)}{scope:Scope}{ps fr:List Str}{vs fvs:List V}(inj:∀x y c,cl.lookup x=some c->cl.lookup y=some c->x=y)
  (hcs:∀x c,cl.lookup x=some c->∃(j:Nat)(v:V),ps[j]? = some x/\vs[j]? = some v/\(c,v)∈d.cs)(has:∀x,scope.names.lookup x=some .free->∃c,cl.lookup x=some c)(nd:ps.Nodup)(hl:fvs.length=fr.length)
  (hv:∀(i:Nat) x v,fr[i]? = some x->fvs[i]? = some v->scope.names.lookup x=some .free/\∃j:Nat,ps[j]? = some x/\vs[j]? = some v):CloCells base cl scope fr fvs:=by
 refine⟨λx c e=>?_,inj,has,hl,λi x v e1 e2=>?_⟩
 ·obtain⟨j,v,_,_,hm⟩:=hcs x c e;obtain⟨u,_,z⟩:=B.cs d hd _ hm;exact⟨_,z⟩
 ·obtain⟨h1,j,h2,h3⟩:=hv i x v e1 e2;obtain⟨c,hc⟩:=has x h1;obtain⟨j',v',h4,h5,hm⟩:=hcs x c hc;have:=dX nd h2 h4;subst this;rw[h3] at h5;cases h5;obtain⟨u,r,z⟩:=B.cs d hd _ hm;exact⟨h1,u,c,r,hc,z⟩
inductive tMethZ.I (XP:Program)(Xw:World)(XK:Frag)(Xm:Str->Option Value)(Xb:Heap)(k:Nat)(m:Str)(t:TA)(σ:St)(Q:VK)(x:V)(H1:Hp):Prop
 |mk (a C dx fs f)(_:x = .ref a)(_:H1 a=some (.ins C dx fs))(_:fs.lookup m=none)(_:Cls XK C)(_:Meth XK C m f)(_:t σ H1 λvs H2=>∃ps sp D,(∀d∈D,dF H2 d)/\(∀base,BaseZ XK Xm Xb D base->MethV XP Xw XK Xm base k C m ps sp)/\sp (x::vs) (drop H2 D) (λv H3=>(∀b∈adrs D,H3 b=none)->Q v (back H2 D H3)) E0)
def tMethZ (X:Cx)(k:Nat)(m:Str)(ta:TE)(t:TA):TE:=λσ H Q=>ta σ H (tMethZ.I X.prog X.w X.K X.mg X.base k m t σ Q)
section
variable {X:Cx}{k i:Nat}{x m:Str}{ps:List Str}{e o:Expr}{es:List Expr}{te ta:TE}{t:TA}{p pos w4:Pos}
def xmZ {pl:Sem Bool}(he:XE X o ta)(hr:Room k X.A)(ha:XA X (e::es) t)(hst:aC (e::es)=true:=by rfl)
  (ht : eval (.Call (.Attribute o m w4) (e :: es) [] pos) X.env = (do
   let ov ← eval o X.env
   standAt w4.atName
   let (f,first) ← holding [ov] (getMethod ov m pl)
   callWith pos f first (backTo pos (starEach (e::es) X.env)) (backToKw pos (keywordEach [] X.env))):=by rfl):
  XE X (.Call (.Attribute o m w4) (e::es) [] pos) (tMethZ X k m ta t):=by
 refine⟨λw9 s σ H Q I h=>?_⟩;refine methodCall_KW (pl:=pl) (thn (he.h w9 s σ H _ I h) λu s1 zz=>?_) ht;obtain⟨x,H1,I1,rx,a,C,dx,fs,f,ex,ea,l,c,hm,q⟩:=zz;subst ex;obtain rfl:u=Value.ref a:=rx;refine eV I1 ea c hm l ?_;refine callWith_K (first:=[.ref a]) (h₀:=X.base) I.ok.mod.kin hm.kp (thn (ha.h pos w9 s1 σ H1 _ I1 q) λus s2 ⟨vs,H2,I2,r,ps,sp,D,hD2,V,q2⟩=>⟨I2.kIn,?_⟩) (aK (bC hst).1) (bE (bC hst).2);obtain⟨f',fd',_,hm',F,hb⟩:=(V _ (I2.baseZ_ok hD2)).ex;have e':=hm.at_.symm.trans hm'.at_;cases e';exact wD (us := .ref a::us) (vs := .ref a::vs) I2 hD2 F hr hb (.cons rfl r) q2
end
end L2
namespace K12
open PySem L2 Lm Lw PySem.Builtin.Int
structure Gr (G H G' H':Hp):Prop where
 up:Same G G'
 into:Same G' H'
 non:∀b,G b=none->H b≠none->G' b=none
 old:∀b,H b≠none->H' b≠none
def grow (G H H':Hp):Hp:=λb=>match H b with
 |some _=>G b
 |none=>H' b
def np {G H H':Hp}{b:Addr}(h:H b=none):grow G H H' b=H' b:=by unfold grow;rw[h]
def jA {G H H':Hp}{b:Addr}(h:H b≠none):grow G H H' b=G b:=by
 unfold grow;cases e:H b with
 |none=>exact absurd e h
 |some o=>rfl
def wE {G H H':Hp}{L:Addr}(s:Same G H)(gL:G L=none)(k:KeepX L H H')(hL:H' L≠none):Gr G H (grow G H H') H':=by
 refine⟨λb o e=>?_,λb o e=>?_,λb h1 h2=>(jA h2).trans h1,λb h=>?_⟩
 ·rw[jA (by rw[s _ _ e];exact λz=>nomatch z)];exact e
 ·by_cases hb:H b=none
  ·rw[np hb] at e;exact e
  ·rw[jA hb] at e;exact k b o (nq gL e) (s _ _ e)
 ·by_cases hb:b=L
  ·rw[hb];exact hL
  ·cases e:H b with
   |none=>exact absurd e h
   |some o=>rw[k b o hb e];exact λz=>nomatch z
def uE (s:Stmt):Pos:=match s with
 | .FunctionDef _ _ _ _ _ _ _ _ _ p=>p
 |_=>⟨0,0,0,0⟩
def dA (x:AnyB):PyData:=dB x.1 x.2
def KeepSt (G H0:Hp)(L:Addr)(vis:List AnyB)(H:Hp):Prop:=∃(G':Hp) (xs:List V),Same G G'/\Same G' H/\G' L=none/\H L=some (.lst xs)/\DnAll G' xs (vis.map dA)/\KeepX L H0 H
inductive spWF (c:Cb)(G:Hp)(ok:AnyB->Prop)(M:Nat)(St:List AnyB->Hp->Prop)(vs:List V)(H:Hp)(Q:VK)(u3:XK):Prop
 |mk (a:Addr)(x:AnyB)(vis:List AnyB)(_:vs=[.ref a])(_:ok x)(_:BAt c x.1 G a x.2)(_:St vis H)(_:vis.length < M)(_:∀v H',St (vis++[x]) H'->Q v H')
section
variable {c:Cb}{G H0:Hp}{ok:AnyB->Prop}{M:Nat}{St:List AnyB->Hp->Prop}
def k0 {k:Nat}{g:Addr}{x1:Str}(h:FnV P w K mg base k g [x1] (spWF c G ok M St)):dC P w K mg base k g c G ok M St:=⟨x1,_,h,λvis H a x o b s l Q E q=>⟨a,x,vis,rfl,o,b,s,l,q⟩⟩
abbrev ia:Stmt:=top 86
abbrev sKW:Stmt:=(aG ia).getD 0 (.Pass ⟨0,0,0,0⟩)
def tK:FnScope ["_law_found","_law_gives","_law_worker"] p12 (ab ia):=mkS
def scKW:CloScope ["_law_block_here","_law_found","_law_gives"] ["_law_block_here"] p12 (ab sKW):=⟨rfl,rfl,rfl,by decide,rfl,by decide,by decide⟩
def qKW:Str:=qualnameIn (PyProof.Rows.envOfC "_law_keeper" (ab ia) 0 0 .none) "_law_worker" "_law_worker"
def bh:List (Pos×Str):=[(uE sKW,qKW)]
abbrev eT (Pt:Addr)(mg:Str->Option Value):Sp:=spMaker Pt bh mg "_law_worker" qKW (aQ sKW) (aG sKW) (ab sKW) p12
def qX {f cc Pt:Addr}{fd:FuncData}{k:Nat}(F:Fun K "_law_keeper" "_law_keeper" ia f fd)(hc:fd.code = .ref cc)(hT:CodeHd base cc Pt/\base.BuiltinsAt mg Pt):FnOk P w K mg base CX0 (k+1) f fd p12 (eT Pt mg):=
 mL (i:=2) F hc tK rfl hT ∅ (l14.mpr rfl) (λq hq _ _=>by rw[l14.mp hq];rfl) rfl rfl rfl rfl (λ_=>rfl) rfl rfl
def zH {g c' L:Addr}{gv:V}{cl:List (Str×Addr)}{doc pm ct:Value}{k:Nat}(lk:base.get? g=some (fnMade "_law_worker" qKW (aQ sKW) (aG sKW) (ab sKW) cl doc pm c' ct))(hcd:base.CodeRec (.ref c') qKW)
  (C:CloCells base cl (ab sKW) p12 [.ref L,gv])(hM:∀n,n<=4->MV P w K mg base k "told" (BAt c n) (OkB n) (tellsB (dB n)))(hok:∀x,ok x->x.1<=4/\OkB x.1 x.2)(hMx:M<=1000000):
  FnV P w K mg base (k+1) g ["_law_block_here"] (spWF c G ok M (KeepSt G H0 L)):=by
 have sc:=scKW;refine pe lk hcd sc C (λvs H Q E h=>?_) (λus hl=>?_) (λA outer s H vs Q E hr h=>?_)
 ·obtain⟨a,x,vis,rfl,_⟩:=h;rfl
 ·match us,hl with
  | [_],_=>rfl
 obtain⟨a,x,vis,rfl,hx,ha,⟨G',xs,g1,g2,gL,eL,dx,kx⟩,hv,q⟩:=h;refine ak (xbc (bo (xmA (xv 1 rfl (Or.inr (Or.inr rfl))) (xac (xmV0 (k:=k) (xv 0) hr.mono) xa0)))
  (xb1 (xret (xv 2 rfl (Or.inr (Or.inr rfl)))))) ?_
 have hs:=sizeLine_eq;have hxl:=dx.len;rw[l5] at hxl;obtain⟨C1,dx1,fs1,sp1,e1,e2,V1,hsp1⟩:=hM x.1 (hok x hx).1 x.2 (hok x hx).2 H a (dr _ _ _ _ _ (g1.trans g2) ha);refine⟨_,rfl, .inl ⟨rfl,_,SqL.of eL⟩,_,rfl,a,C1,dx1,fs1,_,sp1,rfl,e1,e2,V1,hsp1 _ _ λv H1 ⟨s1,d1⟩=>?_⟩;refine⟨L,xs,v,rfl,rfl,s1 _ _ eL,by rw[hs];omega,?_⟩;have k2:KeepX L H (upd H1 L (.lst (xs++[v]))):=λb o nb e=>(ad nb).trans (s1 b o e);have gr:=wE g2 gL k2 (by rw[aa];exact λz=>nomatch z);have hLn:H L≠none:=nz eL;have d12:Same (dif H H1) (grow G' H (upd H1 L (.lst (xs++[v])))):=λb o e=>by
  obtain⟨z1,z2⟩:=bv e;have hbL:b≠L:=λy=>hLn (y▸z1);rw[np z1,ad hbL];exact z2
 refine⟨_,rfl,q gv _ ⟨_,_,g1.trans gr.up,gr.into,gr.non L gL hLn,aa,?_,kx.trans k2⟩⟩;rw[l17];exact(dx.same gr.up).app (.cons (d1.same d12) .nil)
end
end K12
namespace Lw
open PySem L2 Lm
def MoK {α:Type}(R:Hp->Addr->α->Prop):Prop:=∀G G' a x,KS G G'->R G a x->R G' a x
def LAt.ks {α:Type}{R:Hp->Addr->α->Prop}(m:MoK R){H H':Hp}{l:Addr}{xs:List α}(s:KS H H')(h:LAt R H l xs):LAt R H' l xs:=let ⟨as,e,k⟩:=h;⟨as,s _ _ Kd.lst e,k.mono λa x r=>m _ _ _ _ s r⟩
def yO {α:Type}{R:Hp->Addr->α->Prop}(m:MoK R):MoK (LAt R):=λ_ _ _ _ s h=>h.ks m s
def oC {c:Cp}:MoK (PL c):=λ_ _ _ _ s ⟨as,e,k⟩=>⟨as,s _ _ Kd.lst e,uk s k⟩
theorem uF {c:Cb}:∀n:Nat,MoK (EAt c n)
 |0=>λ_ _ _ e=>nomatch e
 |n+1=>λ_ _ _ _ s ⟨dx,lp,le,e,h1,h2⟩=>⟨dx,lp,le,s _ _ Kd.ins e,oC _ _ _ _ s h1,h2.ks (uF n) s⟩
def qY {β:Type}{c:Cb}{R:Hp->Addr->β->Prop}(m:MoK R):MoK (BAtF c R):=λG G' a b s h=>by
 cases b with
 |heading n ps=>obtain⟨dx,l,e,k⟩:=h;exact⟨dx,l,s _ _ Kd.ins e,oC _ _ _ _ s k⟩
 |para ps=>obtain⟨dx,l,e,k⟩:=h;exact⟨dx,l,s _ _ Kd.ins e,oC _ _ _ _ s k⟩
 |lst es=>obtain⟨dx,l,e,k⟩:=h;exact⟨dx,l,s _ _ Kd.ins e,k.ks (uF 6) s⟩
 |table hd sd ls=>obtain⟨dx,l1,l2,l3,e,k1,k2,k3⟩:=h;exact⟨dx,l1,l2,l3,s _ _ Kd.ins e,k1.ks oC s,s _ _ Kd.lst k2,k3.ks (yO oC) s⟩
 |lit ls=>obtain⟨dx,l,e,k⟩:=h;exact⟨dx,l,s _ _ Kd.ins e,s _ _ Kd.lst k⟩
 |quote bs=>obtain⟨dx,l,e,k⟩:=h;exact⟨dx,l,s _ _ Kd.ins e,k.ks m s⟩
 |name n t=>obtain⟨dx,e⟩:=h;exact⟨dx,s _ _ Kd.ins e⟩
 |note n ps=>obtain⟨dx,l,e,k⟩:=h;exact⟨dx,l,s _ _ Kd.ins e,oC _ _ _ _ s k⟩
theorem qZ {c:Cb}:∀n:Nat,MoK (BAt c n)
 |0=>qY λ_ _ _ z=>nomatch z
 |n+1=>qY (qZ n)
open Classical in
noncomputable def kdf (H:Hp) (W:Addr->Prop):Hp:=λb=>match H b with
 |some o=>if Kd o/\¬ W b then some o else none
 |none=>none
def uG {H:Hp}{W:Addr->Prop}:Same (kdf H W) H:=λb o e=>by
 unfold kdf at e;cases h:H b with
 |none=>rw[h] at e;cases e
 |some o'=>
  rw[h] at e;dsimp only at e;split at e
  ·exact e
  ·cases e
def nu {H:Hp}{W:Addr->Prop}{b:Addr}{o:HO}(e:kdf H W b=some o):Kd o/\¬ W b:=by
 unfold kdf at e;cases h:H b with
 |none=>rw[h] at e;cases e
 |some o'=>
  rw[h] at e;dsimp only at e;split at e
  ·rename_i q;cases e;exact q
  ·cases e
def nv {H:Hp}{W:Addr->Prop}{b:Addr}{o:HO}(e:H b=some o)(k:Kd o)(hW:¬ W b):kdf H W b=some o:=by
 unfold kdf;rw[e];exact if_pos ⟨k,hW⟩
end Lw
namespace K12
open PySem L2 Lm Lw PySem.Builtin.Int
def odB:(n:Nat)->Bl n->List PyData
 |0,b=>odBF (λz:Empty=>nomatch z) (λz:Empty=>nomatch z) b
 |n+1,b=>odBF (dB n) (odB n) b
theorem q5:∀(n:Nat) (b:Bl n),(aq n b).map dA=odB n b
 |0,b=>by
  cases (b:BkF Empty) with
  |quote bs=>
   cases bs with
   |nil=>rfl
   |cons z _=>exact nomatch z
  |_=>rfl
 |n+1,b=>by
  cases (b:BkF (Bl n)) with
  |quote bs=>
   show dA _::(bs.flatMap (aq n)).map dA=dBF (dB n) (.quote bs)::bs.flatMap (odB n);rw[l87];exact congrArg _ (by congr 1;funext x;exact q5 n x)
  |_=>rfl
def wF {β:Type}(c:Cb):BkF β->Addr
 | .heading _ _=>c.Heading
 | .para _=>c.Para
 | .lst _=>c.Listing
 | .table _ _ _=>c.Table
 | .lit _=>c.Literal
 | .quote _=>c.Quote
 | .name _ _=>c.Naming
 | .note _ _=>c.Noting
def clsB (c:Cb):(n:Nat)->Bl n->Addr
 |0,b=>wF c b
 |_+1,b=>wF c b
theorem q8 {β:Type}{c:Cb}{R:Hp->Addr->β->Prop}{H:Hp}{a:Addr}:∀{b:BkF β},BAtF c R H a b->∃dx fs,H a=some (.ins (wF c b) dx fs)/\fs.lookup ("walk":Str)=none
 | .heading _ _,⟨dx,_,e,_⟩=>⟨dx,_,e,rfl⟩
 | .para _,⟨dx,_,e,_⟩=>⟨dx,_,e,rfl⟩
 | .lst _,⟨dx,_,e,_⟩=>⟨dx,_,e,rfl⟩
 | .table _ _ _,⟨dx,_,_,_,e,_⟩=>⟨dx,_,e,rfl⟩
 | .lit _,⟨dx,_,e,_⟩=>⟨dx,_,e,rfl⟩
 | .quote _,⟨dx,_,e,_⟩=>⟨dx,_,e,rfl⟩
 | .name _ _,⟨dx,e⟩=>⟨dx,_,e,rfl⟩
 | .note _ _,⟨dx,_,e,_⟩=>⟨dx,_,e,rfl⟩
theorem fG {c:Cb}{H:Hp}{a:Addr}:∀{n:Nat} {b:Bl n},BAt c n H a b->∃dx fs,H a=some (.ins (clsB c n b) dx fs)/\fs.lookup ("walk":Str)=none
 |0,_,h=>q8 h
 |_+1,_,h=>q8 h
def okA (x:AnyB):Prop:=x.1<=4/\OkB x.1 x.2/\(dA x).depth<=25
structure Bks (c:Cb)(n:Nat)(bs:List (Bl n))(as:List Addr)(v:V)(G:Hp):Prop where
 lv:n<=4
 at_:Ls (BAt c n G) as bs
 told:Dn G v (.list (bs.map (dB n)))
 ok:∀b∈bs,∀x∈aq n b,okA x
 cnt:(bs.flatMap (aq n)).length<=20000
 kd:∀b o,G b=some o->Kd o
inductive spWalked (c:Cb)(Pt:Addr)(vs:List V)(H:Hp)(Q:VK)(u3:XK):Prop
 |mk (n:Nat)(bs:List (Bl n))(lb:Addr)(as:List Addr)(v gv:V)(G:Hp)(_:vs=[.ref lb,v,gv])(_:Bks c n bs as v G)(_:H lb=some (.lst (as.map V.ref)))(_:Same G H)(_:Tab Pt bh H)(_:∀H',vo (λb=>b=Pt) H H'->Tab Pt bh H'->Q (.bl true) H')
def q9 (P:Program)(w:World)(K:Frag)(mg:Str->Option Value)(c:Cb)(kt k:Nat):Prop:=∀(base':Heap) (g:Addr) (G:Hp) (ok:AnyB->Prop) (M:Nat) (St:List AnyB->Hp->Prop),K.In base'->base'.Ns mainGlobals mg->(∀vis H,St vis H->Same G H)->dC P w K mg base' kt g c G ok M St->∀(n:Nat),n<=4->∀b:Bl n,MethV P w K mg base' k (clsB c n b) "walk" p7 (spWk c n g G ok M St λx=>x=b)
def cJ {Pt b:Addr}{qs:List (Pos×Str)}{H:Hp}{o:HO}(t:Tab Pt qs H)(h:H b=some o)(ho:∀xs,o ≠ .tbl xs):b≠Pt:=λz=>by
 obtain⟨ps,e,_⟩:=t;rw[<- z,h] at e;cases e;exact ho _ rfl
def ld {o:HO}(h:Kd o):∀xs,o ≠ .tbl xs:=by
 rcases h with ⟨xs,rfl⟩ |⟨xs,rfl⟩ |⟨C,dx,fs,rfl⟩ <;> exact λ_ z=>nomatch z
def ra {o:HO}(h:Kd o):∀φ,o ≠ .ext φ:=by
 rcases h with ⟨xs,rfl⟩ |⟨xs,rfl⟩ |⟨C,dx,fs,rfl⟩ <;> exact λ_ z=>nomatch z
def KeepSt.same {G H0:Hp}{L:Addr}{vis:List AnyB}{H:Hp}(h:KeepSt G H0 L vis H):Same G H:=let ⟨_,_,a,b,_⟩:=h;a.trans b
def KeepSt.keep {G H0:Hp}{L:Addr}{vis:List AnyB}{H:Hp}(h:KeepSt G H0 L vis H):KeepX L H0 H:=let ⟨_,_,_,_,_,_,_,k⟩:=h;k
def yP {H H':Hp}{D:List Clo}(h:∀d∈D,dF H d)(e:∀b∈adrs D,H' b=H b):∀d∈D,dF H' d:=λd hd=>⟨(e _ (mem_adrs.mpr ⟨d,hd, .inl rfl⟩)).trans (h d hd).1,(e _ (mem_adrs.mpr ⟨d,hd, .inr (.inl rfl)⟩)).trans (h d hd).2.1,λq hq=>(e _ (mem_adrs.mpr ⟨d,hd, .inr (.inr (l43 hq))⟩)).trans ((h d hd).2.2 q hq)⟩
def rc {H H2:Hp}{D:List Clo}(h:∀b∈adrs D,H2 b=none):drop (back H D H2) D=H2:=by
 funext b;by_cases hb:b∈adrs D
 ·rw[fb hb,h b hb]
 ·rw[aR hb,cb hb]
def tL {H:Hp}{D:List Clo}:Same (drop H D) H:=λb o e=>by
 by_cases h:b∈adrs D
 ·rw[fb h] at e;cases e
 ·rw[aR h] at e;exact e
section
variable {c:Cb}
def ib {b₀ base':Heap}{d:Clo}{L:Addr}{gv:V}{G H0:Hp}{k:Nat}(Bx:BaseZ K mg b₀ [d] base')(kept:Kept mg "_law_worker" qKW (aQ sKW) (aG sKW) (ab sKW) p12 [.ref L,gv] d)(hM:∀n,n<=4->MV P w K mg base' k "told" (BAt c n) (OkB n) (tellsB (dB n))):dC P w K mg base' (k+1) d.g c G okA 50000 (KeepSt G H0 L):=by
 obtain⟨doc,ct,cl,eobj,equal,inj,hcs,has⟩:=kept;have h1:=Bx.fn d (l14.mpr rfl);rw[eobj] at h1;have h2:=Bx.cd d (l14.mpr rfl);rw[equal] at h2;refine k0 (zH (gv:=gv) h1 h2 (Bx.kept (l14.mpr rfl) inj hcs has ∅ rfl λi x v e1 e2=>?_) hM (λx h=>⟨h.1,h.2.1⟩) ∅)
 match i,e1,e2 with
 |0,e1,e2=>cases e1;cases e2;exact⟨by decide,0,rfl,rfl⟩
 |1,e1,e2=>cases e1;cases e2;exact⟨by decide,1,rfl,rfl⟩
abbrev jB:Stmt:=top 88
def rd {f Pt:Addr}{fd:FuncData}{k kt:Nat}(F:Fun K "_law_walked" "_law_walked" jB f fd)(T:TxE mg)
  (DI:Def P w K mg base k "_law_keeper" p12 (eT Pt mg))(hTold:∀base':Heap,K.In base'->base'.Ns mainGlobals mg->∀n,n<=4->MV P w K mg base' kt "told" (BAt c n) (OkB n) (tellsB (dB n)))(hWk:q9 P w K mg c (kt+1) k)(hCls:∀n (b:Bl n),Cls K (clsB c n b)/\∃f,Meth K (clsB c n b) "walk" f)
  (Yw:∀n,n<=4->Def P w K mg base k "_law_order" ["_law_trees"] (spOrd (dB n) (odB n)))(DH:Def P w K mg base k "_law_alike" p15 (spAl 25)):FnOk P w K mg base CX0 (k+1) f fd p36 (spWalked c Pt):=by
 have sc:FnScope ["_law_blocks_here","_law_trees","_law_gives","_law_found","_law_worker","_law_turn","_law_block_here","_law_due"] p36 (ab jB):=mkS;refine F.oks sc λ{cdv A _ s _ _}H Q hr h=>?_;obtain⟨n,bs,lb,as,v,gv,G,rfl,B,elb,sG,tab,q⟩:=h;have Dj:=Yw n B.lv;have hu:(A.deeper (PyProof.Rows.envOfC "_law_walked" (ab jB) s.heap.objs.size f cdv)).units+64 < cLine:=by
  have:=hr.un;omega
 refine ak (xbc (xst (i:=3) sc.nd (xlst xa0))
  (xbc (xst (i:=4) sc.nd (xcd DI hr (xac (xv 3) (xac (xv 2) xa0))))
  (xbc (xfor PassesOwn.never rfl (xir1 rfl T.u11 (xac xint xa0)) (xgm (i:=5) sc.nd)
  (xb1 (xfor PassesOwn.never rfl (xil (xv 0)) (xgm (i:=6) sc.nd)
  (xb1 (xif (aA oN (xmZ (k:=k) (xv 6) hr.mono (xac (xv 4) xa0)) xnon (ai _)) (xb1 (xret xbl)) xb0)))))
  (xbc (xst (i:=7) sc.nd (xcd Dj hr (xac (xv 1) xa0)))
  (xbc (xif (aA iQ (xcB aF T.g10 PySem.boot_len (xac (xv 3) xa0)) (xop mB xint (xcB aF T.g10 PySem.boot_len (xac (xv 7) xa0))) (ai _)) (xb1 (xret xbl)) xb0)
  (xb1 (xret (xcB (fR rfl) T.z11 rfl (xac (xlc0 (own:=p19)
  (xiz T.q15 (xac (xv 3) (xac (xop fJ (xv 7) (xv 7)) xa0)))
  (λ_ _ _ _=>xgtC (n:=2) rfl (xgsc (xgm (i:=0) (show (p19:List Str).Nodup by decide)) (xgsc (xgm (i:=1) (show (p19:List Str).Nodup by decide)) xgs0))) (λ_ _ _ _=>xq0) (λ_ _ _ _=>(xcd DH hr (xac (xv 0) (xac (xv 1) xa0))))) xa0))))))))) ?_
 have hs:=sizeLine_eq;rw[xD];refine⟨bg0,λL hL=>?_⟩;have s1:=ac hL (.lst []);have e1:upd H L (.lst []) L=some (.lst []):=aa
 left
 have tab1:Tab Pt bh (upd H L (.lst [])):=tab.keepW λb o _ e=>s1 _ _ e;generalize upd H L (.lst [])=H1 at s1 e1 tab1 ⊢;refine⟨_,rfl,_,rfl,rfl,tab1,λd H2 M2 kept=>?_⟩
 left
 have hD2:∀d'∈[d],dF H2 d':=λd' h=>by rw[l14.mp h];exact M2.ok
 have keep2:∀b o,Kd o->H b=some o->H2 b=some o:=λb o kd e=>M2.keep b o (cJ tab1 (s1 _ _ e) (ld kd)) (s1 _ _ e);have eL2:H2 L=some (.lst []):=M2.keep L _ (cJ tab1 e1 λ_ z=>nomatch z) e1;have elb2:=keep2 lb _ Kd.lst elb;have nL:L∉adrs [d]:=bV hD2 eL2 λ_ z=>nomatch z;have nlb:lb∉adrs [d]:=bV hD2 elb2 λ_ z=>nomatch z;have sG2:Same G H2:=λb o e=>keep2 b o (B.kd b o e) (sG _ _ e);have nG:∀b o,G b=some o->b∉adrs [d]:=λb o e=>bV hD2 (sG2 _ _ e) (ra (B.kd b o e));have gL:G L=none:=by
  cases e:G L with
  |none=>rfl
  |some o=>rw[sG _ _ e] at hL;cases hL
 have hlbL:lb≠L:=(nq hL elb);have st0:KeepSt G (drop H2 [d]) L [] (drop H2 [d]):=⟨G,[],Same.refl _,λb o e=>by rw[aR (nG b o e)];exact sG2 _ _ e,gL,by rw[aR nL];exact eL2, .nil,KeepX.refl⟩;have cnt:=B.cnt;obtain⟨os,hos⟩:∃os,bs.flatMap (aq n)=os:=⟨_,rfl⟩;rw[hos] at cnt;have lbk:∀{H':Hp} {vis:List AnyB},KeepSt G (drop H2 [d]) L vis (drop H' [d])->H' lb=some (.lst (as.map V.ref)):=λst=>by
  have:=st.keep lb _ hlbL (by rw[aR nlb];exact elb2);rwa [aR nlb] at this
 have hfl:∀i,((bs.take i).flatMap (aq n)).length<=os.length:=λi=>by
  have:os=(bs.take i).flatMap (aq n)++(bs.drop i).flatMap (aq n):=by rw[<- l44,l47,hos]
  rw[this,l6];omega
 have hrep:∀i,((List.replicate i os).flatten).length=i * os.length:=λi=>by rw[List.length_flatten,List.map_replicate,List.sum_replicate_nat]
 refine⟨_,rfl,by omega,by omega,?_⟩;rw[show ((2:Int)).toNat=2 from rfl];refine bO (n:=2) (λi σ H'=>∃x5 x6,σ=[some (.ref lb),some v,some gv,some (.ref L),some (.ref d.g),x5,x6,none]/\(∀b∈adrs [d],H' b=H2 b)/\KeepSt G (drop H2 [d]) L ((List.replicate i os).flatten) (drop H' [d])) ⟨none,none,rfl,λ_ _=>rfl,st0⟩ ?_ ?_
 ·rintro i σ H3 hi ⟨x5,x6,rfl,a3,st3⟩
  left
  refine⟨_,rfl,lb,rfl,⟨_,SqL.of (lbk st3)⟩,?_⟩;refine bc (xs:=as.map V.ref) (λj σ H'=>∃x6,σ=[some (.ref lb),some v,some gv,some (.ref L),some (.ref d.g),some (.int ((0:Int)+i)),x6,none]/\(∀b∈adrs [d],H' b=H2 b)/\KeepSt G (drop H2 [d]) L ((List.replicate i os).flatten++(bs.take j).flatMap (aq n)) (drop H' [d])) ⟨x6,rfl,a3,by rw[l62,List.flatMap_nil,l25];exact st3⟩ ?_ ?_ ?_
  ·rintro j σ H4 _ ⟨_,_,_,st4⟩;exact SqL.of (lbk st4)
  ·rintro j x σ H4 hx ⟨x6,rfl,a4,st4⟩;obtain⟨a,b,rfl,hbj,_,hb⟩:=B.at_.get hx;have hst:(bs.take (j+1)).flatMap (aq n)=(bs.take j).flatMap (aq n)++aq n b:=by rw[l41,hbj,l44];simp
   left
   obtain⟨dx,fs,ea,hfs⟩:=fG hb;have cl4:=yP hD2 a4;have ea4:=st4.same a _ ea;rw[aR (nG _ _ ea)] at ea4;obtain⟨hc,f',hm⟩:=hCls n b;refine⟨_,rfl,a,clsB c n b,dx,fs,f',rfl,ea4,hfs,hc,hm,_,rfl,p7,spWk c n d.g G okA 50000 (KeepSt G (drop H2 [d]) L) (λx=>x=b),[d],cl4,λbase' Bx=>?_,?_⟩
   ·exact hWk base' d.g G okA 50000 _ Bx.kin Bx.glob (λvis H h=>h.same) (ib Bx kept (hTold base' Bx.kin Bx.glob)) n B.lv b
   ·right
    refine⟨a,b,_,rfl,hb,rfl,B.ok b (l18 hbj),st4,?_,λH5 st5 hno=>?_⟩
    ·have h1:=hfl (j+1);rw[hst,l6] at h1;have h2:=hrep i;have:i * os.length<=1 * 20000:=Nat.mul_le_mul nofun cnt;rw[l6,h2];omega
    ·refine⟨rfl,false,by rw[decide_eq_true rfl];rfl,?_⟩;refine iteF ?_;refine⟨_,rfl,λb' hb'=>(gh hb').trans (a4 b' hb'),?_⟩;rw[rc hno,hst,<- l28];exact st5
  ·rintro σ H4 ⟨x6,rfl,a4,st4⟩;refine⟨_,_,rfl,a4,?_⟩;rw[l5,B.at_.len,l38,hos] at st4;rw[List.replicate_succ',l63];simpa using st4
 rintro σ H4 ⟨x5,x6,rfl,a4,st4⟩;obtain⟨G',xs,g1,g2,gL',eL4,dxs,kx⟩:=st4;rw[aR nL] at eL4;have sG4:Same G' H4:=g2.trans tL;have hod:bs.flatMap (odB n)=os.map dA:=by
  rw[<- hos,l87];congr 1;funext x;exact(q5 n x).symm
 have hl2:(bs.flatMap (odB n)).length=os.length:=by rw[hod,l5]
 have hxl:=dxs.len;rw[l5,hrep 2] at hxl;refine⟨_,rfl,v,bs,G,rfl,B.told,g1.trans sG4,by omega,λr ys H5 s5 n5 e5 d5=>?_⟩
 left
 have hyl:=d5.len;rw[hl2] at hyl;have eL5:=s5 _ _ eL4;refine s_if false (λR kk=>⟨_,rfl,L,xs,rfl, .inl (SqL.of eL5),_,rfl,r,ys,rfl, .inl (SqL.of e5),_,_,rfl,rfl,?_,rfl,_,rfl,?_⟩) (λ_ _ z=>nomatch z) λH6 s6 _=>?_
 ·exact .inl ⟨by decide,by decide⟩
 ·have e:V.int (xs.length:Nat)=V.int (2 * (ys.length:Nat)):=by rw[hxl,hyl,Int.natCast_mul];rfl
  show R (!decide (V.int (xs.length:Nat)=V.int (2 * (ys.length:Nat)))) H5;rw[decide_eq_true e];exact kk _ (Same.refl _)
 refine⟨_,rfl,_,rfl,_,rfl,r,r,ys,ys,rfl,rfl,s6 _ _ e5,s6 _ _ e5,by rw[hs];omega,λp hp=>?_⟩;have s7:=ac hp (.lst (ys++ys));have e7:upd H6 p (.lst (ys++ys)) p=some (.lst (ys++ys)):=aa;generalize upd H6 p (.lst (ys++ys))=H7 at s7 e7 ⊢;have s57:=s6.trans s7;have eL7:=s57 _ _ eL5;have eds:((List.replicate 2 os).flatten).map dA=bs.flatMap (odB n)++bs.flatMap (odB n):=by
  rw[hod,<- l17];congr 1;show os++(os++[])=_;rw[l25]
 rw[eds] at dxs;have dx7:=dxs.same (sG4.trans (s5.trans s57));have dy7:=(d5.app d5).same ((g1.trans sG4).trans (s5.trans s57));have hyy:(ys++ys).length=xs.length:=by rw[l6,hyl,hxl];omega
 have j8:∀n1:Nat,((List.range n1).map λ_=>V.bl true)=((List.range n1).map λ_=>true).map V.bl:=λn1=>by rw[l30];rfl
 have j7:∀n1:Nat,((List.range n1).map λ_=>true).all id=true:=λn1=>by simp
 right
 refine⟨L,p,rfl,⟨_,SqL.of eL7⟩,⟨_,SqL.of e7⟩,?_⟩;refine pN xs.length (λ_ => .bl true) (by rw[hs];omega) (λi H8 hi s8=>⟨xs,ys++ys,_,_,SqL.of (s8 _ _ eL7),SqL.of (s8 _ _ e7),List.getElem?_eq_getElem hi,List.getElem?_eq_getElem nofun⟩) (λH8 s8=>⟨xs,ys++ys,SqL.of (s8 _ _ eL7),SqL.of (s8 _ _ e7), .inl (l7 _)⟩) (λi H8 x H9 hi s8 y=>?_) λD H8 hD s8 eD=>?_
 ·obtain⟨t1,u1,v1,z1,z2,hT,rfl,rfl⟩:=y;have z1:=z1 _ (SqL.of (s8 _ _ eL7));have z2:=z2 _ (SqL.of (s8 _ _ e7));obtain⟨e,he,dx⟩:=dx7.getV z1;obtain⟨e',he',dy⟩:=dy7.getV z2;rw[he] at he';cases he';have s9:=s8.trans (ac hT (.tup [u1,v1]));have hdp:e.depth<=25:=by
   have:=l18 he;rw[<- eds] at this;obtain⟨x,hx,rfl⟩:=l23.mp this;obtain⟨l,hl,hx⟩:=List.mem_flatten.mp hx;rw[(List.mem_replicate.mp hl).2,<- hos] at hx;obtain⟨b,hb,hx⟩:=l51.mp hx;exact(B.ok b hb x hx).2.2
  exact⟨ac hT _,λC N hC=>⟨t1,_,rfl,SqT.of aa,rfl,_,_,rfl,_,_,rfl,rfl,((nfLe.refl _ _ _).set ∅ _).set ∅ _,iteT (B:=N (upd H8 t1 (.tup [u1,v1]))) ⟨_,rfl,_,rfl,u1,v1,e,rfl,dx.same s9,dy.same s9,hdp,hC⟩⟩⟩
 ·refine⟨D,_,rfl,SqL.of (eD.trans (by rw[j8])),?_⟩;rw[j7];have s48:=s5.trans (s57.trans s8);have out:∀b o,b≠L->H2 b=some o->H8 b=some o:=λb o nb e=>by
   by_cases hb:b∈adrs [d]
   ·exact s48 _ _ ((a4 b hb).trans e)
   ·have:=kx b o nb (by rw[aR hb];exact e);rw[aR hb] at this;exact s48 _ _ this
  refine q H8 (λb o nb e=>out b o (nq hL e) (M2.keep b o nb (s1 _ _ e))) ?_;exact M2.tab.keepW λb o no e=>out b o (λz=>by rw[z,eL2] at e;cases e;exact no _ rfl) e
end
def dSz (x:AnyB):PyData := .tuple [.int ((aq x.1 x.2).length:Nat), .int ((cI aS x.1 x.2).length:Nat)]
structure okW (x:AnyB):Prop where
 all:∀y∈aq x.1 x.2,okA y
 me:okA x
 cnt:(aq x.1 x.2).length<=20000
 rows:RowsOk (cI aS x.1 x.2)
def AskSt (G H0:Hp)(L Pt:Addr)(vis:List AnyB)(H:Hp):Prop:=∃(G':Hp) (xs:List V),Same G G'/\Same G' H/\G' L=none/\G' Pt=none/\H L=some (.lst xs)/\DnAll G' xs (vis.map dSz)/\Tab Pt bh H/\(∀b o,b≠L->b≠Pt->H0 b=some o->H b=some o)/\∀b o,G' b=some o->Kd o
section
variable {c:Cb}{G H0:Hp}{M:Nat}
abbrev lf:Stmt:=top 87
abbrev sAW:Stmt:=(aG lf).getD 0 (.Pass ⟨0,0,0,0⟩)
def wG:FnScope ["_law_found","_law_worker"] ["_law_found"] (ab lf):=mkS
def scAW:CloScope ["_law_block_here","_law_found","_law_within"] ["_law_block_here"] ["_law_found"] (ab sAW):=⟨rfl,rfl,rfl,by decide,rfl,by decide,by decide⟩
def qAW:Str:=qualnameIn (PyProof.Rows.envOfC "_law_asker" (ab lf) 0 0 .none) "_law_worker" "_law_worker"
def jC:List (Pos×Str):=[(uE sAW,qAW)]
abbrev my (Pt:Addr)(mg:Str->Option Value):Sp:=spMaker Pt jC mg "_law_worker" qAW (aQ sAW) (aG sAW) (ab sAW) ["_law_found"]
def tM {f cc Pt:Addr}{fd:FuncData}{k:Nat}(F:Fun K "_law_asker" "_law_asker" lf f fd)(hc:fd.code = .ref cc)(hT:CodeHd base cc Pt/\base.BuiltinsAt mg Pt):FnOk P w K mg base CX0 (k+1) f fd ["_law_found"] (my Pt mg):=
 mL (i:=1) F hc wG rfl hT ∅ (l14.mpr rfl) (λq hq _ _=>by rw[l14.mp hq];rfl) rfl rfl rfl rfl (λ_=>rfl) rfl rfl
def zI {g c' L Pt:Addr}{cl:List (Str×Addr)}{doc pm ct:Value}{k kt:Nat}(T:TxE mg)(lk:base.get? g=some (fnMade "_law_worker" qAW (aQ sAW) (aG sAW) (ab sAW) cl doc pm c' ct))(hcd:base.CodeRec (.ref c') qAW)
  (C:CloCells base cl (ab sAW) ["_law_found"] [.ref L])(kG:∀b o,G b=some o->Kd o)(DI:Def P w K mg base k "_law_keeper" p12 (eT Pt mg))(hCls:∀n (b:Bl n),Cls K (clsB c n b)/\∃f,Meth K (clsB c n b) "walk" f)
  (hTold:∀base':Heap,K.In base'->base'.Ns mainGlobals mg->∀n,n<=4->MV P w K mg base' kt "told" (BAt c n) (OkB n) (tellsB (dB n)))(hWk:q9 P w K mg c (kt+1) k)(hW:∀n,n<=4->MV P w K mg base k "written" (BAt c n) (λb=>OkB n b/\RowsOk (cI aS n b)) (rowsV (cI aS n)))(hMx:M<=1000000):
  FnV P w K mg base (k+1) g ["_law_block_here"] (spWF c G okW M (AskSt G H0 L Pt)):=by
 have sc:=scAW;refine pe lk hcd sc C (λvs H Q E h=>?_) (λus hl=>?_) (λA outer s H vs Q E hr h=>?_)
 ·obtain⟨a,x,vis,rfl,_⟩:=h;rfl
 ·match us,hl with
  | [_],_=>rfl
 obtain⟨a,x,vis,rfl,hx,ha,⟨G',xs,g1,g2,gL,gP,eL,dxs,tab,kx,kG'⟩,hv,q⟩:=h;refine ak (xbc (xst (i:=2) sc.nd (xlst xa0))
  (xbc (bo (xmZ (k:=k) (xv 0) hr.mono (xac (xcd DI hr (xac (xv 2) (xac xbl xa0))) xa0)))
  (xb1 (bo (xmA (xv 1 rfl (Or.inr (Or.inr rfl))) (xac (xtup (xac (xcB aF T.g10 PySem.boot_len (xac (xv 2) xa0)) (xac (xcB aF T.g10 PySem.boot_len (xac (xmV0 (k:=k) (xv 0) hr.mono) xa0)) xa0))) xa0)))))) ?_
 have hs:=sizeLine_eq;have hxl:=dxs.len;rw[l5] at hxl;rw[show aT ["_law_block_here","_law_found","_law_within"] ([V.ref a]++[V.ref L])=[some (V.ref a),some (V.ref L),none] from rfl];refine⟨bg0,λL1 hL1=>?_⟩;have s1:=ac hL1 (.lst []);have e1:upd H L1 (.lst []) L1=some (.lst []):=aa
 left
 have tab1:Tab Pt bh (upd H L1 (.lst [])):=tab.keepW λb o _ e=>s1 _ _ e;generalize upd H L1 (.lst [])=H1 at s1 e1 tab1 ⊢;obtain⟨dx,fs,ea,hfs⟩:=fG ha;obtain⟨hc,f,hm⟩:=hCls x.1 x.2;have sG1:=(g1.trans g2).trans s1;refine⟨_,rfl,a,clsB c x.1 x.2,dx,fs,f,rfl,sG1 _ _ ea,hfs,hc,hm,_,rfl,rfl,tab1,λd H2 M2 kept=>?_⟩;have hD2:∀d'∈[d],dF H2 d':=λd' h=>by rw[l14.mp h];exact M2.ok
 have keep2:∀b o,b≠Pt->H b=some o->H2 b=some o:=λb o nb e=>M2.keep b o nb (s1 _ _ e);have eL1:H2 L1=some (.lst []):=M2.keep L1 _ (cJ tab1 e1 λ_ z=>nomatch z) e1;have nL:L1∉adrs [d]:=bV hD2 eL1 λ_ z=>nomatch z;have sG2:Same G H2:=λb o e=>keep2 b o (cJ tab (g2 _ _ (g1 _ _ e)) (ld (kG b o e))) (g2 _ _ (g1 _ _ e));have nG:∀b o,G b=some o->b∉adrs [d]:=λb o e=>bV hD2 (sG2 _ _ e) (ra (kG b o e));have gL1:G L1=none:=by
  cases e:G L1 with
  |none=>rfl
  |some o=>rw[g2 _ _ (g1 _ _ e)] at hL1;cases hL1
 have st0:KeepSt G (drop H2 [d]) L1 [] (drop H2 [d]):=⟨G,[],Same.refl _,λb o e=>by rw[aR (nG b o e)];exact sG2 _ _ e,gL1,by rw[aR nL];exact eL1, .nil,KeepX.refl⟩
 right
 refine⟨p7,spWk c x.1 d.g G okA 50000 (KeepSt G (drop H2 [d]) L1) (λy=>y=x.2),[d],hD2,λbase' Bx=>hWk base' d.g G okA 50000 _ Bx.kin Bx.glob (λvis H h=>h.same) (ib Bx kept (hTold base' Bx.kin Bx.glob)) x.1 hx.me.1 x.2,?_⟩;refine⟨a,x.2,[],rfl,ha,rfl,hx.all,st0,?_,λH5 st5 hno=>?_⟩
 ·have:=hx.cnt;show 0+_<=_;omega
 obtain⟨G5,ys,_,_,_,eL5,dys,k5⟩:=st5;have hyl:=dys.len;rw[l75,l5] at hyl;have out:∀b o,b≠L1->H2 b=some o->back H2 [d] H5 b=some o:=λb o nb e=>by
  by_cases hb:b∈adrs [d]
  ·rw[gh hb];exact e
  ·rw[cb hb];exact k5 b o nb (by rw[aR hb];exact e)
 have eW:back H2 [d] H5 L1=some (.lst ys):=by rw[cb nL];exact eL5
 generalize back H2 [d] H5=H6 at out eW ⊢;have hLL:L≠L1:=λz=>by rw[<- z,eL] at hL1;cases hL1
 have hLP:L≠Pt:=cJ tab eL λ_ z=>nomatch z;have n1:∀{b:Addr} {o:HO},H b=some o->b≠L1:=λe z=>by rw[z,hL1] at e;cases e
 have o6:∀b o,b≠Pt->H b=some o->H6 b=some o:=λb o nb e=>out b o (n1 e) (keep2 b o nb e);have eL6:=o6 L _ hLP eL;have gP1:∀{b:Addr} {o:HO},G' b=some o->b≠Pt:=λe z=>by rw[z,gP] at e;cases e
 have sG6:Same G' H6:=λb o e=>o6 b o (gP1 e) (g2 _ _ e);obtain⟨C7,dx7,fs7,sp7,f1,f2,V7,hsp7⟩:=hW x.1 hx.me.1 x.2 ⟨hx.me.2.1,hx.rows⟩ H6 a (dr _ _ _ _ _ (g1.trans sG6) ha);refine⟨_,rfl, .inl ⟨rfl,_,SqL.of eL6⟩,_,rfl,L1,ys,rfl, .inl (SqL.of eW),_,rfl,a,C7,dx7,fs7,_,sp7,rfl,f1,f2,V7,hsp7 _ _ λv H7 ⟨s7,r7,hv7,n7,e7⟩=>?_⟩;subst hv7;refine⟨r7,_,rfl, .inl (SqL.of e7),bg2,λp hp=>?_⟩;have s8:=ac hp (.tup [.int (ys.length:Nat), .int (((cI aS x.1 x.2).map vS).length:Nat)]);have ep:upd H7 p (.tup [.int (ys.length:Nat), .int (((cI aS x.1 x.2).map vS).length:Nat)]) p=_:=aa;have hpL:p≠L:=(nq (s7 _ _ eL6) hp);have hg:G' p=none:=sG6.free (s7.free hp);have tb2:=M2.tab;have hpP:p≠Pt:=λz=>by
  obtain⟨ps,e,_⟩:=tb2;have:=s7 _ _ (out Pt _ (nq eL1 e) e);rw[<- z,hp] at this;cases this
 refine⟨L,xs, .ref p,rfl,rfl,s8 _ _ (s7 _ _ eL6),by rw[hs];omega,?_⟩;generalize upd H7 p (.tup [.int (ys.length:Nat), .int (((cI aS x.1 x.2).map vS).length:Nat)])=H8 at s8 ep ⊢;have u9:∀b o,b≠L->H6 b=some o->upd H8 L (.lst (xs++[.ref p])) b=some o:=λb o nb e=>(ad nb).trans (s8 _ _ (s7 _ _ e));refine q .non _ ⟨upd G' p (.tup [.int (ys.length:Nat), .int (((cI aS x.1 x.2).map vS).length:Nat)]),xs++[.ref p],g1.trans (ac hg _),λb o e=>?_,(ad hpL.symm).trans gL,(ad hpP.symm).trans gP,aa,?_,tb2.keepW λb o no e=>u9 b o (λz=>?_) (out b o (λz=>?_) e),λb o nL' nP e=>u9 b o nL' (o6 b o nP (kx b o nL' nP e)),λb o e=>?_⟩
 ·by_cases hb:b=p
  ·rw[hb,aa] at e;rw[hb,ad hpL,ep];exact e
  ·rw[ad hb] at e;exact u9 b o (nq gL e) (sG6 _ _ e)
 ·rw[l17];refine(dxs.same (ac hg _)).app (.cons ?_ .nil);refine .tup aa (.cons ?_ (.cons ?_ .nil))
  ·rw[hyl];exact .int _
  ·rw[l5];exact .int _
 ·rw[z,keep2 L _ hLP eL] at e;cases e;exact no _ rfl
 ·rw[z,eL1] at e;cases e;exact no _ rfl
 ·by_cases hb:b=p
  ·rw[hb,aa] at e;cases e;exact Kd.tup
  ·rw[ad hb] at e;exact kG' b o e
def AskSt.same {G H0:Hp}{L Pt:Addr}{vis:List AnyB}{H:Hp}(h:AskSt G H0 L Pt vis H):Same G H:=let ⟨_,_,a,b,_⟩:=h;a.trans b
def oE {b₀ base':Heap}{d:Clo}{L Pt:Addr}{k kt:Nat}(T:TxE mg)(Bx:BaseZ K mg b₀ [d] base')(kept:Kept mg "_law_worker" qAW (aQ sAW) (aG sAW) (ab sAW) ["_law_found"] [.ref L] d)(kG:∀b o,G b=some o->Kd o)(DI:Def P w K mg base' k "_law_keeper" p12 (eT Pt mg))(hCls:∀n (b:Bl n),Cls K (clsB c n b)/\∃f,Meth K (clsB c n b) "walk" f)
  (hTold:∀base':Heap,K.In base'->base'.Ns mainGlobals mg->∀n,n<=4->MV P w K mg base' kt "told" (BAt c n) (OkB n) (tellsB (dB n)))(hWk:q9 P w K mg c (kt+1) k)(hW:∀n,n<=4->MV P w K mg base' k "written" (BAt c n) (λb=>OkB n b/\RowsOk (cI aS n b)) (rowsV (cI aS n))):dC P w K mg base' (k+1) d.g c G okW 50000 (AskSt G H0 L Pt):=by
 obtain⟨doc,ct,cl,eobj,equal,inj,hcs,has⟩:=kept;have h1:=Bx.fn d (l14.mpr rfl);rw[eobj] at h1;have h2:=Bx.cd d (l14.mpr rfl);rw[equal] at h2;refine k0 (zI T h1 h2 (Bx.kept (l14.mpr rfl) inj hcs has ∅ rfl λi x v e1 e2=>?_) kG DI hCls hTold hWk hW ∅)
 match i,e1,e2 with
 |0,e1,e2=>cases e1;cases e2;exact⟨by decide,0,rfl,rfl⟩
def tN {c:Addr}{q1 q2:Str}(h:cK c q1=cK c q2):q1=q2:=by
 have h1:(λh:Heap=>h.CodeRec (.ref c) q1)=λh=>h.CodeRec (.ref c) q2:=HO.ext.inj h;have g:(⟨Array.replicate (c+1) ⟨.none,none, .fields #[.none, .str q1 default],#[]⟩,{}⟩:Heap).get? c=some ⟨.none,none, .fields #[.none, .str q1 default],#[]⟩:=by
  unfold Heap.get?;rw[Array.getElem?_replicate,if_pos (l71 c)]
 have r2:=congrFun h1 ⟨Array.replicate (c+1) ⟨.none,none, .fields #[.none, .str q1 default],#[]⟩,{}⟩;obtain⟨c',o',vs,t,e1,e2,e3,e4⟩:=r2.mp ⟨c,_,_,_,rfl,g,rfl,rfl⟩;cases e1;rw[g] at e2;cases e2;cases e3;cases e4;rfl
def tO {P1 P2:Addr}{qs qs2:List (Pos×Str)}{H H1:Hp}{d:Clo}(t:Tab P1 qs H)(u:Tab P2 qs2 H)(hne:P1≠P2)(M:MadeC P2 qs2 H H1 d)(hq:∀q∈qs,q.2≠d.qual):Tab P1 qs (drop H1 [d]):=by
 have hD:∀d'∈[d],dF H1 d':=λd' h=>by rw[l14.mp h];exact M.ok
 obtain⟨ps,a,b,c⟩:=t;have a1:=M.keep P1 _ hne a;refine⟨ps,(aR (bV hD a1 λ_ z=>nomatch z)).trans a1,b,λq hq'=>(c q hq').imp id λ⟨c,e,f⟩=>?_⟩;have f1:=M.keep c _ (cJ u f λ_ z=>nomatch z) f;refine⟨c,e,(aR λhm=>?_).trans f1⟩;obtain⟨d',hd',hm⟩:=mem_adrs.mp hm;rw[l14.mp hd'] at hm;have nw:∀b∈d.g::d.cs.map (·.1),c≠b:=λb hb z=>by rw[z,M.new b hb] at f;cases f
 rcases hm with z |z |z
 ·exact nw _ l10 z
 ·have:=M.ok.2.1;rw[<- z,f1] at this;exact hq q hq' (tN (Option.some.inj this))
 ·exact nw _ (l15 _ z) rfl
def qne:qKW≠qAW:=by decide
end
def GBF.q {β:Type}{ok:β->Prop}{bs:List β}(h:GBF ok (.quote bs)):∀b∈bs,ok b:=h.2
def GBF.ql {β:Type}{ok:β->Prop}{bs:List β}(h:GBF ok (.quote bs)):bs.length<=2:=h.1
def ny:∀{n:Nat} {b:Bl n},GB n b->∀x∈aq n b,x.1<=n/\GB x.1 x.2
 |0,b,h,x,hx=>by
  rw[l14.mp hx];exact⟨l7 _,h⟩
 |n+1,b,h,x,hx=>by
  rcases l8.mp hx with z |z
  ·rw[z];exact⟨l7 _,h⟩
  ·cases (b:BkF (Bl n)) with
   |quote bs=>
    obtain⟨y,hy,hx⟩:=l51.mp z;obtain⟨h1,h2⟩:=ny (GBF.q h y hy) x hx;exact⟨Nat.le_succ_of_le h1,h2⟩
   |_=>cases z
theorem cT {α γ:Type}{f:α->List γ}{m:Nat}:∀{l:List α},(∀x∈l,(f x).length<=m)->(l.flatMap f).length<=l.length * m
 | [],_=>l16 _
 |x::l,h=>by
  have a:=h x l10;have b:=cT (l:=l) λy hy=>h y (l15 _ hy);rw[l56,l6,l9,l58];omega
def cO:Nat->Nat
 |0=>1
 |n+1=>2 * cO n+1
def fH:∀{n:Nat} {b:Bl n},GB n b->(aq n b).length<=cO n
 |0,b,h=>l7 _
 |n+1,b,h=>by
  show _+1<=2 * cO n+1;cases (b:BkF (Bl n)) with
  |quote bs=>
   have hl:bs.length<=2:=GBF.ql h;have:=cT (f:=aq n) (m:=cO n) (l:=bs) λy hy=>fH (GBF.q h y hy);have h2:=l53 (cO n) hl;show (bs.flatMap (aq n)).length+1<=_;omega
  |_=>exact Nat.succ_le_succ (l16 _)
def re {n:Nat}(hn:n<=4):cO n<=31:=by
 have:n=0 ∨ n=1 ∨ n=2 ∨ n=3 ∨ n=4:=by omega
 rcases this with rfl |rfl |rfl |rfl |rfl <;> decide
def zJ {n:Nat}(hn:n<=4):nB n<=100000:=by
 have:n=0 ∨ n=1 ∨ n=2 ∨ n=3 ∨ n=4:=by omega
 rcases this with rfl |rfl |rfl |rfl |rfl <;> decide
def GB.toA {n:Nat}{b:Bl n}(hn:n<=4)(h:GB n b):okA ⟨n,b⟩:=⟨hn,h.ok,l13 (wC h).1 (by show 17+2 * n<=25;omega)⟩
def GB.toAs {n:Nat}{b:Bl n}(hn:n<=4)(h:GB n b):∀x∈aq n b,okA x:=λx hx=>by
 obtain⟨h1,h2⟩:=ny h x hx;exact GB.toA (l13 h1 hn) h2
def rf {n:Nat}{ah:List Nat}{es:List (En (n+1))}(h:1<=es.length):1<=(bW (n+1) ah es).length:=by
 cases es with
 |nil=>cases h
 |cons e es=>
  show 1<=((_::_)++_).length;rw[l6,l9];omega
theorem lg {β:Type}{ok:β->Prop}{fr:β->List (List Nat)}(k:∀b,ok b->1<=(fr b).length):∀{b:BkF β},GBF ok b->1<=(fN aS fr b).length
 | .heading _ _,_=>l7 _
 | .para _,_=>l7 _
 | .lst es,h=>rf h.2.2
 | .table hd sd ls,h=>by
  show 1<=(if hd=[] then ls.map b9 else [b9 hd,cW sd]++ls.map b9).length;split
  ·rename_i z;rw[l5];exact h.2.2.2.2 z
  ·rw[l6];exact Nat.le_add_right_of_le (show 1<=2 by decide)
 | .lit ls,_=>by
  show 1<=([[126,126,126]]++ls++[[126,126,126]]).length;rw[l6,l6];show 1<=1+_+1;omega
 | .quote bs,h=>by
  show 1<=(if bs.isEmpty then [[62]] else (betw (bs.map fr)).map fP).length;cases bs with
  |nil=>exact l7 _
  |cons b bs=>
   show 1<=((fr b++_).map fP).length;rw[l5,l6];have:=k b (h.2 b l10);omega
 | .name _ _,_=>l7 _
 | .note _ _,_=>l7 _
theorem nA:∀{n:Nat} {b:Bl n},GB n b->1<=(cI aS n b).length
 |0,b,h=>lg (λz=>nomatch z) h
 |n+1,b,h=>lg (λ_ z=>nA z) h
def GB.toW {n:Nat}{b:Bl n}(hn:n<=4)(h:GB n b):okW ⟨n,b⟩:=⟨GB.toAs hn h,GB.toA hn h,l13 (fH h) (l13 (re hn) ∅),(ng h).mono (zJ hn) nofun⟩
def rg:∀{n:Nat} {es:List (En n)},es.length<=2->(∀e∈es,GE n e)->(aM n es).length<=nE n
 |0,_,_,_=>l7 _
 |n+1,es,hl,hg=>by
  have:=cT (f:=λe:En (n+1)=>EnF.parts e::aM n (EnF.within e)) (m:=1+nE n) (l:=es) λe he=>by
   have g:=hg e he;have:=rg g.2.1 g.2.2;rw[l9];omega
  have h2:=l53 (1+nE n) hl;show _<=2 * (1+nE n);exact l13 this h2
theorem uH {β:Type}{ok:β->Prop}:∀{b:BkF β},GBF ok b->(bn b).length<=10000
 | .heading _ _,_=>(show 1<=10000 by decide)
 | .para _,_=>(show 1<=10000 by decide)
 | .note _ _,_=>(show 1<=10000 by decide)
 | .lst es,h=>l13 (rg h.1 h.2.1) ∅
 | .table hd sd ls,h=>by
  show (hd++ls.flatten).length<=_;have h1:=h.1.1;have h2:=cT (f:=λl:List (List PC)=>l) (m:=3) (l:=ls) λl hl=>(h.2.2.2.1 l hl).1;have e:ls.flatten=ls.flatMap (λl=>l):=by rw[List.flatMap_id']
  have h3:=h.2.2.1;rw[l6,e];omega
 | .lit _,_=>l16 _
 | .quote _,_=>l16 _
 | .name _ _,_=>l16 _
end K12
namespace L2
open PySem PySem.Spec PyProof.Rows
inductive tNotG.I (K:Frag)(Q:VK)(x:V)(H1:Hp):Prop
 |mk (k)(_:TruV K x H1 k)(_:Q (.bl (!k)) H1)
def tNotG (K:Frag)(ta:TE):TE:=λσ H Q=>ta σ H (tNotG.I K Q)
def zK {X:Cx}{a:Expr}{ta:TE}{pos:Pos}(ha:XE X a ta):XE X (.UnaryOp .Not a pos) (tNotG X.K ta):=by
 refine⟨λw9 s σ H Q I h=>UnaryOp_ (thn (ha.h w9 s σ H _ I h) λv s1 ⟨x,H1,I1,r1,k,e,q1⟩=>?_)⟩;exact not_of (thn (xu w9 s1 σ H1 x v (λc H'=>Q (.bl (!c)) H') I1 r1 ⟨k,e,q1⟩) λc s2 ⟨H2,I2,q2⟩=>⟨.bl (!c),H2,I2,rfl,q2⟩)
end L2
namespace K12
open PySem L2 Lm Lw PySem.Builtin.Int
abbrev zL:List Str:=["_law_script","_law_tape","_law_names_here","_law_trees","_law_others","_law_blocks_here","_law_more","_law_whole","_law_gives","_law_block_here","_law_due","_law_sizes","_law_k"]
def rh {X:Cx}{scope:Scope}{cl:List (Str×Addr)}{C:Addr}{N':List Str}{fp:List Addr}{s:Shared}{H:Hp}:dl (aU X scope cl C N' fp s H) (.builtin "isinstance") (rIsC X.K):=fT (X:=aU X scope cl C N' fp s H)
structure TxW (K:Frag)(mg:Str->Option Value)(c:Cb)(BB:Addr):Prop extends TxE mg where
 u16:mg "Block"=some (.ref BB)
 tB:∀n (b:Bl n),Inst K (clsB c n b)
 isB:∀n (b:Bl n),kitOne K (.ref (clsB c n b)) (.ref BB)=some true
 tE:Inst K c.Entry
 isE:kitOne K (.ref c.Entry) (.ref BB)=some false
abbrev Lv:={n:Nat // n<=4}
def lj (K:Frag)(cf:Nat->Int):Sp:=λvs H Q E=>∃n:Lv,spBlocksF K (dB n.1) (GB n.1) n.1 (cf n.1) vs H Q E
def wH (c:Cb)(kf:Nat->Nat):Sp:=λvs H Q E=>∃n:Lv,spBkOf (dB n.1) (BAt c n.1) (GB n.1) (kf n.1) vs H Q E
def uI:Sp:=λvs H Q E=>∃n:Lv,spOrd (dB n.1) (odB n.1) vs H Q E
def wI {c:Cb}{n:Nat}{G H:Hp}{a:Addr}{v:V}{b:Bl n}{Q:VK}{E:XK}(ha:BAt c n G a b)(dv:Dn G v (dB n b))(h:GB n b)(s:Same G H)(q:∀H',Same H H'->Q (.bl true) H'):spTxR c [.ref a,v] H Q E:=by
 match n,b,ha,dv,h with
 |0,b,ha,dv,h=>exact⟨Empty,_,λ_:Empty=>True,_,a,v,b,G,rfl,ha,dv,s,GBF.ok (λz=>nomatch z) h,uH h,q⟩
 |n+1,b,ha,dv,h=>exact⟨Bl n,_,OkB n,_,a,v,b,G,rfl,ha,dv,s,GBF.ok (λ_ z=>GB.ok z) h,uH h,q⟩
structure Cur (G:Hp)(D l3 Pt1 Pt2:Addr)(as:List Addr)(ws:List V)(H:Hp):Prop where
 g:Same G H
 eD:H D=some (.lst (as.map V.ref))
 e3:H l3=some (.lst ws)
 t1:Tab Pt1 bh H
 t2:Tab Pt2 jC H
def Cur.same {G H H':Hp}{D l3 Pt1 Pt2:Addr}{as:List Addr}{ws:List V}(h:Cur G D l3 Pt1 Pt2 as ws H)(s:Same H H'):Cur G D l3 Pt1 Pt2 as ws H':=⟨h.g.trans s,s _ _ h.eD,s _ _ h.e3,h.t1.keepW λb o _ e=>s _ _ e,h.t2.keepW λb o _ e=>s _ _ e⟩
def wJ {P1 P2:Addr}{qs qs':List (Pos×Str)}{H H':Hp}(t:Tab P2 qs H)(u:Tab P1 qs' H)(hne:P1≠P2)(k:∀b o,b≠P1->(∀xs,o ≠ .lst xs)->H b=some o->H' b=some o):Tab P2 qs H':=by
 obtain⟨ps,a,b,c⟩:=t;exact⟨ps,k _ _ (Ne.symm hne) (λ_ z=>nomatch z) a,b,λq hq=>(c q hq).imp id λ⟨d,e,f⟩=>⟨d,e,k _ _ (cJ u f λ_ z=>nomatch z) (λ_ z=>nomatch z) f⟩⟩
def Cur.walk {G H H':Hp}{D l3 Pt1 Pt2:Addr}{as:List Addr}{ws:List V}(h:Cur G D l3 Pt1 Pt2 as ws H)(kG:∀b o,G b=some o->Kd o)(hne:Pt1≠Pt2)(s:vo (λb=>b=Pt1) H H')(t:Tab Pt1 bh H'):Cur G D l3 Pt1 Pt2 as ws H':=by
 have k:∀b o,(∀xs,o ≠ .tbl xs)->H b=some o->H' b=some o:=λb o no e=>s b o (cJ h.t1 e no) e;exact⟨λb o e=>k b o (ld (kG b o e)) (h.g _ _ e),k _ _ (λ_ z=>nomatch z) h.eD,k _ _ (λ_ z=>nomatch z) h.e3,t,wJ h.t2 h.t1 hne λb o nb _ e=>s b o nb e⟩
def yQ {c:Cb}{n:Nat}{H W H':Hp}{w:Addr}{a:Addr}{b:Bl n}{ka:List Addr}(hw:H w=none)(got:Got w (upd H w (.lst [])) ka H' λF G=>RB (BAt c n) F G a b):Same H H'/\H a=none/\BAt c n (dif H H') a b:=by
 obtain⟨G,g1,g2,g3,g4⟩:=got.q;have s1:=ac hw (.lst []);have s2:Same H H':=λx o e=>got.keep x o (nq hw e) (s1 _ _ e);have gn:∀x o,G x=some o->H x=none:=λx o e=>by
  cases h:upd H w (.lst []) x with
  |none=>exact s1.free h
  |some o'=>rw[g3 x (nz h)] at e;cases e
 have sg:Same G (dif H H'):=λx o e=>by rw[am (gn x o e)];exact g1 _ _ e
 obtain⟨dx,fs,ea,_⟩:=fG g4;exact⟨s2,gn _ _ ea,dr _ _ _ _ _ sg g4⟩
def wK {K:Frag}{a:Addr}{xs:List V}{k:Nat}{fr:List Nat}{g:TG}{tt:TT}{te:TE}{σ:St}{H0:Hp}{Q:Addr->Hp->Prop}(R:Nat->Addr->Hp->Prop)(hR:∀i b G G',Same G G'->R i b G->R i b G')(hx:SqL K H0 a xs)(hl:xs.length<=1000000)
  (ht:∀(i:Nat) x,xs[i]? = some x->∀H',Same H0 H'->∀(C:V->Hp->Prop)(N:Hp->Prop),(∀b H4,Same H' H4->H' b=none->R i b (dif H' H4)->C (.ref b) H4) →
   g x (nfS k fr σ) H' λσ2 H2=>nfLe k fr σ σ2/\tt σ2 H2 λb H3=>if b=true then te σ2 H3 C else N H3)
  (hq:∀D H' (bs:List Addr),H0 D=none->Same H0 H'->H' D=some (.lst (bs.map V.ref))->bs.length=xs.length->NewQ H0 [D] H' (λG=>∀(i:Nat) b,bs[i]? = some b->R i b G)->Q D H'):rLC k fr g tt te σ (Itl K a) H0 Q:=by
 intro D hD;refine⟨λi m acc H=>m=xs.length - i/\i<=xs.length/\Same H0 H/\H D=some (.lst acc)/\∃bs:List Addr,acc=bs.map V.ref/\bs.length=i/\NewQ H0 [D] H λG=>∀(j:Nat) b,bs[j]? = some b->R j b G,⟨xs.length,by simp,l16 _,ac hD _,aa,[],rfl,rfl,NewQ.triv λj b h=>by simp at h⟩,?_⟩;rintro i m acc H ⟨rfl,hi,sm,hDa,bs,rfl,hbl,hn⟩;refine⟨hDa,?_⟩;by_cases hlt:i < xs.length
 ·refine .inr ⟨⟨xs,xs[i],sm.seq hx,by simp[hlt]⟩,λx H' y=>?_⟩;obtain⟨e,y⟩:=y;rw[e];refine ht i x (y xs (sm.seq hx)) _ sm _ _ λb H4 s4 hb rb=>?_;refine⟨s4 _ _ hDa,by rw[l5,sizeLine_eq];omega,xs.length - (i+1),by omega,rfl,hlt,aj hD (sm.trans s4),aa,bs++[b],by rw[l17];rfl,by rw[l6,hbl];rfl,?_⟩;refine NewQ.upd ?_ l10;refine NewQ.join (hn.same s4) (NewQ.of (H3:=H) (R:=R i b) sm (λb' hb'=>by rw[l14.mp hb',hDa];exact λz=>nomatch z) rb) (λG G' s h j b' hj=>hR _ _ _ _ s (h j b' hj)) (λG G' s h=>hR _ _ _ _ s h) λG h1 h2 j b' hj=>?_;by_cases hji:j < bs.length
  ·rw[List.getElem?_append_left hji] at hj;exact h1 j b' hj
  ·rw[List.getElem?_append_right nofun] at hj;obtain⟨hj0,_⟩:=List.getElem?_eq_some_iff.mp hj;have hje:j=i:=by simp at hj0;omega
   subst hje;rw[hbl,Nat.sub_self] at hj;cases hj;exact h2
 ·have e:i=xs.length:=by omega
  subst e;exact .inl ⟨⟨xs,sm.seq hx,l7 _⟩,hq D H bs hD sm hDa hbl hn⟩
def nC {K:Frag}{c:Cb}{kf:Nat->Nat}(hkf:∀n,n<=4->kf n<=100000){n:Nat}(hn:n<=4){l:Addr}{xs:List V}{zs:List (Bl n)}{H0 Gd:Hp}{σ:St}{Q1:Addr->Hp->Prop}(sG:Same Gd H0)(el:H0 l=some (.lst xs))(da:DnAll Gd xs (zs.map (dB n)))(hok:∀z∈zs,GB n z)(hl:zs.length<=1000)
  (hq:∀D H' (as:List Addr),H0 D=none->Same H0 H'->H' D=some (.lst (as.map V.ref))->NewQ H0 [D] H' (λG=>Ls (BAt c n G) as zs)->Q1 D H'):rLC 1 [] (al 0) tYes (tCall (wH c kf) [] E0 (tCons (tVar 0) (tCons (tLst tNil) tNil))) σ (Itl K l) H0 Q1:=by
 have w6:xs.length=zs.length:=by rw[da.len,l5]
 refine wK (λj b G=>∃z,zs[j]? = some z/\BAt c n G b z) (λj b G G' s ⟨z,h1,h2⟩=>⟨z,h1,dr _ _ _ _ _ s h2⟩) (SqL.of el) nofun ?_ ?_
 ·intro j x hx H1 s1 C N hC;obtain⟨d,hdi,dx0⟩:=da.getV hx;rw[List.getElem?_map] at hdi;obtain⟨z,hz,rfl⟩:=l52.mp hdi;refine⟨(nfLe.refl _ _ _).set ∅ _,iteT (B:=N H1) ⟨_,rfl,bg0,λW hW=>?_⟩⟩;have hk:=hkf n hn;refine⟨⟨n,hn⟩,x,z,W,[],rfl,dx0.same λb o e=>?_,hok z (l18 hz),aa,by show 0+kf n<=_;omega,λa ka H4 eW hka got=>?_⟩
  ·have e1:=s1 _ _ (sG _ _ e);have hbW:b≠W:=(nq hW e1);exact(if_neg hbW).trans ((ad hbW).trans e1)
  obtain⟨s2,na,hb⟩:=yQ (W:=H1) hW got;exact hC a H4 s2 na ⟨z,hz,hb⟩
 ·intro D H1 as hD s1 eD hl1 hR;refine hq D H1 as hD s1 eD (hR.map λG hR=>sO nofun λi a z h1 h2=>?_);obtain⟨z',h3,h4⟩:=hR i a h1;rw[h2] at h3;cases h3;exact h4
section
variable {c:Cb}
abbrev fO:Stmt:=top 89
inductive spLaw12 (K:Frag)(Pt1 Pt2:Addr)(vs:List V)(H:Hp)(Q:VK)(u3:XK):Prop
 |mk (a:Addr)(ns:List Int)(_:vs=[.ref a])(_:SqL K H a (ns.map V.int))(_:∀n∈ns,intBits n<=1048576)(_:Tab Pt1 bh H)(_:Tab Pt2 jC H)(_:Pt1≠Pt2)(_:∀H',Q (.bl true) H')
def tP {f Pt1 Pt2 BB:Addr}{fd:FuncData}{k ka:Nat}{cf:Nat->Int}{kf:Nat->Nat}(hc0:∀n,0<=cf n)(hc4:∀n,n<=4->cf n<=100000000)(hkf:∀n,n<=4->kf n<=100000)(F:Fun K "law" "law" fO f fd)(T:TxW K mg c BB)(hk:3<=k)
  (Da:Def P w K mg base 1 "_law_draw" p8 (spDraw K))(Yp:Def P w K mg base k "_law_names" p16 (spNames K))(Dw:Def P w K mg base k "_law_blocks" p14 (lj K cf))
  (DE:Def P w K mg base k "_law_block_of" p6 (wH c kf))(Dl:New P w K mg base 1 "Plain" c.cp.Plain p11 (spInit1 c.cp.Plain "signs"))(Dq:New P w K mg base 1 "Entry" c.Entry p24 (spInitE c.Entry))(Do:New P w K mg base 1 "Quote" c.Quote p23 (spInitL c.Quote "blocks"))
  (Yq:Def P w K mg base k "_law_texts_right" p35 (spTxR c))(DF:Def P w K mg base k "_law_walked" p36 (spWalked c Pt1))(Dj:Def P w K mg base k "_law_order" ["_law_trees"] uI)
  (Yr:Def P w K mg base k "_law_asker" ["_law_found"] (my Pt2 mg))(hAsk:∀(base':Heap)(d:Clo)(L:Addr)(G H0:Hp),BaseZ K mg base [d] base'->Kept mg "_law_worker" qAW (aQ sAW) (aG sAW) (ab sAW) ["_law_found"] [.ref L] d->(∀b o,G b=some o->Kd o)->dC P w K mg base' ka d.g c G okW 50000 (AskSt G H0 L Pt1))(hWk:q9 P w K mg c ka k)(hCls:∀n (b:Bl n),Cls K (clsB c n b)/\∃f,Meth K (clsB c n b) "walk" f):FnOk P w K mg base CX0 (k+3) f fd ["_law_script"] (spLaw12 K Pt1 Pt2):=by
 have sc:FnScope zL ["_law_script"] (ab fO):=mkS;refine F.oks sc λ{cdv A _ s vs _}H Q hr h=>?_;obtain⟨a,ns,rfl,hq,hb,tab1,tab2,hPt,q⟩:=h;have hu:(A.deeper (PyProof.Rows.envOfC "law" (ab fO) s.heap.objs.size f cdv)).units+64 < cLine:=by
  have:=hr.un;omega
 refine ak (xbc (xst (i:=1) sc.nd (xlst (xac xint xa0)))
  (xbc (xst (i:=2) sc.nd (xcd Yp hr (xac (xv 0) (xac (xv 1) xa0))))
  (xbc (xst (i:=3) sc.nd (xcd Dw hr (xac (xv 0) (xac (xv 1) (xac (xv 2) (xac xint (xac (xop bp xint (xcd Da hr (xac (xv 0) (xac (xv 1) (xac xint xa0))))) xa0)))))))
  (xbc (xst (i:=4) sc.nd (xcd Dw hr (xac (xv 0) (xac (xv 1) (xac (xv 2) (xac xint (xac (xop bp xint (xcd Da hr (xac (xv 0) (xac (xv 1) (xac xint xa0))))) xa0)))))))
  (xbc (pb (i:=5) (own:=["_law_told"]) sc.nd
  (xil (xv 3))
  (λ_ _ _ _=>xgm (i:=0) (show (["_law_told"]:List Str).Nodup by decide)) (λ_ _ _ _=>xq0) (λ_ _ _ _=>(xcd DE hr (xac (xv 0) (xac (xlst xa0) xa0)))))
  (xbc (pb (i:=6) (own:=["_law_told"]) sc.nd
  (xil (xv 4))
  (λ_ _ _ _=>xgm (i:=0) (show (["_law_told"]:List Str).Nodup by decide)) (λ_ _ _ _=>xq0) (λ_ _ _ _=>(xcd DE hr (xac (xv 0) (xac (xlst xa0) xa0)))))
  (xbc (xst (i:=7) sc.nd (xnew Do hr.mono (xac (xv 5) xa0)))
  (xbc (xif (xor (bq (xcB fT T.q10 rfl (xac (xnew Dq hr.mono (xac xstr (xac (xlst (xac (xnew Dl hr.mono (xac xstr xa0)) xa0)) (xac (xlst xa0) xa0)))) (xac (xgC T.u16) xa0)))) (xor1 (dY (bq (xcB fT T.q10 rfl (xac (xv 7) (xac (xgC T.u16) xa0))))))).xt (xb1 (xret xbl)) xb0)
  (xbc (xif (dY (bq (xcB (fR rfl) T.z11 rfl (xac (xlc0 (own:=["_law_block_here"])
  (xil (xop fJ (xv 5) (xv 6)))
  (λ_ _ _ _=>xgm (i:=0) (show (["_law_block_here"]:List Str).Nodup by decide)) (λ_ _ _ _=>xq0) (λ_ _ _ _=>(xcB rh T.q10 rfl (xac (xv 0) (xac (xgC T.u16) xa0))))) xa0)))) (xb1 (xret xbl)) xb0)
  (xbc (xst (i:=8) sc.nd (xix aO (ui (xlsc xX (xlsc zq (xlsc xW (xlsc (ui (xlsc (xV ∅) xls0)) xls0))))) (xcd Da hr (xac (xv 0) (xac (xv 1) (xac xint xa0)))) (λ_ _=>rfl)))
  (xbc (xfor PassesOwn.never rfl (xiz T.q15 (xac (xop fJ (xv 5) (xv 6)) (xac (xop fJ (xv 3) (xv 4)) xa0))) (xgt rfl (xgsc (xgm (i:=9) sc.nd) (xgsc (xgm (i:=10) sc.nd) xgs0)))
  (xb1 (xif (dY (bq (xcd Yq hr (xac (xv 9) (xac (xv 10) xa0))))) (xb1 (xret xbl)) xb0)))
  (xbc (xif (dY (bq (xcd DF hr (xac (xv 5) (xac (xv 3) (xac (xv 8) xa0)))))) (xb1 (xret xbl)) xb0)
  (xbc (xif (dY (bq (xcd DF hr (xac (xlst (xac (xv 7) xa0)) (xac (xlst (xac (xtup (xac xstr (xac (xv 3) xa0))) xa0)) (xac (zK (xv 8)) xa0)))))) (xb1 (xret xbl)) xb0)
  (xbc (xif (dY (bq (xcd DF hr (xac (xv 6) (xac (xv 4) (xac (xv 8) xa0)))))) (xb1 (xret xbl)) xb0)
  (xbc (xst (i:=11) sc.nd (xlst xa0))
  (xbc (xfor PassesOwn.never rfl (xil (xv 5)) (xgm (i:=9) sc.nd)
  (xb1 (bo (xmZ (k:=k) (xv 9) hr.mono (xac (xcd Yr hr (xac (xv 11) xa0)) xa0)))))
  (xbc (xst (i:=10) sc.nd (xcd Dj hr (xac (xv 3) xa0)))
  (xbc (xif (aA iQ (xcB aF T.g10 PySem.boot_len (xac (xv 11) xa0)) (xcB aF T.g10 PySem.boot_len (xac (xv 10) xa0)) (ai _)) (xb1 (xret xbl)) xb0)
  (xbc (xfor PassesOwn.never rfl (xir1 rfl T.u11 (xac (xcB aF T.g10 PySem.boot_len (xac (xv 10) xa0)) xa0)) (xgm (i:=12) sc.nd)
  (xb1 (xif (xor (aA iQ (xix ar (xix aO (xv 11) (xv 12) (λ_ _=>rfl)) xint (λ_ _=>rfl)) (xcB aF T.g10 PySem.boot_len (xac (xcd Dj hr (xac (xlst (xac (xix aO (xv 10) (xv 12) (λ_ _=>rfl)) xa0)) xa0)) xa0)) (ai _)) (xor1 (aA rB (xix ar (xix aO (xv 11) (xv 12) (λ_ _=>rfl)) xint (λ_ _=>rfl)) xint (ai _)))).xt (xb1 (xret xbl)) xb0)))
  (xbc (bo (xm0 plainAttrs_list PySem.F.slot_list_clear PySem.F.type_list_clear rK (xv 5)))
  (xb1 (xret (xcd DF hr (xac (xlst (xac (xv 7) xa0)) (xac (xlst (xac (xtup (xac xstr (xac (xv 3) xa0))) xa0)) (xac (xv 8) xa0)))))))))))))))))))))))))) ?_
 have hs:=sizeLine_eq;rw[xG];refine ba λV1 eV1=>?_;refine⟨bg1,λt ht=>?_⟩
 left
 refine eV1 _ _ _ ?_;have s1:=ac ht (.lst [.int 0]);have tp1:Tp t 0 (upd H t (.lst [.int 0])):=⟨0,aa,by decide,by decide⟩;have scr:∀{H':Hp},Same H H'->Scr K t ns a H':=λsH=>⟨λH'' k'=>Same.seq (λb o e=>k' b o (nq ht e) (sH b o e)) hq,hb⟩;generalize upd H t (.lst [.int 0])=H1 at s1 tp1 ⊢;refine ba λV2 eV2=>?_;refine⟨_,rfl,_,rfl,a,t,ns,0,rfl,scr s1,tp1,by decide,λnm ls H2 k2 n2 e2 hl hnm tp2=>?_⟩
 left
 refine eV2 _ _ _ ?_;have k02:KeepX t H H2:=(ae s1).trans k2;have sk:∀{H':Hp},KeepX t H H'->Same H H':=λkk b o e=>kk b o (nq ht e) e;have hnmt:nm≠t:=λz=>tp1.ne (z▸n2);refine ba λV3 eV3=>?_;refine⟨_,rfl,_,rfl,_,rfl,_,rfl,_,rfl,a,t,ns,4,_,rfl,scr (sk k02),tp2,by decide,by decide,λi H3 hi0 hi3 k3 tp3=>⟨_,_,rfl,rfl,?_⟩⟩;obtain⟨mn,hmn⟩:∃mn:Nat,(1+i:Int)=(mn:Int):=⟨(1+i).toNat,by omega⟩
 right
 rw[hmn];have hmn1:mn<=4:=by omega
 have hcm:cf 3 * mn<=100000000 * 4:=l67 (l93 (hc4 3 ∅) nofun) nofun;have hcm0:0<=cf 3 * mn:=l68 (hc0 3) nofun;have k03:KeepX t H H3:=k02.trans k3;refine⟨⟨3,by decide⟩,a,t,nm,ns,ls,_,mn,rfl,⟨scr (sk k03),tp3,⟨k3 _ _ hnmt e2,hnmt,hl,hnm⟩,by decide⟩,by show _+cf 3 * mn<=_;omega,hmn1,λr bs H4 k4 tp4 hbl hok d4=>?_⟩
 try dsimp only[tAsg.K0,tDrop.K0,Ends.to_nx,Ends.to_rt,al,sA,sB] at *
 refine eV3 _ _ _ ?_;have tp4:=tp4.le (v:=500000000) nofun;have k04:=k03.trans k4;refine ba λV4 eV4=>?_;refine⟨_,rfl,_,rfl,_,rfl,_,rfl,_,rfl,a,t,ns,2,_,rfl,scr (sk k04),tp4,by decide,by decide,λi2 H5 hj0 hj3 k5 tp5=>⟨_,_,rfl,rfl,?_⟩⟩;obtain⟨mo,hmo⟩:∃mo:Nat,(1+i2:Int)=(mo:Int):=⟨(1+i2).toNat,by omega⟩
 right
 rw[hmo];have hmo1:mo<=2:=by omega
 have hcm:cf 4 * mo<=100000000 * 2:=l67 (l93 (hc4 4 ∅) nofun) nofun;have hcm0:0<=cf 4 * mo:=l68 (hc0 4) nofun;have k05:KeepX t H H5:=k04.trans k5;refine⟨⟨4,by decide⟩,a,t,nm,ns,ls,_,mo,rfl,⟨scr (sk k05),tp5,⟨k5 _ _ hnmt (k4 _ _ hnmt (k3 _ _ hnmt e2)),hnmt,hl,hnm⟩,by decide⟩,by show _+cf 4 * mo<=_;omega,by omega,λr2 cs H6 k6 tp6 hcl hok2 d6=>?_⟩
 try dsimp only[tAsg.K0,tDrop.K0,Ends.to_nx,Ends.to_rt,al,sA,sB] at *
 refine eV4 _ _ _ ?_;have tp6:=tp6.le (v:=900000000) nofun;have k06:=k05.trans k6;have T6:Dn (offX H6 t) (.ref r) (.list (bs.map (dB 3))):=d4.same λb o e=>by
  obtain⟨z1,z2⟩:=bv e;have hbt:b≠t:=λz=>tp3.ne (z▸z1);exact(if_neg hbt).trans ((k5.trans k6) b o hbt z2)
 have O6:Dn (offX H6 t) (.ref r2) (.list (cs.map (dB 4))):=d6.same λb o e=>by
  obtain⟨z1,z2⟩:=bv e;have hbt:b≠t:=λz=>tp5.ne (z▸z1);exact(if_neg hbt).trans z2
 obtain⟨_,xs,hrr,er,da⟩:=aZ T6;cases hrr;obtain⟨_,ys,hrr,er2,db⟩:=aZ O6;cases hrr;refine ba λV5 eV5=>?_;refine⟨_,rfl,r,rfl,⟨_,SqL.of (cC _ _ er)⟩,?_⟩;refine nC hkf (n:=3) ∅ cC (cC _ _ er) da hok nofun λD H7 as hD s7 eD ls7=>?_
 left
 refine eV5 _ _ _ ?_;refine ba λV6 eV6=>?_;refine⟨_,rfl,r2,rfl,⟨_,SqL.of (s7 _ _ (cC _ _ er2))⟩,?_⟩;refine nC hkf (n:=4) ∅ (Same.trans cC s7) (s7 _ _ (cC _ _ er2)) db hok2 nofun λD2 H8 as2 hD2 s8 eD2 ls8=>?_
 left
 refine eV6 _ _ _ ?_;refine ba λV7 eV7=>?_;refine⟨_,rfl,λy dx hy hdy hyd=>⟨y,dx,D,_,rfl,aa,ini0 hy hdy _ _ (s8 _ _ eD),λp H9 hp kx e9p e9y=>⟨rfl,?_⟩⟩⟩
 left
 refine eV7 _ _ _ ?_;have s9:=ini hy hdy kx;refine ba λV8 eV8=>?_;obtain⟨Ga,ga1,ga2,ga3,lsa⟩:=ls7;obtain⟨Gb,gb1,gb2,gb3,lsb⟩:=ls8;have ht6:H6 t≠none:=tp6.ne;have hDt:D≠t:=λz=>ht6 (z▸hD);have hyt:∀{b:Addr},H8 b=none->b≠t/\b≠D:=λh=>⟨λz=>ht6 ((s7.trans s8).free (z▸h)),(nq (s8 _ _ eD) h)⟩;obtain⟨G,hG⟩:∃G,G=kdf H9 (λb=>b=t ∨ b=D):=⟨_,rfl⟩;have sG:Same G H9:=by rw[hG];exact uG
 have kG:∀b o,G b=some o->Kd o:=λb o e=>by rw[hG] at e;exact(nu e).1
 have inG:∀{b:Addr} {o:HO},H9 b=some o->Kd o->b≠t->b≠D->G b=some o:=λe k h1 h2=>by rw[hG];exact nv e k (λz=>z.elim h1 h2)
 have gt:G t=none:=by
  cases e:G t with
  |none=>rfl
  |some o=>rw[hG] at e;exact absurd (.inl rfl) (nu e).2
 have gD:G D=none:=by
  cases e:G D with
  |none=>rfl
  |some o=>rw[hG] at e;exact absurd (.inr rfl) (nu e).2
 have s79:=s8.trans s9;have LA:Ls (BAt c 3 G) as bs:=lsa.mono λx z h=>qZ 3 _ _ _ _ (λb o k e=>inG (s79 _ _ (ga1 _ _ e)) k (nq (ga3 t ht6) e) (nq (ga2 D l10) e)) h;have ht7:H7 t≠none:=λz=>ht6 (s7.free z);have hD7:H7 D≠none:=nz eD;have LB:Ls (BAt c 4 G) as2 cs:=lsb.mono λx z h=>qZ 4 _ _ _ _ (λb o k e=>inG (s9 _ _ (gb1 _ _ e)) k (nq (gb3 t ht7) e) (nq (gb3 D hD7) e)) h;have ksO:KS (offX H6 t) G:=λb o k e=>inG (s79 _ _ (s7 _ _ (cC _ _ e))) k (λz=>by rw[z] at e;unfold offX at e;rw[if_pos rfl] at e;cases e) (λz=>by have:=cC _ _ e;rw[z,hD] at this;cases this);have TA:=vx ksO T6;have TB:=vx ksO O6;have hp8:H8 p=none:=(ini0 hy hdy).free hp;have QY:BAt c 4 G y (BkF.quote bs:BkF (Bl 3)):=⟨dx,p,inG e9y Kd.ins (hyt hy).1 (hyt hy).2,as,inG e9p Kd.lst (hyt hp8).1 (hyt hp8).2,LA⟩;have eD9:=s9 _ _ (s8 _ _ eD);have hD2t:=hyt (b:=D2);have gD2:G D2=some (.lst (as2.map V.ref)):=inG (s9 _ _ eD2) Kd.lst (λz=>ht7 (z▸hD2)) (λz=>hD7 (z▸hD2));have hal:=LA.len;have hal2:=LB.len;have tab19:Tab Pt1 bh H9:=tab1.keepW λb o no e=>s9 _ _ (s8 _ _ (s7 _ _ (k06 b o (nq ht e) e)));have tab29:Tab Pt2 jC H9:=tab2.keepW λb o no e=>s9 _ _ (s8 _ _ (s7 _ _ (k06 b o (nq ht e) e)));have tp9:Tp t 900000000 H9:=tp6.same (s7.trans s79);have sH9:Same H H9:=λb o e=>s9 _ _ (s8 _ _ (s7 _ _ (sk k06 b o e)));obtain⟨_,xg,hrr,erG,daG⟩:=aZ TA;cases hrr;obtain⟨_,yg,hrr,erG2,dbG⟩:=aZ TB;cases hrr;have hxg:xg.length=bs.length:=by rw[daG.len,l5]
 have hyg:yg.length=cs.length:=by rw[dbG.len,l5]
 have el:∀(i:Nat) x,(as.map V.ref++as2.map V.ref)[i]? = some x->∃(n:Nat) (b:Bl n) (a':Addr),n<=4/\x = .ref a'/\BAt c n G a' b/\GB n b/\∀v,(xg++yg)[i]? = some v->Dn G v (dB n b):=λi x hx=>by
  by_cases hi:i < as.length
  ·rw[List.getElem?_append_left (by rw[l5];exact hi)] at hx;obtain⟨a',b,rfl,hbi,_,hab⟩:=LA.get hx;refine⟨3,b,a',by decide,rfl,hab,hok b (l18 hbi),λv hv=>?_⟩;rw[List.getElem?_append_left nofun] at hv;obtain⟨d,hd,dv⟩:=daG.getV hv;rw[List.getElem?_map,hbi] at hd;cases hd;exact dv
  ·rw[List.getElem?_append_right (by rw[l5];omega),l5] at hx;obtain⟨a',b,rfl,hbi,_,hab⟩:=LB.get hx;refine⟨4,b,a',by decide,rfl,hab,hok2 b (l18 hbi),λv hv=>?_⟩;rw[List.getElem?_append_right nofun,hxg,<- hal] at hv;obtain⟨d,hd,dv⟩:=dbG.getV hv;rw[List.getElem?_map,hbi] at hd;cases hd;exact dv
 have j8:∀n1:Nat,((List.range n1).map λ_=>V.bl true)=((List.range n1).map λ_=>true).map V.bl:=λn1=>by rw[l30];rfl
 have j7:∀n1:Nat,((List.range n1).map λ_=>true).all id=true:=λn1=>by simp
 clear lsa lsb ga1 ga2 ga3 gb1 gb2 gb3 T6 O6 da db er er2 eD eD2 tp6 tp4 tp5 tp3 tp2 d4 d6 ht7 hD7 hD2t;refine vq (t_or false false (λR kk=>?_) λ_ H10 s10=>lL true λR kk=>?_) λH10 s10=>?_
 ·refine λz dz hz hdz hzd=>⟨z,dz,_,rfl,aa,rfl,?_⟩;obtain⟨m1,_⟩:=pS (C:=c.cp.Plain) (o := .ins c.cp.Plain dz [("signs", .str "a")]) (Same.refl H9) hz hdz;generalize upd (upd (upd H9 dz (.own z)) z (.ins c.cp.Plain dz [])) z (.ins c.cp.Plain dz [("signs", .str "a")])=Ha at m1 ⊢;refine⟨bg1,λl hl=>⟨bg0,λl2 hl2=>?_⟩⟩;have sl:=ac hl (.lst [.ref z]);have sl2:=ac hl2 (.lst []);refine λe de he hde hed=>⟨e,de,_,l,_,l2,_,rfl,aa,ini0 he hde _ _ (sl2 _ _ aa),ini0 he hde _ _ aa,λp1 p2 H' hp1 hp2 kx' ep1 ep2 ee=>⟨rfl, .ref e,_,BB,false,rfl,T.tE.ty ee,T.isE,_,rfl,kk H' ?_⟩⟩;exact((m1.trans sl).trans sl2).trans (ini he hde kx')
 ·exact⟨_,rfl, .ref y,_,BB,true,rfl,(T.tB 4 (BkF.quote bs:BkF (Bl 3))).ty (s10 _ _ e9y),T.isB 4 (BkF.quote bs:BkF (Bl 3)),_,rfl,kk _ (Same.refl _)⟩
 refine eV8 _ _ _ ?_;refine ba λV9 eV9=>?_;refine vq (lL true λR kk=>?_) λH11 s11=>?_
 ·refine⟨_,rfl,_,rfl,D,D2,_,_,rfl,rfl,s10 _ _ eD9,s10 _ _ (sG _ _ gD2),by rw[l5,l5,hs];omega,λq1 hq1=>?_⟩;have sq:=ac hq1 (.lst (as.map V.ref++as2.map V.ref));have eq1:upd H10 q1 (.lst (as.map V.ref++as2.map V.ref)) q1=_:=aa;generalize upd H10 q1 (.lst (as.map V.ref++as2.map V.ref))=Hq at sq eq1 ⊢;refine⟨q1,rfl,⟨_,SqL.of eq1⟩,?_⟩;refine zp (λ_ => .bl true) (SqL.of eq1) (by rw[l6,l5,l5,hs];omega) (λi x hx H' s' C N hC=>?_) λD' H' hD' s' eD'=>?_
  ·obtain⟨n,b,a',hn,rfl,hab,gb,_⟩:=el i x hx;obtain⟨dx',fs',ea',_⟩:=fG hab;exact⟨(nfLe.refl _ _ _).set ∅ _,iteT (B:=N H') ⟨_,rfl, .ref a',_,BB,true,rfl,(T.tB n b).ty (s' _ _ (sq _ _ (s10 _ _ (sG _ _ ea')))),T.isB n b,hC _ (Same.refl _)⟩⟩
  ·refine⟨D',_,rfl,SqL.of (eD'.trans (by rw[j8])),?_⟩;rw[j7];exact⟨_,rfl,kk _ (sq.trans s')⟩
 refine eV9 _ _ _ ?_;refine ba λV10 eV10=>?_;have sG11:=sG.trans (s10.trans s11);have tp11:=tp9.same (s10.trans s11);refine λlv H12 s12 d12=>?_;obtain⟨la,vs,rfl,ela,dvs⟩:=aZ d12;obtain⟨v0,vs,rfl,d0,dvs⟩:=ag dvs;obtain⟨v1,vs,rfl,d1,dvs⟩:=ag dvs;obtain⟨v2,vs,rfl,d2,dvs⟩:=ag dvs;obtain⟨v3,vs,rfl,d3,dvs⟩:=ag dvs;cases dU dvs;cases d0;cases d1;cases d2;obtain⟨l3,ws,rfl,el3,dws⟩:=aZ d3;have hwl:=dws.len;have hlat:la≠t:=λz=>tp11.ne ((bv ela).1▸z▸rfl);refine⟨_,rfl,_,rfl,a,t,ns,4,_,rfl,scr (sH9.trans ((s10.trans s11).trans s12)),tp11.same s12,by decide,by decide,λgi H13 hg0 hg4 k13 tp13=>?_⟩;obtain⟨gv,hat,htru⟩:∃gv,atI [V.non,V.bl true,V.int 5,V.ref l3] gi=some gv/\∀H',H' l3=some (.lst ws)->∃k,TruV K gv H' k:=by
  have:gi=0 ∨ gi=1 ∨ gi=2 ∨ gi=3:=by omega
  rcases this with z |z |z |z <;> rw[z]
  ·exact⟨_,ay (j:=0) rfl,λ_ _=>⟨_,rfl⟩⟩
  ·exact⟨_,ay (j:=1) rfl,λ_ _=>⟨_,rfl⟩⟩
  ·exact⟨_,ay (j:=2) rfl,λ_ _=>⟨_,rfl⟩⟩
  ·exact⟨_,ay (j:=3) rfl,λ_ e=>⟨_, .inl ⟨_,SqL.of e,rfl⟩⟩⟩
 have h3t:l3≠t:=λz=>tp11.ne ((bv el3).1▸z▸rfl);refine⟨la,_,gi,gv,rfl,rfl,SqL.of (k13 _ _ hlat (dif_same _ _ ela)),hat,?_⟩
 left
 refine eV10 _ _ _ ?_;have s912:=(s10.trans s11).trans s12;have cu:Cur G D l3 Pt1 Pt2 as ws H13:=by
  refine⟨λb o e=>k13 b o (nq gt e) (s912 _ _ (sG _ _ e)),k13 _ _ hDt (s912 _ _ eD9),k13 _ _ h3t (dif_same _ _ el3),?_,?_⟩
  ·refine tab19.keepW λb o no e=>k13 b o (λz=>?_) (s912 _ _ e);obtain⟨m,et,_⟩:=tp9;rw[z,et] at e;cases e;exact no _ rfl
  ·refine tab29.keepW λb o no e=>k13 b o (λz=>?_) (s912 _ _ e);obtain⟨m,et,_⟩:=tp9;rw[z,et] at e;cases e;exact no _ rfl
 clear k13 tp13 tp11 tp9 d12 d3 ela el3 dws dvs s12 s912 s11 s10 tab19 tab29 sG11 eD9 sG;generalize H13=Hc at cu;refine cq (λσ' H'=>∃x9 x10,σ'=[some (V.ref a),some (V.ref t),some (V.ref nm),some (V.ref r),some (V.ref r2),some (V.ref D),some (V.ref D2),some (V.ref y),some gv,x9,x10,none,none]/\Cur G D l3 Pt1 Pt2 as ws H') (λN hN=>?_) ?_
 ·refine⟨_,rfl,_,rfl,D,D2,_,_,rfl,rfl,cu.eD,cu.g _ _ gD2,by rw[l5,l5,hs];omega,λq1 hq1=>?_⟩;have c1:=cu.same (ac hq1 (.lst (as.map V.ref++as2.map V.ref)));have eq1:upd Hc q1 (.lst (as.map V.ref++as2.map V.ref)) q1=_:=aa;generalize upd Hc q1 (.lst (as.map V.ref++as2.map V.ref))=Hd at c1 eq1 ⊢;refine⟨_,rfl,_,rfl,r,r2,_,_,rfl,rfl,c1.g _ _ erG,c1.g _ _ erG2,by rw[hs];omega,λq2 hq2=>?_⟩;have sq2:=ac hq2 (.lst (xg++yg));have c2:=c1.same sq2;have eq1:=sq2 _ _ eq1;have eq2:upd Hd q2 (.lst (xg++yg)) q2=_:=aa;generalize upd Hd q2 (.lst (xg++yg))=He at c2 eq1 eq2 ⊢
  right
  refine⟨q1,q2,rfl,⟨_,SqL.of eq1⟩,⟨_,SqL.of eq2⟩,?_⟩;have hql:(as.map V.ref++as2.map V.ref).length=(xg++yg).length:=by rw[l6,l6,l5,l5];omega
  refine forJ (D:={ nx:=N,rt:=Q }) (xg++yg).length (λi σ H'=>∃x9 x10,σ=[some (V.ref a),some (V.ref t),some (V.ref nm),some (V.ref r),some (V.ref r2),some (V.ref D),some (V.ref D2),some (V.ref y),some gv,x9,x10,none,none]/\Same He H') ⟨none,none,rfl,Same.refl _⟩ ?_ ?_ ?_ ?_
  ·rintro i σ H' hi ⟨_,_,_,sH⟩;exact⟨_,_,_,_,SqL.of (sH _ _ eq1),SqL.of (sH _ _ eq2),List.getElem?_eq_getElem nofun,List.getElem?_eq_getElem hi⟩
  ·rintro σ H' ⟨_,_,_,sH⟩;exact⟨_,_,SqL.of (sH _ _ eq1),SqL.of (sH _ _ eq2), .inl nofun⟩
  ·rintro i σ H' x H2 hi ⟨x9,x10,rfl,sH⟩ yy;obtain⟨T0,x1,y1,hx1,hy1,hT,rfl,rfl⟩:=yy;have hx1:=hx1 _ (SqL.of (sH _ _ eq1));have hy1:=hy1 _ (SqL.of (sH _ _ eq2));obtain⟨n,b,a',hn,rfl,hab,gb,hd⟩:=el i x1 hx1;refine⟨T0,_,rfl,SqT.of aa,rfl,?_⟩;refine⟨_,_,rfl,_,_,rfl,rfl,?_⟩
   left
   have sT:=sH.trans (ac hT (.tup [V.ref a',y1]));generalize upd H' T0 (.tup [V.ref a',y1])=H3 at sT ⊢;refine⟨_,rfl,_,rfl,?_⟩
   right
   exact wI hab (hd y1 hy1) gb (c2.g.trans sT) λH4 s4=>⟨true,rfl,ite2 (λz=>nomatch z) λ_=>⟨_,_,rfl,sT.trans s4⟩⟩
  ·rintro σ H' ⟨x9,x10,rfl,sH⟩;exact hN _ _ ⟨x9,x10,rfl,c2.same sH⟩
 rintro _ Hd ⟨x9,x10,rfl,cd⟩;clear cu;have hno:(n:Nat)->n<=4->(b:Bl n)->GB n b->∀x∈aq n b,okA x:=λn hn b hb=>GB.toAs hn hb;have B3:Bks c 3 bs as (.ref r) G:=⟨by decide,LA,TA,λb hb=>hno 3 ∅ b (hok b hb),l13 (cT (m:=31) λb hb=>l13 (fH (hok b hb)) (re ∅)) nofun,kG⟩;have B4:Bks c 4 cs as2 (.ref r2) G:=⟨by decide,LB,TB,λb hb=>hno 4 ∅ b (hok2 b hb),l13 (cT (m:=31) λb hb=>l13 (fH (hok2 b hb)) (re ∅)) nofun,kG⟩;refine ba λVA eVA=>?_;refine⟨_,rfl,_,rfl,_,rfl,3,bs,D,as, .ref r,gv,G,rfl,B3,cd.eD,cd.g,cd.t1,λHe swe te=>⟨true,rfl,ite2 (λz=>nomatch z) λ_=>?_⟩⟩;refine eVA _ _ _ ?_;have ce:=cd.walk kG hPt swe te;clear cd swe te;refine ba λVB eVB=>?_;have BQ:∀{G':Hp} {w2 tp0:Addr},Same G G'->(∀b o,G' b=some o->Kd o)->G' tp0=some (.tup [.str "quote", .ref r])->G' w2=some (.lst [.ref tp0])->Bks c 4 [(BkF.quote bs:BkF (Bl 3))] [y] (.ref w2) G':=λsg kg e1 e2=>by
  refine⟨by decide,⟨dr 4 _ _ _ _ sg QY,trivial⟩, .lst e2 (.cons (.tup e1 (.cons (dn_k ∅) (.cons (TA.same sg) .nil))) .nil) (show 1<=100000 by decide),λb hb x hx=>?_,?_,kg⟩
  ·rw[l14.mp hb] at hx;rcases l8.mp hx with z |z
   ·rw[z];refine⟨show 4<=4 by decide,⟨by omega,λb hb=>GB.ok (hok b hb)⟩,?_⟩;exact(cS (n:=24) (c1:=0) (c2:=4 * 12000+1) be (bX (n:=23) (c:=12000) (k:=4) nofun λb hb=>(wC (hok b hb)).mono ∅ ∅)).1
   ·obtain⟨b,hb,hx⟩:=l51.mp z;exact hno 3 ∅ b (hok b hb) x hx
  ·have:=B3.cnt;show (((⟨4,(BkF.quote bs:BkF (Bl 3))⟩:AnyB)::bs.flatMap (aq 3))++[]).length<=_;rw[l25,l9];have h2:(bs.flatMap (aq 3)).length<=bs.length * 31:=cT (m:=31) λb hb=>l13 (fH (hok b hb)) (re ∅);omega
 have askQ:∀{H1:Hp} {u:V} {Q1:VK},Same G H1->Tab Pt1 bh H1->(∀H',vo (λb=>b=Pt1) H1 H'->Tab Pt1 bh H'->Q1 (.bl true) H')->∀w1,H1 w1=none->∀tp0,upd H1 w1 (.lst [.ref y]) tp0=none->∀w2,upd (upd H1 w1 (.lst [.ref y])) tp0 (.tup [.str "quote", .ref r]) w2=none->spWalked c Pt1 [.ref w1, .ref w2,u] (upd (upd (upd H1 w1 (.lst [.ref y])) tp0 (.tup [.str "quote", .ref r])) w2 (.lst [.ref tp0])) Q1 E0:=λ{H1 u Q1} sg tb hq w1 hw1 tp0 htp w2 hw2=>by
  have z1:=ac hw1 (.lst [.ref y]);have z2:=ac htp (.tup [.str "quote", .ref r]);have z3:=ac hw2 (.lst [.ref tp0]);have f1:=z3 _ _ (z2 _ _ (aa (H:=H1) (a:=w1) (o := .lst [.ref y])));have f2:=z3 _ _ (aa (H:=upd H1 w1 (.lst [.ref y])) (a:=tp0) (o := .tup [.str "quote", .ref r]));have f3:upd (upd (upd H1 w1 (.lst [.ref y])) tp0 (.tup [.str "quote", .ref r])) w2 (.lst [.ref tp0]) w2=_:=aa;have z:=(z1.trans z2).trans z3;generalize upd (upd (upd H1 w1 (.lst [.ref y])) tp0 (.tup [.str "quote", .ref r])) w2 (.lst [.ref tp0])=H2 at f1 f2 f3 z ⊢;obtain⟨G',hG'⟩:∃G',G'=kdf H2 (λb=>G b=none/\b≠tp0/\b≠w2):=⟨_,rfl⟩;have s1:Same G G':=λb o e=>by rw[hG'];exact nv (z _ _ (sg _ _ e)) (kG _ _ e) (λh=>by rw[h.1] at e;cases e)
  have s2:Same G' H2:=by rw[hG'];exact uG
  refine⟨4,_,w1,[y], .ref w2,u,G',rfl,BQ s1 (λb o e=>by rw[hG'] at e;exact(nu e).1) (by rw[hG'];exact nv f2 Kd.tup λh=>h.2.1 rfl) (by rw[hG'];exact nv f3 Kd.lst λh=>h.2.2 rfl),f1,s2,tb.keepW λb o _ e=>z _ _ e,λH' sw tb'=>hq H' (λb o nb e=>sw b o nb (z _ _ e)) tb'⟩
 refine⟨_,rfl,bg1,λw1 hw1=>⟨_,rfl,bg2,λtp0 htp=>⟨bg1,λw2 hw2=>?_⟩⟩⟩;obtain⟨kb,hkb⟩:=htru (upd (upd (upd He w1 (.lst [.ref y])) tp0 (.tup [.str "quote", .ref r])) w2 (.lst [.ref tp0])) (ac hw2 _ _ _ (ac htp _ _ _ (ac hw1 _ _ _ ce.e3)));refine⟨_,rfl,kb,hkb,?_⟩
 right
 refine askQ ce.g ce.t1 (λHf swf tf=>⟨true,rfl,ite2 (λz=>nomatch z) λ_=>?_⟩) w1 hw1 tp0 htp w2 hw2;refine eVB _ _ _ ?_;have cf':=ce.walk kG hPt swf tf;clear ce swf tf hkb;refine ba λVC eVC=>?_;refine⟨_,rfl,_,rfl,_,rfl,4,cs,D2,as2, .ref r2,gv,G,rfl,B4,cf'.g _ _ gD2,cf'.g,cf'.t1,λHg swg tg=>⟨true,rfl,ite2 (λz=>nomatch z) λ_=>?_⟩⟩;refine eVC _ _ _ ?_;have cg:=cf'.walk kG hPt swg tg;clear cf' swg tg;refine ba λVD eVD=>?_;refine⟨bg0,λL hL=>?_⟩
 left
 refine eVD _ _ _ ?_;have sL:=ac hL (.lst []);have ch:=cg.same sL;have eL:upd Hg L (.lst []) L=some (.lst []):=aa;have gL:G L=none:=cg.g.free hL;have hLD:D≠L:=λz=>by rw[<- z,cg.eD] at hL;cases hL
 have hL3:l3≠L:=λz=>by rw[<- z,cg.e3] at hL;cases hL
 generalize upd Hg L (.lst [])=Hh at ch eL;clear cg sL hL;have gP1:G Pt1=none:=by
  cases e:G Pt1 with
  |none=>rfl
  |some o=>exact absurd rfl (cJ ch.t1 (ch.g _ _ e) (ld (kG _ _ e)))
 have hLP1:L≠Pt1:=cJ ch.t1 eL λ_ z=>nomatch z;have hLP2:L≠Pt2:=cJ ch.t2 eL λ_ z=>nomatch z;have cnt3:(bs.flatMap (aq 3)).length<=20000:=B3.cnt;have hfl:∀i,((bs.take i).flatMap (aq 3)).length<=(bs.flatMap (aq 3)).length:=λi=>by
  have:bs.flatMap (aq 3)=(bs.take i).flatMap (aq 3)++(bs.drop i).flatMap (aq 3):=by rw[<- l44,l47]
  rw[this,l6];omega
 refine cq (λσ' H'=>∃x9,σ'=[some (V.ref a),some (V.ref t),some (V.ref nm),some (V.ref r),some (V.ref r2),some (V.ref D),some (V.ref D2),some (V.ref y),some gv,x9,x10,some (V.ref L),none]/\Cur G D l3 Pt1 Pt2 as ws H'/\AskSt G (λ_=>none) L Pt1 (bs.flatMap (aq 3)) H') (λN hN=>?_) ?_
 ·refine⟨_,rfl,D,rfl,⟨_,SqL.of ch.eD⟩,?_⟩;refine bc (xs:=as.map V.ref) (λj σ H'=>∃x9,σ=[some (V.ref a),some (V.ref t),some (V.ref nm),some (V.ref r),some (V.ref r2),some (V.ref D),some (V.ref D2),some (V.ref y),some gv,x9,x10,some (V.ref L),none]/\Cur G D l3 Pt1 Pt2 as ws H'/\AskSt G (λ_=>none) L Pt1 ((bs.take j).flatMap (aq 3)) H') ⟨x9,rfl,ch,G,[],Same.refl _,ch.g,gL,gP1,eL, .nil,ch.t1,(λ_ _ _ _ z=>nomatch z),kG⟩ ?_ ?_ ?_
  ·rintro j σ H' _ ⟨_,_,c',_⟩;exact SqL.of c'.eD
  ·rintro j x σ H4 hx ⟨x9,rfl,c4,G4,zs,g41,g42,g4L,g4P,e4L,dz,t4,_,k4⟩;obtain⟨a',b,rfl,hbj,_,hb⟩:=LA.get hx;have hst:(bs.take (j+1)).flatMap (aq 3)=(bs.take j).flatMap (aq 3)++aq 3 b:=by rw[l41,hbj,l44];simp
   have gbb:=hok b (l18 hbj)
   left
   obtain⟨dx',fs',ea,hfs⟩:=fG hb;obtain⟨hc,f',hm⟩:=hCls 3 b;refine⟨_,rfl,a',clsB c 3 b,dx',fs',f',rfl,c4.g _ _ ea,hfs,hc,hm,_,rfl,rfl,c4.t2,λd H5 M kept=>?_⟩;have hD5:∀d'∈[d],dF H5 d':=λd' h=>by rw[l14.mp h];exact M.ok
   have keep5:∀b o,(∀xs,o ≠ .tbl xs)->H4 b=some o->H5 b=some o:=λb o no e=>M.keep b o (cJ c4.t2 e no) e;have nk:∀b o,Kd o->H4 b=some o->drop H5 [d] b=some o:=λb o k e=>by
    have e5:=keep5 b o (ld k) e;rw[aR (bV hD5 e5 (ra k))];exact e5
   have equal:d.qual=qAW:=by obtain⟨_,_,_,_,z,_⟩:=kept;exact z
   have t5:Tab Pt1 bh (drop H5 [d]):=tO c4.t1 c4.t2 hPt M λq hq=>by
    rw[l14.mp hq,equal];exact qne
   have st0:AskSt G (drop H5 [d]) L Pt1 ((bs.take j).flatMap (aq 3)) (drop H5 [d]):=⟨G4,zs,g41,λb o e=>nk b o (k4 b o e) (g42 _ _ e),g4L,g4P,nk _ _ Kd.lst e4L,dz,t5,(λ_ _ _ _ e=>e),k4⟩
   right
   refine⟨p7,spWk c 3 d.g G okW 50000 (AskSt G (drop H5 [d]) L Pt1) (λx=>x=b),[d],hD5,λbase' Bx=>hWk base' d.g G okW 50000 _ Bx.kin Bx.glob (λvis H h=>h.same) (hAsk base' d L G _ Bx kept kG) 3 ∅ b,?_⟩;refine⟨a',b,_,rfl,hb,rfl,λx hx=>?_,st0,?_,λH6 st6 hno6=>?_⟩
   ·obtain⟨h1,h2⟩:=ny gbb x hx;exact GB.toW (l13 h1 ∅) h2
   ·have h1:=hfl (j+1);rw[hst,l6] at h1;omega
   obtain⟨G6,zs6,g61,g62,g6L,g6P,e6L,dz6,t6,kx6,k6⟩:=st6;have b6:∀b o,H6 b=some o->back H5 [d] H6 b=some o:=λb o e=>(cb λhm=>by rw[hno6 b hm] at e;cases e).trans e;have out:∀b o,b≠L->b≠Pt1->H5 b=some o->back H5 [d] H6 b=some o:=λb o h1 h2 e=>by
    by_cases hb:b∈adrs [d]
    ·rw[gh hb];exact e
    ·exact b6 b o (kx6 b o h1 h2 (by rw[aR hb];exact e))
   have nP1:∀{b:Addr} {o:HO},H4 b=some o->(∀xs,o ≠ .tbl xs)->b≠Pt1:=λe no=>cJ c4.t1 e no;refine⟨_,rfl,⟨λb o e=>b6 _ _ (g62 _ _ (g61 _ _ e)),out _ _ hLD (nP1 c4.eD λ_ z=>nomatch z) (keep5 _ _ (λ_ z=>nomatch z) c4.eD),out _ _ hL3 (nP1 c4.e3 λ_ z=>nomatch z) (keep5 _ _ (λ_ z=>nomatch z) c4.e3),t6.keep b6,?_⟩,G6,zs6,g61,λb o e=>b6 _ _ (g62 _ _ e),g6L,g6P,b6 _ _ e6L,by rw[hst];exact dz6,t6.keep b6,(λ_ _ _ _ z=>nomatch z),k6⟩;obtain⟨ps,p1,p2,p3⟩:=M.tab;have hP1:∀{b:Addr} {o:HO},H5 b=some o->(∀xs,o ≠ .tbl xs)->b≠Pt1:=λ{b o} e no z=>by
    obtain⟨ps',e1,_⟩:=c4.t1;have:=M.keep Pt1 _ hPt e1;rw[<- z,e] at this;cases this;exact no _ rfl
   have hL5:∀{b:Addr} {o:HO},H5 b=some o->(∀xs,o ≠ .lst xs)->b≠L:=λ{b o} e no z=>by
    have h5:=keep5 L _ (λxs (y:HO.lst _=HO.tbl xs)=>nomatch y) e4L;rw[<- z,e] at h5;cases h5;exact no _ rfl
   exact⟨ps,out _ _ (Ne.symm hLP2) (Ne.symm hPt) p1,p2,λq hq=>(p3 q hq).imp id λ⟨c',e1,e2⟩=>⟨c',e1,out _ _ (hL5 e2 λ_ z=>nomatch z) (hP1 e2 λ_ z=>nomatch z) e2⟩⟩
  ·rintro σ H' ⟨x9,rfl,c',st'⟩;rw[l5,hal,l38] at st';exact hN _ _ ⟨x9,rfl,c',st'⟩
 rintro _ Hi ⟨x9,rfl,ci,G7,zs,g71,g72,g7L,g7P,e7L,dz,t7,_,k7⟩;refine ba λVE eVE=>?_;refine⟨_,rfl,⟨3,by decide⟩, .ref r,bs,G,rfl,TA,ci.g,?_,λro us Hj sj nj ej dj=>?_⟩
 ·have e:bs.flatMap (odB 3)=(bs.flatMap (aq 3)).map dA:=by
   rw[l87];congr 1;funext x;exact(q5 3 x).symm
  show (bs.flatMap (odB 3)).length<=_;rw[e,l5];omega
 left
 refine eVE _ _ _ ?_;have hod:bs.flatMap (odB 3)=(bs.flatMap (aq 3)).map dA:=by
  rw[l87];congr 1;funext x;exact(q5 3 x).symm
 obtain⟨os,hos⟩:∃os,bs.flatMap (aq 3)=os:=⟨_,rfl⟩;have gos:∀x∈os,x.1<=3/\GB x.1 x.2:=λx hx=>by
  rw[<- hos] at hx;obtain⟨b,hb,hx⟩:=l51.mp hx;exact ny (hok b hb) x hx
 have dj:DnAll G us (os.map dA):=by rw[<- hos,<- hod];exact dj
 rw[hos] at dz cnt3;have hzl:=dz.len;have hul:=dj.len;rw[l5] at hzl hul;have cj:=ci.same sj;have eLj:=sj _ _ e7L;refine ba λVF eVF=>?_;refine vq (λR kk=>⟨_,rfl,L,zs,rfl, .inl (SqL.of eLj),_,rfl,ro,us,rfl, .inl (SqL.of ej),rfl,_,rfl,?_⟩) λHk sk'=>?_
 ·rw[hzl,hul,decide_eq_true rfl];exact kk _ (Same.refl _)
 refine eVF _ _ _ ?_;have ck:=cj.same sk';have eLk:=sk' _ _ eLj;have ejk:=sk' _ _ ej;have g7k:=g72.trans (sj.trans sk');refine cq (λσ' H'=>∃x12,σ'=[some (V.ref a),some (V.ref t),some (V.ref nm),some (V.ref r),some (V.ref r2),some (V.ref D),some (V.ref D2),some (V.ref y),some gv,x9,some (V.ref ro),some (V.ref L),x12]/\Same Hk H') (λN hN=>?_) ?_
 ·refine⟨_,rfl,ro,us,rfl, .inl (SqL.of ejk),_,rfl,by omega,by omega,?_⟩;rw[l37];refine bO (n:=us.length) (λi σ H'=>∃x12,σ=[some (V.ref a),some (V.ref t),some (V.ref nm),some (V.ref r),some (V.ref r2),some (V.ref D),some (V.ref D2),some (V.ref y),some gv,x9,some (V.ref ro),some (V.ref L),x12]/\Same Hk H') ⟨_,rfl,Same.refl _⟩ ?_ ?_
  ·rintro i σ H' hi ⟨x12,rfl,sH⟩;rw[Int.zero_add]
   left
   have hv:us[i]? = some us[i]:=List.getElem?_eq_getElem hi;have hz:zs[i]? = some (zs[i]'nofun):=List.getElem?_eq_getElem nofun;generalize us[i]=v at hv;generalize (zs[i]'nofun)=z at hz;obtain⟨dd,hdd,dv⟩:=dj.getV hv;rw[List.getElem?_map] at hdd;obtain⟨x,hx,rfl⟩:=l52.mp hdd;obtain⟨dd,hdd,dzz⟩:=dz.getV hz;rw[List.getElem?_map,hx] at hdd;cases hdd;obtain⟨hx3,gx⟩:=gos x (l18 hx);obtain⟨p0,ys0,rfl,ep0,dy0⟩:=iP dzz;obtain⟨u0,ys0,rfl,du0,dy0⟩:=ag dy0;obtain⟨u1,ys0,rfl,du1,dy0⟩:=ag dy0;cases dU dy0;cases du0;cases du1;have hpos:=nA gx;refine s_if false (t_or false false (λR kk=>?_) λ_ H2 s2 R kk=>?_) (λ_ _ z=>nomatch z) λH2 s2 _=>⟨_,rfl,sH.trans s2⟩
   ·refine⟨_,rfl,_,rfl,L,zs,_,_,rfl,rfl,SqL.of (sH _ _ eLk),ay hz,p0,_,0,_,rfl,rfl,SqT.of (sH _ _ (g7k _ _ ep0)),ay (j:=0) rfl,_,rfl,_,rfl,ro,us,_,v,rfl,rfl,SqL.of (sH _ _ ejk),ay hv,bg1,λq0 hq0=>?_⟩;have sq:=ac hq0 (.lst [v]);have eq0:upd H' q0 (.lst [v]) q0=_:=aa;generalize upd H' q0 (.lst [v])=H3 at sq eq0 ⊢;have e1:([x.2].flatMap (odB x.1)).length=(aq x.1 x.2).length:=by
     show (odB x.1 x.2++[]).length=_;rw[l25,<- q5 x.1 x.2,l5]
    refine⟨⟨x.1,l13 hx3 ∅⟩, .ref q0,[x.2],H3,rfl, .lst eq0 (.cons (dv.same ((ck.g.trans sH).trans sq)) .nil) (show 1<=100000 by decide),Same.refl _,?_,λr' xs' H4 s4 n4 e4 d4=>?_⟩
    ·show ([x.2].flatMap (odB x.1)).length<=_;rw[e1];exact l13 (fH gx) (l13 (re (l13 hx3 ∅)) ∅)
    ·have hl':=d4.len;refine⟨r',xs',rfl, .inl (SqL.of e4),rfl,_,rfl,?_⟩;rw[hl'];show R (!decide (V.int ((aq x.1 x.2).length:Nat)=V.int ((([x.2].flatMap (odB x.1)).length:Nat)))) H4;rw[e1,decide_eq_true rfl];exact kk _ (sq.trans s4)
   ·refine⟨_,rfl,_,rfl,L,zs,_,_,rfl,rfl,SqL.of (s2 _ _ (sH _ _ eLk)),ay hz,p0,_,1,_,rfl,rfl,SqT.of (s2 _ _ (sH _ _ (g7k _ _ ep0))),ay (j:=1) rfl,_,_,rfl,rfl,_,rfl,?_⟩;have hd:¬ (((cI aS x.1 x.2).length:Nat):Int) < 1:=by omega
    show R (decide ((((cI aS x.1 x.2).length:Nat):Int) < 1)) H2;rw[decide_eq_false hd];exact kk _ (Same.refl _)
  ·rintro σ H' ⟨x12,rfl,sH⟩;exact hN _ _ ⟨x12,rfl,sH⟩
 rintro _ Hl ⟨x12,rfl,sl⟩;have cl:=ck.same sl;refine⟨_,rfl, .inl ⟨rfl,_,SqL.of cl.eD⟩,D,_,rfl,rfl,cl.eD,?_⟩;have sGm:Same G (upd Hl D (.lst [])):=λb o e=>(ad (nq gD e)).trans (cl.g _ _ e);have tm:Tab Pt1 bh (upd Hl D (.lst [])):=cl.t1.keepW λb o no e=>(ad λz=>by rw[z,cl.eD] at e;cases e;exact no _ rfl).trans e;generalize upd Hl D (.lst [])=Hm at sGm tm ⊢;refine⟨_,rfl,bg1,λw1 hw1=>⟨_,rfl,bg2,λtp0 htp=>⟨bg1,λw2 hw2=>⟨_,rfl,?_⟩⟩⟩⟩
 right
 exact askQ sGm tm (λH' _ _=>q H') w1 hw1 tp0 htp w2 hw2
end
open PySem L2 Lm Lw
def b1 {α:Type}{p:List α->Prop}(h:∀a,p [a])(us:List α)(hl:us.length=1):p us:=match us,hl with | [a],_=>h a
def b2 {α:Type}{p:List α->Prop}(h:∀a b,p [a,b])(us:List α)(hl:us.length=2):p us:=match us,hl with | [a,b],_=>h a b
def b3 {α:Type}{p:List α->Prop}(h:∀a b c,p [a,b,c])(us:List α)(hl:us.length=3):p us:=match us,hl with | [a,b,c],_=>h a b c
def b4 {α:Type}{p:List α->Prop}(h:∀a b c d,p [a,b,c,d])(us:List α)(hl:us.length=4):p us:=match us,hl with | [a,b,c,d],_=>h a b c d
def b5 {α:Type}{p:List α->Prop}(h:∀a b c d e,p [a,b,c,d,e])(us:List α)(hl:us.length=5):p us:=match us,hl with | [a,b,c,d,e],_=>h a b c d e
def aN {P:Program}{w:World}{K:Frag}{mg:Str->Option Value}{base:Heap}{j k:Nat}{x:Str}{ps:List Str}{sp:Sp}(D:Def P w K mg base j x ps sp)(h:j<=k:=by omega):Def P w K mg base k x ps sp:=let ⟨f,fd,a,r⟩:=D.ex;⟨f,fd,a.mono h,r⟩
def rj {P:Program}{w:World}{K:Frag}{mg:Str->Option Value}{base:Heap}{j k:Nat}{β:Type}{m:Str}{R:Hp->Addr->β->Prop}{ok:β->Prop}{post:β->Hp->V->Hp->Prop}(M:MV P w K mg base j m R ok post)(h:j<=k):MV P w K mg base k m R ok post:=λb hb H a x=>let ⟨C,dx,fs,sp,e1,e2,V,g⟩:=M b hb H a x;⟨C,dx,fs,sp,e1,e2,V.mono h,g⟩
def cB:Nat->Int
 |0=>200000
 |n+1=>2 * cB n+200000
def lm:∀n,0<=cB n
 |0=>by decide
 |n+1=>by have:=lm n;show (0:Int)<=2 * cB n+200000;omega
def kB:Nat->Nat
 |0=>1000
 |n+1=>2 * kB n+1000
def zM (n:Nat)(h:n<=4):cB n<=100000000:=by
 have:n=0 ∨ n=1 ∨ n=2 ∨ n=3 ∨ n=4:=by omega
 rcases this with rfl |rfl |rfl |rfl |rfl <;> decide
def zN (n:Nat)(h:n<=4):kB n<=100000:=by
 have:n=0 ∨ n=1 ∨ n=2 ∨ n=3 ∨ n=4:=by omega
 rcases this with rfl |rfl |rfl |rfl |rfl <;> decide
def tQ {P:Program}{w:World}{K:Frag}{mg:Str->Option Value}{base:Heap}{j k:Nat}{c:Cb}(M:MTx P w K mg base j c)(h:j<=k):MTx P w K mg base k c:=λb hb hl G H a ha s=>let ⟨C,dx,fs,sp,e1,e2,V,g⟩:=M b hb hl G H a ha s;⟨C,dx,fs,sp,e1,e2,V.mono h,g⟩
def jD {P:Program}{w:World}{K:Frag}{mg:Str->Option Value}{base:Heap}{k:Nat}{C:Addr}{m:Str}{ps:List Str}{sp sp':Sp}(V:MethV P w K mg base k C m ps sp)(h:∀vs H Q E,sp' vs H Q E->sp vs H Q E):MethV P w K mg base k C m ps sp':=let ⟨f,fd,a,b,F,c⟩:=V.ex;⟨f,fd,a,b,F.imp h,c⟩
structure FnIn (K:Frag)(x:Str)(st:Stmt)(p:Value->Prop):Prop where
 ex:∃(f:Addr) (oc:Value) (od:Option Addr) (kV dc pm:Value) (an:Option Addr) (cd ct:Value) (sl:Array (Option Value)),nsIn K mainGlobals x=some (some (.ref f)) ∧
  K.lookup f=some ⟨oc,od, .func (fnOf x x (aQ st) (aG st) (ab st) .none kV dc pm an cd ct),sl⟩/\codeIn K cd x=true/\keepIn K (.ref f)=true/\p cd
def fnIn_mk {K:Frag}{x:Str}{st:Stmt}{p:Value->Prop}{f:Addr}{oc:Value}{od:Option Addr}{kV dc pm:Value}{an:Option Addr}{cd ct:Value}{sl:Array (Option Value)}(a:nsIn K mainGlobals x=some (some (.ref f)))
  (l:K.lookup f=some ⟨oc,od, .func (fnOf x x (aQ st) (aG st) (ab st) .none kV dc pm an cd ct),sl⟩)(c:codeIn K cd x=true)(k:keepIn K (.ref f)=true)(q:p cd):FnIn K x st p:=
 ⟨f,oc,od,kV,dc,pm,an,cd,ct,sl,a,l,c,k,q⟩
def FnIn.drop {K:Frag}{Ps:List Addr}{x:Str}{st:Stmt}{p:Value->Prop}(h:lB K Ps)(F:FnIn K x st p):FnIn (dropK K Ps) x st p:=by
 obtain⟨f,oc,od,kV,dc,pm,an,cd,ct,sl,a,l,c,kp,q⟩:=F.ex;have l':(dropK K Ps).lookup f=some ⟨oc,od, .func (fnOf x x (aQ st) (aG st) (ab st) .none kV dc pm an cd ct),sl⟩:=gj h l (λz=>by injection z with _ _ z _;cases z);refine⟨f,oc,od,kV,dc,pm,an,cd,ct,sl,by rw[nsIn_drop h];exact a,l',by rw[gk h];exact c,?_,q⟩;show (match (dropK K Ps).lookup f with |some ⟨_,_, .func _,_⟩=>true |some ⟨_,_, .cls _,_⟩=>specialIn (dropK K Ps) (.ref f) "__call__"==some (some (.builtin "type.__call__")) |_=>false)=true;rw[l']
section
variable {P:Program}{w:World}{K:Frag}{h:Heap}{mg:Str->Option Value}{base:Heap}{x:Str}{st:Stmt}{ps:List Str}{k:Nat}{sp:Sp}
def rk {p:Value->Prop}(X:K.In h)(G:h.Ns mainGlobals mg)(F:FnIn K x st p)
  (ok:∀f fd,Fun K x x st f fd->p fd.code->FnOk P w K mg base CX0 k f fd ps sp)
  (hb:∀(kV doc pm:Value)(an:Option Addr)(cdv ct:Value)(us:List Value),us.length=ps.length->bindArgs (fnOf x x (aQ st) (aG st) (ab st) .none kV doc pm an cdv ct) ⟨us,[]⟩=pure (ps.zip us):=by first |exact λ_ _ _ _ _ _=>b1 λ_=>rfl |exact λ_ _ _ _ _ _=>b2 λ_ _=>rfl |exact λ_ _ _ _ _ _=>b3 λ_ _ _=>rfl |exact λ_ _ _ _ _ _=>b4 λ_ _ _ _=>rfl |exact λ_ _ _ _ _ _=>b5 λ_ _ _ _ _=>rfl):Def P w K mg base k x ps sp:=by
 obtain⟨f,oc,od,kV,dc,pm,an,cd,ct,sl,a,l,c,kp,q⟩:=F.ex;have F1:=mD (st:=st) l c kp;exact⟨f,_,ok f _ F1 q,mg_of X G a,F1.kp,F1.binds hb⟩
end
def spNo:Sp:=λ_ _ _ _=>False
def ic {P:Program}{w:World}{K:Frag}{mg:Str->Option Value}{base:Heap}{k:Nat}{ps:List Str}{CX:CXT}{f:Addr}{fd:FuncData}:FnOk P w K mg base CX k f fd ps spNo:=⟨λ_ _ _ _ z=>z.elim,λ_ _ _ _ _ _ _ _ _ _ _ _ _ z=>z.elim⟩
def cst_mk {K:Frag}{x:Str}{p:Value->Prop}{v:Value}(e:nsIn K mainGlobals x=some (some v))(f:p v):∃v,nsIn K mainGlobals x=some (some v)/\p v:=⟨v,e,f⟩
def ownx_VE {K:Frag}{C:Addr}(q:excIn K C [.type "ValueError", .type "Exception", .type "BaseException", .type "object"] "ValueError.__new__"=true):OwnX K C:=⟨_,_,_,_,q,PySem.F.excBase_ValueError⟩
structure MIn (K:Frag)(C:Addr)(x qual:Str)(st:Stmt):Prop where
 ex:∃(f:Addr) (oc:Value) (od:Option Addr) (kV dc pm:Value) (an:Option Addr) (cd ct:Value) (sl:Array (Option Value)),findIn K (.ref C) x=some (some (.ref f))/\isFn K (.ref f)=true ∧
  K.lookup f=some ⟨oc,od, .func (fnOf x qual (aQ st) (aG st) (ab st) .none kV dc pm an cd ct),sl⟩/\codeIn K cd qual=true/\keepIn K (.ref f)=true
def uJ {P:Program}{w:World}{K:Frag}{mg:Str->Option Value}{base:Heap}{x qual:Str}{C:Addr}{st:Stmt}{ps:List Str}{k:Nat}{sp:Sp}(hm:mg x=some (.ref C))(mk:makesIn K C=true)(kc:keepIn K (.ref C)=true)(M:MIn K C "__init__" qual st)
  (ok:∀f fd,Fun K "__init__" qual st f fd->FnOk P w K mg base CX0 k f fd ps sp)
  (hb:∀(kV doc pm:Value)(an:Option Addr)(cdv ct:Value)(us:List Value),us.length=ps.length->bindArgs (fnOf "__init__" qual (aQ st) (aG st) (ab st) .none kV doc pm an cdv ct) ⟨us,[]⟩=pure (ps.zip us):=by first |exact λ_ _ _ _ _ _=>b1 λ_=>rfl |exact λ_ _ _ _ _ _=>b2 λ_ _=>rfl |exact λ_ _ _ _ _ _=>b3 λ_ _ _=>rfl |exact λ_ _ _ _ _ _=>b4 λ_ _ _ _=>rfl |exact λ_ _ _ _ _ _=>b5 λ_ _ _ _ _=>rfl):New P w K mg base k x C ps sp:=by
 obtain⟨f,oc,od,kV,dc,pm,an,cd,ct,sl,a,i,l,c,kp⟩:=M.ex;have F1:=mD (st:=st) l c kp;exact⟨f,_,⟨mk,a,i,kc⟩,ok f _ F1,hm,F1.binds hb⟩
def mz {P:Program}{w:World}{K:Frag}{mg:Str->Option Value}{base:Heap}{x qual:Str}{C:Addr}{st:Stmt}{ps:List Str}{k:Nat}{sp:Sp}(hc:Cls K C)(M:MIn K C x qual st)
  (ok:∀f fd,Fun K x qual st f fd->FnOk P w K mg base CX0 k f fd ps sp)
  (hb:∀(kV doc pm:Value)(an:Option Addr)(cdv ct:Value)(us:List Value),us.length=ps.length->bindArgs (fnOf x qual (aQ st) (aG st) (ab st) .none kV doc pm an cdv ct) ⟨us,[]⟩=pure (ps.zip us):=by first |exact λ_ _ _ _ _ _=>b1 λ_=>rfl |exact λ_ _ _ _ _ _=>b2 λ_ _=>rfl |exact λ_ _ _ _ _ _=>b3 λ_ _ _=>rfl |exact λ_ _ _ _ _ _=>b4 λ_ _ _ _=>rfl |exact λ_ _ _ _ _ _=>b5 λ_ _ _ _ _=>rfl):MethV P w K mg base k C x ps sp:=by
 obtain⟨f,oc,od,kV,dc,pm,an,cd,ct,sl,a,i,l,c,kp⟩:=M.ex;have F1:=mD (st:=st) l c kp;exact⟨f,_,hc,⟨a,i,kp⟩,ok f _ F1,F1.binds hb⟩
structure MIn2 (K K2:Frag)(C:Addr)(x qual:Str)(st:Stmt):Prop where
 ex:∃(f:Addr) (oc:Value) (od:Option Addr) (kV dc pm:Value) (an:Option Addr) (cd ct:Value) (sl:Array (Option Value)),findIn K2 (.ref C) x=some (some (.ref f))/\isFn K2 (.ref f)=true ∧
  K.lookup f=some ⟨oc,od, .func (fnOf x qual (aQ st) (aG st) (ab st) .none kV dc pm an cd ct),sl⟩/\codeIn K cd qual=true
def mIn2_mk {K K2:Frag}{C:Addr}{x qual:Str}{st:Stmt}{f:Addr}{oc:Value}{od:Option Addr}{kV dc pm:Value}{an:Option Addr}{cd ct:Value}{sl:Array (Option Value)}(_:findIn K (.ref C) x=some (some (.ref f)))
  (l:K.lookup f=some ⟨oc,od, .func (fnOf x qual (aQ st) (aG st) (ab st) .none kV dc pm an cd ct),sl⟩)(c:codeIn K cd qual=true)(a2:findIn K2 (.ref C) x=some (some (.ref f)))(i2:isFn K2 (.ref f)=true):MIn2 K K2 C x qual st:=
 ⟨f,oc,od,kV,dc,pm,an,cd,ct,sl,a2,i2,l,c⟩
def MIn2.to {K:Frag}{Ps:List Addr}{C:Addr}{x qual:Str}{st:Stmt}(h:lB K Ps)(M:MIn2 K (dropK K Ps) C x qual st):MIn (dropK K Ps) C x qual st:=by
 obtain⟨f,oc,od,kV,dc,pm,an,cd,ct,sl,a,i,l,c⟩:=M.ex;have l':(dropK K Ps).lookup f=some ⟨oc,od, .func (fnOf x qual (aQ st) (aG st) (ab st) .none kV dc pm an cd ct),sl⟩:=gj h l (λz=>by injection z with _ _ z _;cases z);refine⟨f,oc,od,kV,dc,pm,an,cd,ct,sl,a,i,l',by rw[gk h];exact c,?_⟩;show (match (dropK K Ps).lookup f with |some ⟨_,_, .func _,_⟩=>true |some ⟨_,_, .cls _,_⟩=>specialIn (dropK K Ps) (.ref f) "__call__"==some (some (.builtin "type.__call__")) |_=>false)=true;rw[l']
def MIn.meth {K:Frag}{C:Addr}{x qual:Str}{st:Stmt}(M:MIn K C x qual st):∃f,Meth K C x f:=by
 obtain⟨f,oc,od,kV,dc,pm,an,cd,ct,sl,a,i,l,c,kp⟩:=M.ex;exact⟨f,a,i,kp⟩
structure PIn (K:Frag)(C:Addr):Prop where
 mkc:makesIn K C=true
 kc:keepIn K (.ref C)=true
 pg:plainGet K C Str.empty=true
 hd:hasDictIn K C=true
 po:plainOver K C=true
 sa:findIn K (.ref C) "__setattr__"=some (some (.builtin "object.__setattr__"))
 ha:findIn K (.ref C) "__class__"=some (some (.builtin "object.__class__"))
 hn:specialIn K (.builtin "object.__class__") "__get__"=some (some (.builtin "getset_descriptor.__get__"))
 ht:takesIn K (.builtin "object.__class__")=some true
 hm:mroIn K C (.type "object")=some true
def PIn.cls {K:Frag}{C:Addr}(p:PIn K C):Cls K C:=⟨p.pg,p.hd,p.po,p.sa⟩
def PIn.inst {K:Frag}{C:Addr}(p:PIn K C):Inst K C:=⟨p.cls,p.ha,p.hn,p.ht,p.hm⟩
structure Addrs where
 BadName:Addr
 Block:Addr
 Plain:Addr
 Code:Addr
 Strong:Addr
 Link:Addr
 Mark:Addr
 Heading:Addr
 Para:Addr
 Literal:Addr
 Quote:Addr
 Naming:Addr
 Noting:Addr
 Entry:Addr
 Listing:Addr
 Table:Addr
structure ClsT (K2:Frag)(c:Addrs):Prop where
 cc1:nsIn K2 mainGlobals "BadName"=some (some (.ref c.BadName))
 cc2:nsIn K2 mainGlobals "Block"=some (some (.ref c.Block))
 cc3:nsIn K2 mainGlobals "Plain"=some (some (.ref c.Plain))
 cc4:nsIn K2 mainGlobals "Code"=some (some (.ref c.Code))
 cc5:nsIn K2 mainGlobals "Strong"=some (some (.ref c.Strong))
 cc6:nsIn K2 mainGlobals "Link"=some (some (.ref c.Link))
 cc7:nsIn K2 mainGlobals "Mark"=some (some (.ref c.Mark))
 cc8:nsIn K2 mainGlobals "Heading"=some (some (.ref c.Heading))
 cc9:nsIn K2 mainGlobals "Para"=some (some (.ref c.Para))
 cc10:nsIn K2 mainGlobals "Literal"=some (some (.ref c.Literal))
 cc11:nsIn K2 mainGlobals "Quote"=some (some (.ref c.Quote))
 cc12:nsIn K2 mainGlobals "Naming"=some (some (.ref c.Naming))
 cc13:nsIn K2 mainGlobals "Noting"=some (some (.ref c.Noting))
 cc14:nsIn K2 mainGlobals "Entry"=some (some (.ref c.Entry))
 cc15:nsIn K2 mainGlobals "Listing"=some (some (.ref c.Listing))
 cc16:nsIn K2 mainGlobals "Table"=some (some (.ref c.Table))
 xx1:OwnX K2 c.BadName
 pp1:PIn K2 c.Plain
 nn1:findIn K2 (.ref c.Plain) "signs"=some none
 pp2:PIn K2 c.Code
 nn2:findIn K2 (.ref c.Code) "signs"=some none
 pp3:PIn K2 c.Strong
 nn3:findIn K2 (.ref c.Strong) "parts"=some none
 pp4:PIn K2 c.Link
 nn4:findIn K2 (.ref c.Link) "words"=some none
 nn5:findIn K2 (.ref c.Link) "name"=some none
 pp5:PIn K2 c.Mark
 nn6:findIn K2 (.ref c.Mark) "name"=some none
 pp6:PIn K2 c.Heading
 nn7:findIn K2 (.ref c.Heading) "level"=some none
 nn8:findIn K2 (.ref c.Heading) "parts"=some none
 pp7:PIn K2 c.Para
 nn9:findIn K2 (.ref c.Para) "parts"=some none
 pp8:PIn K2 c.Literal
 nn10:findIn K2 (.ref c.Literal) "lines"=some none
 pp9:PIn K2 c.Quote
 nn11:findIn K2 (.ref c.Quote) "blocks"=some none
 pp10:PIn K2 c.Naming
 nn12:findIn K2 (.ref c.Naming) "name"=some none
 nn13:findIn K2 (.ref c.Naming) "target"=some none
 pp11:PIn K2 c.Noting
 nn14:findIn K2 (.ref c.Noting) "name"=some none
 nn15:findIn K2 (.ref c.Noting) "parts"=some none
 pp12:PIn K2 c.Entry
 nn16:findIn K2 (.ref c.Entry) "sign"=some none
 nn17:findIn K2 (.ref c.Entry) "parts"=some none
 nn18:findIn K2 (.ref c.Entry) "entries"=some none
 pp13:PIn K2 c.Listing
 nn19:findIn K2 (.ref c.Listing) "entries"=some none
 pp14:PIn K2 c.Table
 nn20:findIn K2 (.ref c.Table) "head"=some none
 nn21:findIn K2 (.ref c.Table) "sides"=some none
 nn22:findIn K2 (.ref c.Table) "lines"=some none
 jj1:kitOne K2 (.ref c.Plain) (.ref c.Plain)=some true
 jj2:kitOne K2 (.ref c.Plain) (.ref c.Mark)=some false
 jj3:kitOne K2 (.ref c.Code) (.ref c.Plain)=some false
 jj4:kitOne K2 (.ref c.Code) (.ref c.Mark)=some false
 jj5:kitOne K2 (.ref c.Strong) (.ref c.Plain)=some false
 jj6:kitOne K2 (.ref c.Strong) (.ref c.Mark)=some false
 jj7:kitOne K2 (.ref c.Link) (.ref c.Plain)=some false
 jj8:kitOne K2 (.ref c.Link) (.ref c.Mark)=some false
 jj9:kitOne K2 (.ref c.Mark) (.ref c.Plain)=some false
 jj10:kitOne K2 (.ref c.Mark) (.ref c.Mark)=some true
 jj11:kitOne K2 (.ref c.Heading) (.ref c.Block)=some true
 jj12:kitOne K2 (.ref c.Para) (.ref c.Block)=some true
 jj13:kitOne K2 (.ref c.Literal) (.ref c.Block)=some true
 jj14:kitOne K2 (.ref c.Quote) (.ref c.Block)=some true
 jj15:kitOne K2 (.ref c.Naming) (.ref c.Block)=some true
 jj16:kitOne K2 (.ref c.Noting) (.ref c.Block)=some true
 jj17:kitOne K2 (.ref c.Entry) (.ref c.Block)=some false
 jj18:kitOne K2 (.ref c.Listing) (.ref c.Block)=some true
 jj19:kitOne K2 (.ref c.Table) (.ref c.Block)=some true
 mm1:MIn K2 c.Plain "__init__" "Plain.__init__" fo
 mm2:MIn K2 c.Plain "told" "Plain.told" fq
 mm3:MIn K2 c.Plain "raw" "Plain.raw" gT
 mm4:MIn K2 c.Code "__init__" "Code.__init__" gJ
 mm5:MIn K2 c.Code "told" "Code.told" gN
 mm6:MIn K2 c.Code "raw" "Code.raw" jb
 mm7:MIn K2 c.Strong "__init__" "Strong.__init__" dI
 mm8:MIn K2 c.Strong "told" "Strong.told" dJ
 mm9:MIn K2 c.Strong "raw" "Strong.raw" fu
 mm10:MIn K2 c.Link "__init__" "Link.__init__" gK
 mm11:MIn K2 c.Link "told" "Link.told" gQ
 mm12:MIn K2 c.Link "raw" "Link.raw" jc
 mm13:MIn K2 c.Mark "__init__" "Mark.__init__" gM
 mm14:MIn K2 c.Mark "told" "Mark.told" gR
 mm15:MIn K2 c.Mark "raw" "Mark.raw" jd
 mm16:MIn K2 c.Heading "__init__" "Heading.__init__" cX
 mm17:MIn K2 c.Heading "told" "Heading.told" c7
 mm18:MIn K2 c.Heading "written" "Heading.written" g8
 mm19:MIn K2 c.Para "__init__" "Para.__init__" gY
 mm20:MIn K2 c.Para "told" "Para.told" gZ
 mm21:MIn K2 c.Para "written" "Para.written" qh
 mm22:MIn K2 c.Literal "__init__" "Literal.__init__" cY
 mm23:MIn K2 c.Literal "told" "Literal.told" c8
 mm24:MIn K2 c.Literal "written" "Literal.written" g9
 mm25:MIn K2 c.Quote "__init__" "Quote.__init__" fv
 mm26:MIn K2 c.Quote "told" "Quote.told" fy
 mm27:MIn K2 c.Quote "written" "Quote.written" ji
 mm28:MIn K2 c.Naming "__init__" "Naming.__init__" dM
 mm29:MIn K2 c.Naming "told" "Naming.told" dQ
 mm30:MIn K2 c.Naming "written" "Naming.written" jj
 mm31:MIn K2 c.Noting "__init__" "Noting.__init__" dN
 mm32:MIn K2 c.Noting "told" "Noting.told" dR
 mm33:MIn K2 c.Noting "written" "Noting.written" jk
 mm34:MIn K2 c.Entry "__init__" "Entry.__init__" fw
 mm35:MIn K2 c.Entry "told" "Entry.told" fz
 mm36:MIn K2 c.Listing "__init__" "Listing.__init__" cZ
 mm37:MIn K2 c.Listing "told" "Listing.told" c9
 mm38:MIn K2 c.Listing "written" "Listing.written" hE
 mm39:MIn K2 c.Table "__init__" "Table.__init__" fx
 mm40:MIn K2 c.Table "told" "Table.told" fA
 mm41:MIn K2 c.Table "written" "Table.written" jl
 mm42:MIn K2 c.Heading "texts" "Heading.texts" fD
 mm43:MIn K2 c.Heading "walk" "Block.walk" bN
 mm44:MIn K2 c.Para "texts" "Para.texts" mt
 mm45:MIn K2 c.Para "walk" "Block.walk" bN
 mm46:MIn K2 c.Literal "texts" "Block.texts" eN
 mm47:MIn K2 c.Literal "walk" "Block.walk" bN
 mm48:MIn K2 c.Quote "texts" "Block.texts" eN
 mm49:MIn K2 c.Quote "walk" "Quote.walk" fX
 mm50:MIn K2 c.Naming "texts" "Block.texts" eN
 mm51:MIn K2 c.Naming "walk" "Block.walk" bN
 mm52:MIn K2 c.Noting "texts" "Noting.texts" hV
 mm53:MIn K2 c.Noting "walk" "Block.walk" bN
 mm54:MIn K2 c.Listing "texts" "Listing.texts" fF
 mm55:MIn K2 c.Listing "walk" "Block.walk" bN
 mm56:MIn K2 c.Table "texts" "Table.texts" jq
 mm57:MIn K2 c.Table "walk" "Block.walk" bN
structure Top (K:Frag)(c1 c2:Addr):Prop where
 ff1:FnIn K "told_parts" pP (λ_=>True)
 ff2:FnIn K "is_parting_bar" sBar (λ_=>True)
 ff3:FnIn K "words_of" pX (λ_=>True)
 ff4:FnIn K "tidy" vB (λ_=>True)
 ff5:FnIn K "split_cells" pY (λ_=>True)
 ff6:FnIn K "is_name" vD (λ_=>True)
 ff7:FnIn K "name_of" lU (λ_=>True)
 ff8:FnIn K "rest_of_quote" vF (λ_=>True)
 ff9:FnIn K "heading_level" vH (λ_=>True)
 ff10:FnIn K "is_cells" sIsC (λ_=>True)
 ff11:FnIn K "definition_of" sDef (λ_=>True)
 ff12:FnIn K "item_or_plain" vJ (λ_=>True)
 ff13:FnIn K "sort_of" vL (λ_=>True)
 ff14:FnIn K "cell_text" gU (λ_=>True)
 ff15:FnIn K "is_rule" vO (λ_=>True)
 ff16:FnIn K "escaped" ja (λ_=>True)
 ff17:FnIn K "raw_of" pW (λ_=>True)
 ff18:FnIn K "own_cells" sOwn (λ_=>True)
 ff19:FnIn K "told_entries" lY (λ_=>True)
 ff20:FnIn K "told_cells" qf (λ_=>True)
 ff21:FnIn K "quoted" mh (λ_=>True)
 ff22:FnIn K "rows_between" qj (λ_=>True)
 ff23:FnIn K "barred" mi (λ_=>True)
 ff24:FnIn K "written_cell" sWC (λ_=>True)
 ff25:FnIn K "cells_row" sCR (λ_=>True)
 ff26:FnIn K "sides_row" sSR (λ_=>True)
 ff27:FnIn K "entry_rows" sES (λ_=>True)
 ff28:FnIn K "entry_texts" sTxE (λ_=>True)
 ff29:FnIn K "_law_draw" sY (λ_=>True)
 ff30:FnIn K "_law_text" vW (λ_=>True)
 ff31:FnIn K "_law_names" qr (λ_=>True)
 ff32:FnIn K "_law_part" vY (λ_=>True)
 ff33:FnIn K "_law_some" vZ (λ_=>True)
 ff34:FnIn K "_law_parts" qA (λ_=>True)
 ff35:FnIn K "_law_cell" wa (λ_=>True)
 ff36:FnIn K "_law_cells" mq (λ_=>True)
 ff37:FnIn K "_law_table" m3 (λ_=>True)
 ff38:FnIn K "_law_entries" we (λ_=>True)
 ff39:FnIn K "_law_literal" sLit (λ_=>True)
 ff40:FnIn K "_law_block" qD (λ_=>True)
 ff41:FnIn K "_law_blocks" mr (λ_=>True)
 ff42:FnIn K "_law_kept" wo (λ_=>True)
 ff43:FnIn K "_law_part_of" wq (λ_=>True)
 ff44:FnIn K "_law_parts_of" wt (λ_=>True)
 ff45:FnIn K "_law_cells_of" wu (λ_=>True)
 ff46:FnIn K "_law_entries_of" wx (λ_=>True)
 ff47:FnIn K "_law_block_of" wy (λ_=>True)
 ff48:FnIn K "_law_alike" qQ (λ_=>True)
 ff49:FnIn K "_law_entry_texts" wg (λ_=>True)
 ff50:FnIn K "_law_texts" sLTx (λ_=>True)
 ff51:FnIn K "_law_texts_right" sTxR (λ_=>True)
 ff52:FnIn K "_law_order" sOrd (λ_=>True)
 ff53:FnIn K "_law_keeper" ia (λcd=>cd = .ref c1)
 ff54:FnIn K "_law_asker" lf (λcd=>cd = .ref c2)
 ff55:FnIn K "_law_walked" jB (λ_=>True)
 ff56:FnIn K "law" fO (λ_=>True)
 nn23:nsIn K mainGlobals "list"=some none
 nn24:nsIn K mainGlobals "len"=some none
 nn25:nsIn K mainGlobals "isinstance"=some none
 nn26:nsIn K mainGlobals "all"=some none
 nn27:nsIn K mainGlobals "str"=some none
 nn28:nsIn K mainGlobals "tuple"=some none
 nn29:nsIn K mainGlobals "range"=some none
 nn30:nsIn K mainGlobals "int"=some none
 nn31:nsIn K mainGlobals "enumerate"=some none
 nn32:nsIn K mainGlobals "bool"=some none
 nn33:nsIn K mainGlobals "zip"=some none
 gg1:∃v,nsIn K mainGlobals "NAME_SIGNS"=some (some v)/\∃t,v = .str (S nameSigns) t
 gg2:∃v,nsIn K mainGlobals "LONGEST_NAME"=some (some v)/\∃t,v = .int 12 t
 gg3:∃v,nsIn K mainGlobals "FENCE"=some (some v)/\∃t,v = .str (S [126,126,126]) t
 gg4:∃v,nsIn K mainGlobals "DEEPEST_HEADING"=some (some v)/\∃t,v = .int 3 t
 gg5:∃v,nsIn K mainGlobals "NAME_END"=some (some v)/\∃t,v = .str (S [93,58,32]) t
 gg6:∃v,nsIn K mainGlobals "ESCAPED"=some (some v)/\∃t,v = .str (S escC) t
def Top.drop {K:Frag}{Ps:List Addr}{c1 c2:Addr}(h:lB K Ps)(t:Top K c1 c2):Top (dropK K Ps) c1 c2 where
 ff1:=t.ff1.drop h
 ff2:=t.ff2.drop h
 ff3:=t.ff3.drop h
 ff4:=t.ff4.drop h
 ff5:=t.ff5.drop h
 ff6:=t.ff6.drop h
 ff7:=t.ff7.drop h
 ff8:=t.ff8.drop h
 ff9:=t.ff9.drop h
 ff10:=t.ff10.drop h
 ff11:=t.ff11.drop h
 ff12:=t.ff12.drop h
 ff13:=t.ff13.drop h
 ff14:=t.ff14.drop h
 ff15:=t.ff15.drop h
 ff16:=t.ff16.drop h
 ff17:=t.ff17.drop h
 ff18:=t.ff18.drop h
 ff19:=t.ff19.drop h
 ff20:=t.ff20.drop h
 ff21:=t.ff21.drop h
 ff22:=t.ff22.drop h
 ff23:=t.ff23.drop h
 ff24:=t.ff24.drop h
 ff25:=t.ff25.drop h
 ff26:=t.ff26.drop h
 ff27:=t.ff27.drop h
 ff28:=t.ff28.drop h
 ff29:=t.ff29.drop h
 ff30:=t.ff30.drop h
 ff31:=t.ff31.drop h
 ff32:=t.ff32.drop h
 ff33:=t.ff33.drop h
 ff34:=t.ff34.drop h
 ff35:=t.ff35.drop h
 ff36:=t.ff36.drop h
 ff37:=t.ff37.drop h
 ff38:=t.ff38.drop h
 ff39:=t.ff39.drop h
 ff40:=t.ff40.drop h
 ff41:=t.ff41.drop h
 ff42:=t.ff42.drop h
 ff43:=t.ff43.drop h
 ff44:=t.ff44.drop h
 ff45:=t.ff45.drop h
 ff46:=t.ff46.drop h
 ff47:=t.ff47.drop h
 ff48:=t.ff48.drop h
 ff49:=t.ff49.drop h
 ff50:=t.ff50.drop h
 ff51:=t.ff51.drop h
 ff52:=t.ff52.drop h
 ff53:=t.ff53.drop h
 ff54:=t.ff54.drop h
 ff55:=t.ff55.drop h
 ff56:=t.ff56.drop h
 nn23:=by rw[nsIn_drop h];exact t.nn23
 nn24:=by rw[nsIn_drop h];exact t.nn24
 nn25:=by rw[nsIn_drop h];exact t.nn25
 nn26:=by rw[nsIn_drop h];exact t.nn26
 nn27:=by rw[nsIn_drop h];exact t.nn27
 nn28:=by rw[nsIn_drop h];exact t.nn28
 nn29:=by rw[nsIn_drop h];exact t.nn29
 nn30:=by rw[nsIn_drop h];exact t.nn30
 nn31:=by rw[nsIn_drop h];exact t.nn31
 nn32:=by rw[nsIn_drop h];exact t.nn32
 nn33:=by rw[nsIn_drop h];exact t.nn33
 gg1:=by obtain⟨v,e,k⟩:=t.gg1;exact⟨v,by rw[nsIn_drop h];exact e,k⟩
 gg2:=by obtain⟨v,e,k⟩:=t.gg2;exact⟨v,by rw[nsIn_drop h];exact e,k⟩
 gg3:=by obtain⟨v,e,k⟩:=t.gg3;exact⟨v,by rw[nsIn_drop h];exact e,k⟩
 gg4:=by obtain⟨v,e,k⟩:=t.gg4;exact⟨v,by rw[nsIn_drop h];exact e,k⟩
 gg5:=by obtain⟨v,e,k⟩:=t.gg5;exact⟨v,by rw[nsIn_drop h];exact e,k⟩
 gg6:=by obtain⟨v,e,k⟩:=t.gg6;exact⟨v,by rw[nsIn_drop h];exact e,k⟩
def all_law {P:Program}{w:World}{K:Frag}{h:Heap}{mg:Str->Option Value}{fa c1 c2 Pt1 Pt2:Addr}(X:K.In h)(G:h.Ns mainGlobals mg)(hfa:mg "law"=some (.ref fa))(t:Top K c1 c2)(tc:∃c:Addrs,ClsT K c):
  ∃fd:FuncData,(∀(s:Shared) (v:Value),BindsTo s fd ⟨[v],[]⟩ [("_law_script",v)])/\∀base:Heap,K.In base->base.Ns mainGlobals mg->(∀q∈[(c1,Pt1),(c2,Pt2)],CodeHd base q.1 q.2/\base.BuiltinsAt mg q.2)->FnOk P w K mg base CX0 80 fa fd ["_law_script"] (spLaw12 K Pt1 Pt2):=by
 obtain⟨z,L⟩:=tc
 let cp:Cp:=⟨0,z.Plain,z.Code,z.Strong,z.Link,z.Mark⟩
 let c:Cb:=⟨cp,z.Heading,z.Para,z.Literal,z.Quote,z.Naming,z.Noting,z.Entry,z.Listing,z.Table⟩
 have u10:=mg_none_of X G t.nn23;have g10:=mg_none_of X G t.nn24;have q10:=mg_none_of X G t.nn25;have z11:=mg_none_of X G t.nn26;have z14:=mg_none_of X G t.nn27;have u12:=mg_none_of X G t.nn28;have u11:=mg_none_of X G t.nn29;have g16:=mg_none_of X G t.nn30;have q14:=mg_none_of X G t.nn31;have z13:=mg_none_of X G t.nn32;have q15:=mg_none_of X G t.nn33;have u15:∃t,mg "NAME_SIGNS"=some (.str (S nameSigns) t):=by obtain⟨v,e,k,rfl⟩:=t.gg1;exact⟨k,mg_of X G e⟩
 have g15:∃t,mg "LONGEST_NAME"=some (.int 12 t):=by obtain⟨v,e,k,rfl⟩:=t.gg2;exact⟨k,mg_of X G e⟩
 have q12:∃t,mg "FENCE"=some (.str (S [126,126,126]) t):=by obtain⟨v,e,k,rfl⟩:=t.gg3;exact⟨k,mg_of X G e⟩
 have z24:∃t,mg "DEEPEST_HEADING"=some (.int 3 t):=by obtain⟨v,e,k,rfl⟩:=t.gg4;exact⟨k,mg_of X G e⟩
 have z20:∃t,mg "NAME_END"=some (.str (S [93,58,32]) t):=by obtain⟨v,e,k,rfl⟩:=t.gg5;exact⟨k,mg_of X G e⟩
 have g22:∃t,mg "ESCAPED"=some (.str (S escC) t):=by obtain⟨v,e,k,rfl⟩:=t.gg6;exact⟨k,mg_of X G e⟩
 have q24:=mg_of X G L.cc1;have u16:=mg_of X G L.cc2;have q20:=mg_of X G L.cc3;have c_Code:=mg_of X G L.cc4;have c_Strong:=mg_of X G L.cc5;have c_Link:=mg_of X G L.cc6;have u18:=mg_of X G L.cc7;have c_Heading:=mg_of X G L.cc8;have c_Para:=mg_of X G L.cc9;have c_Literal:=mg_of X G L.cc10;have c_Quote:=mg_of X G L.cc11;have c_Naming:=mg_of X G L.cc12;have c_Noting:=mg_of X G L.cc13;have c_Entry:=mg_of X G L.cc14;have c_Listing:=mg_of X G L.cc15;have c_Table:=mg_of X G L.cc16;have T : TxP K mg cp z.BadName := {
  u10:=u10
  g10:=g10
  q10:=q10
  z11:=z11
  z14:=z14
  u12:=u12
  u15:=u15
  g15:=g15
  q24:=q24
  g26:=L.xx1
  q20:=q20
  z16:=L.pp1.inst
  q16:=L.pp2.inst
  u17:=L.pp3.inst
  z12:=L.pp4.inst
  z17:=L.pp5.inst
  u21:=L.nn1
  g21:=L.nn2
  z21:=L.nn3
  q17:=L.nn4
  q21:=L.nn5
  u22:=L.nn6
  z26:=L.jj1
  q26:=L.jj3
  u27:=L.jj5
  z27:=L.jj7
  q27:=L.jj9
 }
 have TR:TxR K mg cp z.BadName:={ T with g22:=g22,u18:=u18,u25:=L.jj2,g25:=L.jj4,z25:=L.jj6,q25:=L.jj8,u26:=L.jj10 };have TB:TxB K mg c z.BadName:={ TR with q12:=q12,q14:=q14,u13:=L.pp6.inst,g18:=L.pp7.inst,z22:=L.pp8.inst,q13:=L.pp9.inst,u14:=L.pp10.inst,g13:=L.pp11.inst,q11:=L.pp12.inst,z18:=L.pp13.inst,g11:=L.pp14.inst,q22:=L.nn7,q18:=L.nn8,u19:=L.nn9,u23:=L.nn10,g14:=L.nn11,g23:=L.nn12,z23:=L.nn13,q23:=L.nn14,g19:=L.nn15,u24:=L.nn16,z19:=L.nn17,q19:=L.nn18,u20:=L.nn19,z15:=L.nn20,g24:=L.nn21,g20:=L.nn22 };have TX:Tx mg:=⟨g10,u11,q10,z11,z14,z13,u12,q14,g16,u10,u15,g15,q12,z24,z20⟩;have TD:TxD mg:=⟨g10,u11,g16⟩;have TE:TxE mg:={ TD with q10:=q10,u12:=u12,u10:=u10,z13:=z13,q15:=q15,z11:=z11 };obtain⟨f,oc,od,kV,dc,pm,an,cd,ct,sl,a,l,cc,kp,_⟩:=t.ff56.ex;have e:=hfa.symm.trans (mg_of X G a);cases e;have core:∀base:Heap,(∀n:Nat,MV P w K mg base (40+n) "told" (BAt c n) (OkB n) (tellsB (dB n)))/\(∀n:Nat,MV P w K mg base (44+3 * n) "written" (BAt c n) (λb=>OkB n b/\RowsOk (cI aS n b)) (rowsV (cI aS n)))/\MTx P w K mg base 9 c/\Def P w K mg base 4 "told_parts" ["parts"] (spTolds cp R2):=λbase=>by
  have dO:=@rk P w K h mg base;have mO:=@mz P w K mg base;have nO:=@uJ P w K mg base;have Dm:=dO X G t.ff18 λf fd F _=>ul F TB;have V_Plain:=mO L.pp1.cls L.mm2 λf fd F=>kr F T;have V_Code:=mO L.pp2.cls L.mm5 λf fd F=>lQ F T;have V_Mark:=mO L.pp5.cls L.mm14 λf fd F=>lR F T;have V_Link:=mO L.pp4.cls L.mm11 λf fd F=>lS F T;have W1:∀{k:Nat},1<=k->∀(p:P1) H a,PCAt cp H a (.one p)->∃C dx fs sp,H a=some (.ins C dx fs)/\fs.lookup ("told":Str)=none/\MethV P w K mg base k C "told" ["self"] sp/\∀Q E,(∀v H',Same H H'->Dn (dif H H') v (dP (.one p))->Q v H')->sp [.ref a] H Q E:=λ{k} hk p H a h=>by
   cases p with
   |plain s=>
    obtain⟨_,dx,e⟩:=id h;exact⟨_,dx,_,_,e,rfl,V_Plain.mono hk,λQ E g=>⟨a,_,rfl,h,⟨s,rfl⟩,g⟩⟩
   |code s=>
    obtain⟨_,dx,e⟩:=id h;exact⟨_,dx,_,_,e,rfl,V_Code.mono hk,λQ E g=>⟨a,_,rfl,h,⟨s,rfl⟩,g⟩⟩
   |link s n=>
    obtain⟨_,_,dx,e⟩:=id h;exact⟨_,dx,_,_,e,rfl,V_Link.mono hk,λQ E g=>⟨a,_,rfl,h,⟨s,n,rfl⟩,g⟩⟩
   |note s=>
    obtain⟨_,dx,e⟩:=id h;exact⟨_,dx,_,_,e,rfl,V_Mark.mono hk,λQ E g=>⟨a,_,rfl,h,⟨s,rfl⟩,g⟩⟩
  have M1:vt P w K mg base 1 cp R1:=λp hp H a h=>by
   cases p with
   |one p=>exact W1 (l7 1) p H a h
   |strong ps=>exact absurd hp (by unfold R1;simp[one?])
  have Yx:Def P w K mg base 2 "told_parts" ["parts"] (spTolds cp R1):=dO X G t.ff1 λf fd F _=>mM F M1;have V_Strong:MethV P w K mg base 3 cp.Strong "told" ["self"] (spTold cp λp=>∃ps,p = .strong ps/\ps.length<=100000):=mO L.pp3.cls L.mm8  λf fd F=>i6 F T Yx;have M2:vt P w K mg base 3 cp R2:=λp hp H a h=>by
   cases p with
   |one p=>exact W1 ∅ p H a h
   |strong ps=>
    obtain⟨dx,l,as,e,_⟩:=id h;exact⟨_,dx,_,_,e,rfl,V_Strong,λQ E g=>⟨a,_,rfl,h,⟨ps,rfl,hp⟩,g⟩⟩
  have Dc:Def P w K mg base 4 "told_parts" ["parts"] (spTolds cp R2):=dO X G t.ff1 λf fd F _=>mM F M2;have Ds:=dO X G t.ff16 λf fd F _=>oh F TR;have R_Plain:=(mO L.pp1.cls L.mm3 λf fd F=>lT F TR Ds).mono (show _<=2 by decide);have R_Code:=(mO L.pp2.cls L.mm6 λf fd F=>oj F TR).mono (show _<=2 by decide);have R_Mark:=(mO L.pp5.cls L.mm15 λf fd F=>ol F TR).mono (show _<=2 by decide);have R_Link:=(mO L.pp4.cls L.mm12 λf fd F=>om F TR Ds).mono (show _<=2 by decide);have W3:∀{k:Nat},2<=k->∀(p:P1),(rawP (.one p)).length<=100000->∀H a,PCAt cp H a (.one p)->∃C dx fs sp,H a=some (.ins C dx fs)/\fs.lookup ("raw":Str)=none/\MethV P w K mg base k C "raw" ["self"] sp/\∀Q E,(∀H',Same H H'->Q (vS (rawP (.one p))) H')->sp [.ref a] H Q E:=λ{k} hk p hz H a h=>by
   cases p with
   |plain s=>
    obtain⟨_,dx,e⟩:=id h;exact⟨_,dx,_,_,e,rfl,R_Plain.mono hk,λQ E g=>⟨a,_,rfl,h,⟨s,rfl⟩,hz,g⟩⟩
   |code s=>
    obtain⟨_,dx,e⟩:=id h;exact⟨_,dx,_,_,e,rfl,R_Code.mono hk,λQ E g=>⟨a,_,rfl,h,⟨s,rfl⟩,hz,g⟩⟩
   |link s n=>
    obtain⟨_,_,dx,e⟩:=id h;exact⟨_,dx,_,_,e,rfl,R_Link.mono hk,λQ E g=>⟨a,_,rfl,h,⟨s,n,rfl⟩,hz,g⟩⟩
   |note s=>
    obtain⟨_,dx,e⟩:=id h;exact⟨_,dx,_,_,e,rfl,R_Mark.mono hk,λQ E g=>⟨a,_,rfl,h,⟨s,rfl⟩,hz,g⟩⟩
  have RN1:RawV P w K mg base 2 cp R1:=λp hp hz H a h=>by
   cases p with
   |one p=>exact W3 (l7 2) p hz H a h
   |strong ps=>exact absurd hp (by unfold R1;simp[one?])
  have Yy:Def P w K mg base 3 "raw_of" ["parts"] (spRaws cp R1):=dO X G t.ff17 λf fd F _=>mS F TR RN1;have R_Strong:MethV P w K mg base 4 cp.Strong "raw" ["self"] (spRaw cp λp=>∃ps,p = .strong ps/\ps.length<=100000):=mO L.pp3.cls L.mm9  λf fd F=>ku F TR Yy;have RN2:RawV P w K mg base 4 cp R2:=λp hp hz H a h=>by
   cases p with
   |one p=>exact W3 ∅ p hz H a h
   |strong ps=>
    obtain⟨dx,l,as,e,_⟩:=id h;exact⟨_,dx,_,_,e,rfl,R_Strong,λQ E g=>⟨a,_,rfl,h,⟨ps,rfl,hp⟩,hz,g⟩⟩
  have De:Def P w K mg base 5 "raw_of" ["parts"] (spRaws cp R2):=dO X G t.ff17 λf fd F _=>mS F TR RN2;have Du:=dO X G t.ff2 λf fd F _=>ye F;have Dt:=dO X G t.ff3 λf fd F _=>sM F;have Di:=dO X G t.ff4 λf fd F _=>vC F Dt;have DW:=dO X G t.ff5 λf fd F _=>sN F TX Du Di;have Dp:=dO X G t.ff6 λf fd F _=>vE F TX;have DJ:=dO X G t.ff7 λf fd F _=>pZ F TX Dp;have DT:=dO X G t.ff8 λf fd F _=>vG F;have DU:=dO X G t.ff9 λf fd F _=>vI F TX;have DV:=dO X G t.ff10 λf fd F _=>yf F TX Du;have DX:=dO X G t.ff11 λf fd F _=>yh F TX Dt Dp DJ;have DY:=dO X G t.ff12 λf fd F _=>vK F TX Di;have Ya:=dO X G t.ff13 λf fd F _=>vM F TX Di DT DU DV DW DX DY;have Yd:=dO X G t.ff14 λf fd F _=>lV F;have Ye:=dO X G t.ff15 λf fd F _=>vP F;have Yc:=dO X G t.ff21 λf fd F _=>qi F;have Dv:=dO X G t.ff23 λf fd F _=>qo F;have Yf:Def P w K mg base 6 "written_cell" ["parts"] (spWC c):=dO X G t.ff24 λf fd F _=>zx F De Yd Ye;have DL:=dO X G t.ff25 λf fd F _=>zy F Dv Yf;have Yg:=dO X G t.ff26 λf fd F _=>zA F Dv;have DK:Def P w K mg base 5 "told_cells" ["cells"] (spTC c):=dO X G t.ff20 λf fd F _=>sP F Dc;have I_te:∀n:Nat,Def P w K mg base (2+6 * n) "told_entries" ["entries"] (spTEs c n):=λn=>by
   induction n with
   |zero=>exact dO X G t.ff19 λf fd F _=>kJ F (k:=1) (λz=>nomatch z)
   |succ n ih=>
    have V:=mO L.pp12.cls L.mm35  λf fd F=>kK F TB Dc ih;have M:MV P w K mg base (2+6 * n+5) "told" (EAt c (n+1)) (OkE (n+1)) (tellsB (dE (n+1))):=λb hb H a h=>by
     obtain⟨dx,l,m,e,_⟩:=id h;exact⟨_,dx,_,_,e,rfl,V,λQ E g=>⟨a,b,rfl,h,hb,λv H' s d=>g v H' ⟨s,d⟩⟩⟩
    exact dO X G t.ff19 λf fd F _=>kJ F M
  have Yz:Def P w K mg base 1 "entry_rows" p18 spNo:=dO X G t.ff27 λf fd F _=>ic;have I_es:∀n:Nat,Def P w K mg base (7+6 * n) "entry_rows" p18 (spES c n):=λn=>by
   induction n with
   |zero=>exact dO X G t.ff27 λf fd F _=>yk 0 F TB De Yz trivial
   |succ n ih=>
    exact dO X G t.ff27 λf fd F _=>yk (n+1) F TB De ih λ_ _ _ _ h=>h
  have TS:∀{β:Type} (R:Hp->Addr->β->Prop) (fB:β->PyData) (ok:β->Prop) (k:Nat),MoR R->39<=k->MV P w K mg base k "told" R ok (tellsB fB)->MV P w K mg base (k+1) "told" (BAtF c R) (OkBF ok) (tellsB (dBF fB)):=λ{β} R fB ok k mR hk hM b hb H a h=>by
   cases b with
   |heading n ps=>
    obtain⟨dx,l,e,_⟩:=id h;exact⟨_,dx,_,_,e,rfl,(mO L.pp6.cls L.mm17  λf fd F=>iu (R:=R) (fB:=fB) (ok:=ok) F TB Dc).mono nofun,λQ E g=>⟨a,_,rfl,h,⟨n,ps,rfl⟩,hb,λv H' s d=>g v H' ⟨s,d⟩⟩⟩
   |para ps=>
    obtain⟨dx,l,e,_⟩:=id h;exact⟨_,dx,_,_,e,rfl,(mO L.pp7.cls L.mm20  λf fd F=>lX (R:=R) (fB:=fB) (ok:=ok) F TB Dc).mono nofun,λQ E g=>⟨a,_,rfl,h,⟨ps,rfl⟩,hb,λv H' s d=>g v H' ⟨s,d⟩⟩⟩
   |lst es=>
    obtain⟨dx,l,e,_⟩:=id h;exact⟨_,dx,_,_,e,rfl,(mO L.pp13.cls L.mm37  λf fd F=>iy (R:=R) (fB:=fB) (ok:=ok) F TB (I_te 6)).mono nofun,λQ E g=>⟨a,_,rfl,h,⟨es,rfl⟩,hb,λv H' s d=>g v H' ⟨s,d⟩⟩⟩
   |table hd sd ls=>
    obtain⟨dx,l1,l2,l3,e,_⟩:=id h;exact⟨_,dx,_,_,e,rfl,(mO L.pp14.cls L.mm40  λf fd F=>kM (R:=R) (fB:=fB) (ok:=ok) F TB DK).mono nofun,λQ E g=>⟨a,_,rfl,h,⟨hd,sd,ls,rfl⟩,hb,λv H' s d=>g v H' ⟨s,d⟩⟩⟩
   |lit ls=>
    obtain⟨dx,l,e,_⟩:=id h;exact⟨_,dx,_,_,e,rfl,(mO L.pp8.cls L.mm23  λf fd F=>iw (R:=R) (fB:=fB) (ok:=ok) F TB).mono nofun,λQ E g=>⟨a,_,rfl,h,⟨ls,rfl⟩,hb,λv H' s d=>g v H' ⟨s,d⟩⟩⟩
   |quote bs=>
    obtain⟨dx,l,e,_⟩:=id h;exact⟨_,dx,_,_,e,rfl,(mO L.pp9.cls L.mm26  λf fd F=>kL F TB hM mR).mono nofun,λQ E g=>⟨a,_,rfl,h,⟨bs,rfl⟩,hb,λv H' s d=>g v H' ⟨s,d⟩⟩⟩
   |name n t=>
    obtain⟨dx,e⟩:=id h;exact⟨_,dx,_,_,e,rfl,(mO L.pp10.cls L.mm29  λf fd F=>jh (R:=R) (fB:=fB) (ok:=ok) F TB).mono nofun,λQ E g=>⟨a,_,rfl,h,⟨n,t,rfl⟩,hb,λv H' s d=>g v H' ⟨s,d⟩⟩⟩
   |note n ps=>
    obtain⟨dx,l,e,_⟩:=id h;exact⟨_,dx,_,_,e,rfl,(mO L.pp11.cls L.mm32  λf fd F=>jg (R:=R) (fB:=fB) (ok:=ok) F TB Dc).mono nofun,λQ E g=>⟨a,_,rfl,h,⟨n,ps,rfl⟩,hb,λv H' s d=>g v H' ⟨s,d⟩⟩⟩
  have WS:∀{β:Type} (R:Hp->Addr->β->Prop) (fr:β->List (List Nat)) (ok:β->Prop) (k:Nat),MoR R->41<=k->MV P w K mg base k "written" R (λb=>ok b/\RowsOk (fr b)) (rowsV fr)->MV P w K mg base (k+3) "written" (BAtF c R) (λb=>OkBF ok b/\RowsOk (fN aS fr b)) (rowsV (fN aS fr)):=λ{β} R fr ok k mR hk hM b hb H a h=>by
   have Drb:Def P w K mg base (k+1) "rows_between" ["blocks"] (spRB R fr ok):=dO X G t.ff22 λf fd F _=>sW F TB hM mR;cases b with
   |heading n ps=>
    obtain⟨dx,l,e,_⟩:=id h;exact⟨_,dx,_,_,e,rfl,(mO L.pp6.cls L.mm18  λf fd F=>ma (R:=R) (fr:=fr) (ok:=ok) F TB De).mono nofun,λQ E g=>⟨a,_,rfl,h,⟨n,ps,rfl⟩,hb.1,hb.2,λr H' s n e=>g (.ref r) H' ⟨s,r,rfl,n,e⟩⟩⟩
   |para ps=>
    obtain⟨dx,l,e,_⟩:=id h;exact⟨_,dx,_,_,e,rfl,(mO L.pp7.cls L.mm21  λf fd F=>sV (R:=R) (fr:=fr) (ok:=ok) F TB De Ya).mono nofun,λQ E g=>⟨a,_,rfl,h,⟨ps,rfl⟩,hb.1,hb.2,λr H' s n e=>g (.ref r) H' ⟨s,r,rfl,n,e⟩⟩⟩
   |lst es=>
    obtain⟨dx,l,e,_⟩:=id h;exact⟨_,dx,_,_,e,rfl,(mO L.pp13.cls L.mm38  λf fd F=>mf (R:=R) (fr:=fr) (ok:=ok) F TB (I_es 6)).mono nofun,λQ E g=>⟨a,_,rfl,h,⟨es,rfl⟩,hb.1,hb.2,λr H' s n e=>g (.ref r) H' ⟨s,r,rfl,n,e⟩⟩⟩
   |table hd sd ls=>
    obtain⟨dx,l1,l2,l3,e,_⟩:=id h;exact⟨_,dx,_,_,e,rfl,(mO L.pp14.cls L.mm41  λf fd F=>qp (R:=R) (fr:=fr) (ok:=ok) F TB DL Yg).mono nofun,λQ E g=>⟨a,_,rfl,h,⟨hd,sd,ls,rfl⟩,hb.1,hb.2,λr H' s n e=>g (.ref r) H' ⟨s,r,rfl,n,e⟩⟩⟩
   |lit ls=>
    obtain⟨dx,l,e,_⟩:=id h;exact⟨_,dx,_,_,e,rfl,(mO L.pp8.cls L.mm24  λf fd F=>md (R:=R) (fr:=fr) (ok:=ok) F TB).mono nofun,λQ E g=>⟨a,_,rfl,h,⟨ls,rfl⟩,hb.1,hb.2,λr H' s n e=>g (.ref r) H' ⟨s,r,rfl,n,e⟩⟩⟩
   |quote bs=>
    obtain⟨dx,l,e,_⟩:=id h;exact⟨_,dx,_,_,e,rfl,(mO L.pp9.cls L.mm27  λf fd F=>qk F TB Drb Yc mR).mono nofun,λQ E g=>⟨a,_,rfl,h,⟨bs,rfl⟩,hb.1,hb.2,λr H' s n e=>g (.ref r) H' ⟨s,r,rfl,n,e⟩⟩⟩
   |name n t=>
    obtain⟨dx,e⟩:=id h;exact⟨_,dx,_,_,e,rfl,(mO L.pp10.cls L.mm30  λf fd F=>oo (R:=R) (fr:=fr) (ok:=ok) F TB).mono nofun,λQ E g=>⟨a,_,rfl,h,⟨n,t,rfl⟩,hb.1,hb.2,λr H' s n e=>g (.ref r) H' ⟨s,r,rfl,n,e⟩⟩⟩
   |note n ps=>
    obtain⟨dx,l,e,_⟩:=id h;exact⟨_,dx,_,_,e,rfl,(mO L.pp11.cls L.mm33  λf fd F=>oq (R:=R) (fr:=fr) (ok:=ok) F TB De).mono nofun,λQ E g=>⟨a,_,rfl,h,⟨n,ps,rfl⟩,hb.1,hb.2,λr H' s n e=>g (.ref r) H' ⟨s,r,rfl,n,e⟩⟩⟩
  have MT:∀n:Nat,MV P w K mg base (40+n) "told" (BAt c n) (OkB n) (tellsB (dB n)):=λn=>by
   induction n with
   |zero=>exact TS (λ_ _ (z:Empty)=>nomatch z) (λz=>nomatch z) (λz=>nomatch z) 39 (λ_ _ _ z=>nomatch z) ∅ (λz=>nomatch z)
   |succ n ih=>exact TS (BAt c n) (dB n) (OkB n) (40+n) (dr n) nofun ih
  have MW:∀n:Nat,MV P w K mg base (44+3 * n) "written" (BAt c n) (λb=>OkB n b/\RowsOk (cI aS n b)) (rowsV (cI aS n)):=λn=>by
   induction n with
   |zero=>exact WS (λ_ _ (z:Empty)=>nomatch z) (λz=>nomatch z) (λz=>nomatch z) 41 (λ_ _ _ z=>nomatch z) ∅ (λz=>nomatch z)
   |succ n ih=>exact WS (BAt c n) (cI aS n) (OkB n) (44+3 * n) (dr n) nofun ih
  have YA:Def P w K mg base 1 "entry_texts" ["entries"] spNo:=dO X G t.ff28 λf fd F _=>ic;have I_tx:∀n:Nat,Def P w K mg base (2+n) "entry_texts" ["entries"] (spTxE c n):=λn=>by
   induction n with
   |zero=>exact dO X G t.ff28 λf fd F _=>uw 0 F TB YA trivial
   |succ n ih=>
    exact dO X G t.ff28 λf fd F _=>uw (n+1) F TB ih λ_ _ _ _ h=>h
  have MX:MTx P w K mg base 9 c:=λ{β R ok} b hb hl G H a ha sG=>by
   cases b with
   |heading n ps=>
    obtain⟨dx,l,e,_⟩:=id ha;exact⟨_,dx,_,_,sG _ _ e,rfl,(mO L.pp6.cls L.mm42  λf fd F=>kR (R:=R) (ok:=ok) F TB).mono ∅,λQ E g=>⟨a,_,G,rfl,ha,sG,⟨n,ps,rfl⟩,hb,hl,g⟩⟩
   |para ps=>
    obtain⟨dx,l,e,_⟩:=id ha;exact⟨_,dx,_,_,sG _ _ e,rfl,(mO L.pp7.cls L.mm44  λf fd F=>qE (R:=R) (ok:=ok) F TB).mono ∅,λQ E g=>⟨a,_,G,rfl,ha,sG,⟨ps,rfl⟩,hb,hl,g⟩⟩
   |lst es=>
    obtain⟨dx,l,e,_⟩:=id ha;exact⟨_,dx,_,_,sG _ _ e,rfl,(mO L.pp13.cls L.mm54  λf fd F=>kS (R:=R) (ok:=ok) F TB (I_tx 6)).mono ∅,λQ E g=>⟨a,_,G,rfl,ha,sG,⟨es,rfl⟩,hb,hl,g⟩⟩
   |table hd sd ls=>
    obtain⟨dx,l1,l2,l3,e,_⟩:=id ha;exact⟨_,dx,_,_,sG _ _ e,rfl,(mO L.pp14.cls L.mm56  λf fd F=>or (R:=R) (ok:=ok) F TB Dm).mono ∅,λQ E g=>⟨a,_,G,rfl,ha,sG,⟨hd,sd,ls,rfl⟩,hb,hl,g⟩⟩
   |lit ls=>
    obtain⟨dx,l,e,_⟩:=id ha;exact⟨_,dx,_,_,sG _ _ e,rfl,(mO L.pp8.cls L.mm46  λf fd F=>fE (R:=R) (ok:=ok) F (c:=c)).mono ∅,λQ E g=>⟨a,_,G,rfl,ha,sG,rfl,hb,hl,g⟩⟩
   |quote bs=>
    obtain⟨dx,l,e,_⟩:=id ha;exact⟨_,dx,_,_,sG _ _ e,rfl,(mO L.pp9.cls L.mm48  λf fd F=>fE (R:=R) (ok:=ok) F (c:=c)).mono ∅,λQ E g=>⟨a,_,G,rfl,ha,sG,rfl,hb,hl,g⟩⟩
   |name n t=>
    obtain⟨dx,e⟩:=id ha;exact⟨_,dx,_,_,sG _ _ e,rfl,(mO L.pp10.cls L.mm50  λf fd F=>fE (R:=R) (ok:=ok) F (c:=c)).mono ∅,λQ E g=>⟨a,_,G,rfl,ha,sG,rfl,hb,hl,g⟩⟩
   |note n ps=>
    obtain⟨dx,l,e,_⟩:=id ha;exact⟨_,dx,_,_,sG _ _ e,rfl,(mO L.pp11.cls L.mm52  λf fd F=>mv (R:=R) (ok:=ok) F TB).mono ∅,λQ E g=>⟨a,_,G,rfl,ha,sG,⟨n,ps,rfl⟩,hb,hl,g⟩⟩
  exact⟨MT,MW,MX,Dc⟩
 have hWV:∀(kt:Nat) (base:Heap) (g:Addr) (G:Hp) (ok:AnyB->Prop) (M:Nat) (St:List AnyB->Hp->Prop),(∀vis H,St vis H->Same G H)->dC P w K mg base kt g c G ok M St->∀(n:Nat) (b:Bl n),MethV P w K mg base (kt+1+n) (clsB c n b) "walk" p7 (spWk c n g G ok M St λx=>x=b):=λkt base g G ok M St sS hW n=>by
  have mO:=@mz P w K mg base;have wb:∀{n:Nat} {C:Addr} (b:Bl n),PIn K C->MIn K C "walk" "Block.walk" bN->aq n b=[⟨n,b⟩]->MethV P w K mg base (kt+1+n) C "walk" p7 (spWk c n g G ok M St λx=>x=b):=λ{n C} b p m e=>jD ((mO p.cls m λf fd F=>ou (k:=kt) (n:=n) F hW).mono nofun) λvs H Q E ⟨a,b,vis,e1,e2,e3,e4,e5,e6,e7⟩=>⟨a,b,vis,e1,e2,(by rw[e3];exact e),e4,e5,e6,e7⟩
  induction n with
  |zero=>
   intro b;cases (b:BkF Empty) with
   |heading n1 ps=>exact wb _ L.pp6 L.mm43 rfl
   |para ps=>exact wb _ L.pp7 L.mm45 rfl
   |lst es=>exact wb _ L.pp13 L.mm55 rfl
   |table hd sd ls=>exact wb _ L.pp14 L.mm57 rfl
   |lit ls=>exact wb _ L.pp8 L.mm47 rfl
   |quote bs=>
    cases bs with
    |nil=>exact jD ((mO L.pp9.cls L.mm49  λf fd F=>mw F TB sS hW).mono nofun) λvs H Q E ⟨a,b,vis,e1,e2,e3,e4,e5,e6,e7⟩=>⟨a,b,vis,e1,e2,e3,e4,e5,e6,e7⟩
    |cons z _=>exact nomatch z
   |name n1 t1=>exact wb _ L.pp10 L.mm51 rfl
   |note n1 ps=>exact wb _ L.pp11 L.mm53 rfl
  |succ n ih=>
   intro b;cases (b:BkF (Bl n)) with
   |heading n1 ps=>exact wb _ L.pp6 L.mm43 rfl
   |para ps=>exact wb _ L.pp7 L.mm45 rfl
   |lst es=>exact wb _ L.pp13 L.mm55 rfl
   |table hd sd ls=>exact wb _ L.pp14 L.mm57 rfl
   |lit ls=>exact wb _ L.pp8 L.mm47 rfl
   |quote bs=>
    exact jD (mO L.pp9.cls L.mm49  λf fd F=>oy (k:=kt+1+n) (n:=n) nofun F TB sS hW λb H a h=>by
     obtain⟨dx,fs,e,e2⟩:=fG h;exact⟨_,dx,fs,_,e,e2,ih b,λ_ _ _ _ x=>x⟩) λvs H Q E ⟨a,b,vis,e1,e2,e3,e4,e5,e6,e7⟩=>⟨a,b,vis,e1,e2,⟨bs,e3⟩,e4,e5,e6,e7⟩
   |name n1 t1=>exact wb _ L.pp10 L.mm51 rfl
   |note n1 ps=>exact wb _ L.pp11 L.mm53 rfl
 have hCls:∀n (b:Bl n),Cls K (clsB c n b)/\∃f,Meth K (clsB c n b) "walk" f:=λn b=>by
  cases n with
  |zero=>
   cases (b:BkF Empty) with
   |heading n1 ps=>exact⟨L.pp6.cls,L.mm43.meth⟩
   |para ps=>exact⟨L.pp7.cls,L.mm45.meth⟩
   |lst es=>exact⟨L.pp13.cls,L.mm55.meth⟩
   |table hd sd ls=>exact⟨L.pp14.cls,L.mm57.meth⟩
   |lit ls=>exact⟨L.pp8.cls,L.mm47.meth⟩
   |quote bs=>exact⟨L.pp9.cls,L.mm49.meth⟩
   |name n1 t1=>exact⟨L.pp10.cls,L.mm51.meth⟩
   |note n1 ps=>exact⟨L.pp11.cls,L.mm53.meth⟩
  |succ n=>
   cases (b:BkF (Bl n)) with
   |heading n1 ps=>exact⟨L.pp6.cls,L.mm43.meth⟩
   |para ps=>exact⟨L.pp7.cls,L.mm45.meth⟩
   |lst es=>exact⟨L.pp13.cls,L.mm55.meth⟩
   |table hd sd ls=>exact⟨L.pp14.cls,L.mm57.meth⟩
   |lit ls=>exact⟨L.pp8.cls,L.mm47.meth⟩
   |quote bs=>exact⟨L.pp9.cls,L.mm49.meth⟩
   |name n1 t1=>exact⟨L.pp10.cls,L.mm51.meth⟩
   |note n1 ps=>exact⟨L.pp11.cls,L.mm53.meth⟩
 have TWx:TxW K mg c z.Block:={ TE with u16:=u16,tB:=λn b=>?tB,isB:=λn b=>?isB,tE:=L.pp12.inst,isE:=L.jj17 };rotate_left
 ·cases n with
  |zero=>
   cases (b:BkF Empty) with
   |heading n1 ps=>exact L.pp6.inst
   |para ps=>exact L.pp7.inst
   |lst es=>exact L.pp13.inst
   |table hd sd ls=>exact L.pp14.inst
   |lit ls=>exact L.pp8.inst
   |quote bs=>exact L.pp9.inst
   |name n1 t1=>exact L.pp10.inst
   |note n1 ps=>exact L.pp11.inst
  |succ n=>
   cases (b:BkF (Bl n)) with
   |heading n1 ps=>exact L.pp6.inst
   |para ps=>exact L.pp7.inst
   |lst es=>exact L.pp13.inst
   |table hd sd ls=>exact L.pp14.inst
   |lit ls=>exact L.pp8.inst
   |quote bs=>exact L.pp9.inst
   |name n1 t1=>exact L.pp10.inst
   |note n1 ps=>exact L.pp11.inst
 ·cases n with
  |zero=>
   cases (b:BkF Empty) with
   |heading n1 ps=>exact L.jj11
   |para ps=>exact L.jj12
   |lst es=>exact L.jj18
   |table hd sd ls=>exact L.jj19
   |lit ls=>exact L.jj13
   |quote bs=>exact L.jj14
   |name n1 t1=>exact L.jj15
   |note n1 ps=>exact L.jj16
  |succ n=>
   cases (b:BkF (Bl n)) with
   |heading n1 ps=>exact L.jj11
   |para ps=>exact L.jj12
   |lst es=>exact L.jj18
   |table hd sd ls=>exact L.jj19
   |lit ls=>exact L.jj13
   |quote bs=>exact L.jj14
   |name n1 t1=>exact L.jj15
   |note n1 ps=>exact L.jj16
 refine⟨fnOf "law" "law" (aQ fO) (aG fO) (ab fO) .none kV dc pm an cd ct,λs v => .of_eq rfl,λbase _ _ hT=>?_⟩;have dO:=@rk P w K h mg base;have mO:=@mz P w K mg base;have nO:=@uJ P w K mg base;obtain⟨MT,MW,MX,Dc⟩:=core base;have Dm:=dO X G t.ff18 λf fd F _=>ul F TB;have Dl:=nO q20 L.pp1.mkc L.pp1.kc L.mm1 λf fd F=>kq F T;have DQ:=nO c_Code L.pp2.mkc L.pp2.kc L.mm4 λf fd F=>lN F T;have DS:=nO c_Strong L.pp3.mkc L.pp3.kc L.mm7 λf fd F=>i5 F T;have DP:=nO c_Link L.pp4.mkc L.pp4.kc L.mm10 λf fd F=>lP F T;have DR:=nO u18 L.pp5.mkc L.pp5.kc L.mm13 λf fd F=>lO F T;have DA:=nO c_Heading L.pp6.mkc L.pp6.kc L.mm16 λf fd F=>iq F TB;have Dy:=nO c_Para L.pp7.mkc L.pp7.kc L.mm19 λf fd F=>lW F TB;have DC:=nO c_Literal L.pp8.mkc L.pp8.kc L.mm22 λf fd F=>io F TB;have Do:=nO c_Quote L.pp9.mkc L.pp9.kc L.mm25 λf fd F=>kD F TB;have Dx:=nO c_Naming L.pp10.mkc L.pp10.kc L.mm28 λf fd F=>jf F TB;have Dz:=nO c_Noting L.pp11.mkc L.pp11.kc L.mm31 λf fd F=>je F TB;have Dq:=nO c_Entry L.pp12.mkc L.pp12.kc L.mm34 λf fd F=>kF F TB;have DB:=nO c_Listing L.pp13.mkc L.pp13.kc L.mm36 λf fd F=>ip F TB;have DD:=nO c_Table L.pp14.mkc L.pp14.kc L.mm39 λf fd F=>kI F TB Dm;have Da:=dO X G t.ff29 λf fd F _=>vV F TD;have Dg:=dO X G t.ff30 λf fd F _=>vX F TD Da;have Yp:=dO X G t.ff31 λf fd F _=>tq F TD Da;have YB:Def P w K mg base 1 "_law_some" p26 spNo:=dO X G t.ff33 λf fd F _=>ic;have YC:Def P w K mg base 4 "_law_part" p27 (spPart K true):=dO X G t.ff32 λf fd F _=>qt F TD Da Dg YB (λz=>Bool.noConfusion z);have YD:=dO X G t.ff33 λf fd F _=>qv F TD YC;have Yh:Def P w K mg base 8 "_law_part" p27 (spPart K false):=dO X G t.ff32 λf fd F _=>qt F TD Da Dg YD (λ_ _ _ _ _ h=>h);have DG:=dO X G t.ff33 λf fd F _=>qv F TD Yh;have Dh:=dO X G t.ff34 λf fd F _=>tz F TD Da DG;have Yi:=dO X G t.ff35 λf fd F _=>wc F TD Da Dh;have DM:=dO X G t.ff36 λf fd F _=>qB F TD Yi;have DN:=dO X G t.ff37 λf fd F _=>tD F TD Da DM;have DO:=dO X G t.ff39 λf fd F _=>yw F TD Da Dg;have YE:Def P w K mg base 11 "_law_entries" p10 spNo:=dO X G t.ff38 λf fd F _=>ic;have I_en:∀n:Nat,Def P w K mg base (13+2 * n) "_law_entries" p10 (spEnts K (n+1)):=λn=>by
  induction n with
  |zero=>exact dO X G t.ff38 λf fd F _=>qC (n:=0) F TD Da Dh YE (λz=>absurd z ∅)
  |succ n ih=>
   exact dO X G t.ff38 λf fd F _=>qC (m:=13+2 * n) (n:=n+1) F TD Da (aN Dh) ih (λ_ _ _ _ _ h=>h)
 have YF:Def P w K mg base 23 "_law_blocks" p14 spNo:=dO X G t.ff41 λf fd F _=>ic;have I_bk:∀n:Nat,Def P w K mg base (25+4 * n) "_law_block" p10 (spBlockF K (dB n) (GB n) n (cB n)):=λn=>by
  induction n with
  |zero=>exact dO X G t.ff40 λf fd F _=>m4 (m:=23) (g:=λz:Empty=>nomatch z) (ok:=λz:Empty=>nomatch z) (rm:=0) (c:=0) ∅ F TD ∅ Da Dg (aN Dh) (aN (I_en 5) nofun) (aN DN) DO YF (λz=>absurd z ∅)
  |succ n ih=>
   have Db:Def P w K mg base (25+4 * n+2) "_law_blocks" p14 (spBlocksF K (dB n) (GB n) n (cB n)):=dO X G t.ff41 λf fd F _=>kQ (lm n) F TD ih;exact dO X G t.ff40 λf fd F _=>m4 (m:=25+4 * n+2) (rm:=n+1) (lm n) F TD nofun Da Dg (aN Dh) (aN (I_en 5) nofun) (aN DN) DO Db (λ_ _ _ _ _ h=>h)
 have Dw:Def P w K mg base 45 "_law_blocks" p14 (lj K cB):=dO X G t.ff41 λf fd F _=>FnOk.ex λn=>(kQ (lm n.1) F TD (I_bk n.1)).mono (by have:=n.2;omega);have Dd:=dO X G t.ff42 λf fd F _=>wp F;have YG:Def P w K mg base 1 "_law_parts_of" p6 spNo:=dO X G t.ff44 λf fd F _=>ic;have YH:Def P w K mg base 4 "_law_part_of" p6 (spPtOf cp R1 0):=dO X G t.ff43 λf fd F _=>qR F ∅ DP Dl DQ DR DS YG (λps h=>absurd h (by unfold R1;simp[one?]));have YI:Def P w K mg base 7 "_law_parts_of" p6 (spPsOf cp R1 0):=dO X G t.ff44 λf fd F _=>qS F ∅ Dd YH;have Ym:Def P w K mg base 10 "_law_part_of" p6 (spPtOf cp R2 1):=dO X G t.ff43 λf fd F _=>qR F ∅ DP Dl DQ DR DS YI (λps h=>⟨by decide,h,λ_ _ _ _ x=>x⟩);have Df:Def P w K mg base 13 "_law_parts_of" p6 (spPsOf cp R2 1):=dO X G t.ff44 λf fd F _=>qS F ∅ Dd Ym;have Dr:Def P w K mg base 16 "_law_cells_of" p6 (spCsOf cp):=dO X G t.ff45 λf fd F _=>ww F ∅ Dd Df;have YJ:Def P w K mg base 13 "_law_entries_of" p6 spNo:=dO X G t.ff46 λf fd F _=>ic;have I_eo:∀n:Nat,Def P w K mg base (16+3 * n) "_law_entries_of" p6 (spEsOf c n):=λn=>by
  induction n with
  |zero=>exact dO X G t.ff46 λf fd F _=>qT 0 F ∅ Dd Df Dq YJ trivial
  |succ n ih=>
   exact dO X G t.ff46 λf fd F _=>qT (k:=16+3 * n) (n+1) F nofun Dd (aN Df) Dq ih λ_ _ _ _ h=>h
 have Ys:Def P w K mg base 34 "_law_block_of" p6 spNo:=dO X G t.ff47 λf fd F _=>ic;have I_bo:∀n:Nat,Def P w K mg base (37+3 * n) "_law_block_of" p6 (spBkOf (dB n) (BAt c n) (GB n) (kB n)):=λn=>by
  induction n with
  |zero=>exact dO X G t.ff47 λf fd F _=>jx (k:=34) (kc:=0) (g:=λz:Empty=>nomatch z) (R:=λ_ _ (z:Empty)=>nomatch z) (ok:=λz:Empty=>nomatch z) (λ_ _ _ z=>nomatch z) F TB ∅ Dd (aN Df) (aN Dr) (aN (I_eo 6) nofun) Dx Dy Dz DA DB DC Do DD Ys (λz=>nomatch z)
  |succ n ih=>
   exact dO X G t.ff47 λf fd F _=>jx (k:=37+3 * n) (dr n) F TB nofun Dd (aN Df) (aN Dr) (aN (I_eo 6) nofun) Dx Dy Dz DA DB DC Do DD ih (λ_ _ _ _ _ h=>h)
 have DE:Def P w K mg base 52 "_law_block_of" p6 (wH c kB):=dO X G t.ff47 λf fd F _=>FnOk.ex λn:Lv=>match n with |⟨0,_⟩=>(jx (k:=34) (kc:=0) (g:=λz:Empty=>nomatch z) (R:=λ_ _ (z:Empty)=>nomatch z) (ok:=λz:Empty=>nomatch z) (λ_ _ _ z=>nomatch z) F TB ∅ Dd (aN Df) (aN Dr) (aN (I_eo 6) nofun) Dx Dy Dz DA DB DC Do DD Ys (λz=>nomatch z)).mono ∅ |⟨n+1,h⟩=>(jx (k:=37+3 * n) (dr n) F TB nofun Dd (aN Df) (aN Dr) (aN (I_eo 6) nofun) Dx Dy Dz DA DB DC Do DD (I_bo n) (λ_ _ _ _ _ h=>h)).mono nofun
 have YK:Def P w K mg base 1 "_law_alike" p15 spNo:=dO X G t.ff48 λf fd F _=>ic;have I_al:∀n:Nat,Def P w K mg base (3+2 * n) "_law_alike" p15 (spAl n):=λn=>by
  induction n with
  |zero=>exact dO X G t.ff48 λf fd F _=>m9 F TE YK (λj e=>nomatch e)
  |succ n ih=>
   exact dO X G t.ff48 λf fd F _=>m9 F TE ih (λj e _ _ _ _ h=>by cases e;exact h)
 have YL:Def P w K mg base 1 "_law_entry_texts" ["_law_entries_here"] spNo:=dO X G t.ff49 λf fd F _=>ic;have I_lt:∀n:Nat,Def P w K mg base (2+n) "_law_entry_texts" ["_law_entries_here"] (spLTxE n):=λn=>by
  induction n with
  |zero=>exact dO X G t.ff49 λf fd F _=>qL 0 F YL trivial
  |succ n ih=>
   exact dO X G t.ff49 λf fd F _=>qL (n+1) F ih λ_ _ _ _ h=>h
 have Yo:Def P w K mg base 9 "_law_texts" ["_law_block_here"] uC:=dO X G t.ff50 λf fd F _=>FnOk.ex λi=>yx F u10 (I_lt 6);have Yq:Def P w K mg base 54 "_law_texts_right" p35 (spTxR c):=dO X G t.ff51 λf fd F _=>yN ∅ F TE (tQ MX ∅) (aN Dc) (I_al 25) (aN Yo)  Dl;have Yt:Def P w K mg base 1 "_law_order" ["_law_trees"] spNo:=dO X G t.ff52 λf fd F _=>ic;have I_od:∀n:Nat,Def P w K mg base (3+n) "_law_order" ["_law_trees"] (spOrd (dB n) (odB n)):=λn=>by
  induction n with
  |zero=>
   have D0:Def P w K mg base 2 "_law_order" ["_law_trees"] (spOrd (λz:Empty=>nomatch z) (λz:Empty=>nomatch z)):=dO X G t.ff52 λf fd F _=>qM F Yt;exact dO X G t.ff52 λf fd F _=>m8 (g:=λz:Empty=>nomatch z) (od:=λz:Empty=>nomatch z) F D0 (λ_ _ _ _ h=>h)
  |succ n ih=>exact dO X G t.ff52 λf fd F _=>m8 (g:=dB n) (od:=odB n) F ih (λ_ _ _ _ h=>h)
 have YM:Def P w K mg base 2 "_law_order" ["_law_trees"] (spOrd (λz:Empty=>nomatch z) (λz:Empty=>nomatch z)):=dO X G t.ff52 λf fd F _=>qM F Yt;have Dj:Def P w K mg base 8 "_law_order" ["_law_trees"] uI:=dO X G t.ff52 λf fd F _=>FnOk.ex λn:Lv=>match n with |⟨0,_⟩=>(m8 (g:=λz:Empty=>nomatch z) (od:=λz:Empty=>nomatch z) F YM (λ_ _ _ _ h=>h)).mono ∅ |⟨n+1,h⟩=>(m8 (g:=dB n) (od:=odB n) F (I_od n) (λ_ _ _ _ h=>h)).mono nofun
 have hT1:=hT (c1,Pt1) l10;have hT2:=hT (c2,Pt2) (l15 _ l10);have Dk:∀base':Heap,CodeHd base' c1 Pt1/\base'.BuiltinsAt mg Pt1->Def P w K mg base' 1 "_law_keeper" p12 (eT Pt1 mg):=λbase' hh=>rk X G t.ff53 λf fd F hc=>qX (k:=0) F hc hh;have Yr:Def P w K mg base 1 "_law_asker" ["_law_found"] (my Pt2 mg):=dO X G t.ff54 λf fd F hc=>tM (k:=0) F hc hT2;have told':∀base':Heap,K.In base'->base'.Ns mainGlobals mg->∀n,n<=4->MV P w K mg base' 44 "told" (BAt c n) (OkB n) (tellsB (dB n)):=λbase' _ _ n hn=>rj ((core base').1 n) nofun;have wv:∀kt k,kt+5<=k->q9 P w K mg c kt k:=λkt k hk base' g G ok M St _ _ sS hW n hn b=>(hWV kt base' g G ok M St sS hW n b).mono nofun;have DF:Def P w K mg base 61 "_law_walked" p36 (spWalked c Pt1):=dO X G t.ff55 λf fd F _=>rd (k:=60) (kt:=44) F TE (aN (Dk base hT1) ∅) told' (wv 45 60 ∅) hCls (λn hn=>aN (I_od n) nofun) (aN (I_al 25) ∅);have ask:∀(base':Heap) (d:Clo) (L:Addr) (G H0:Hp),BaseZ K mg base [d] base'->Kept mg "_law_worker" qAW (aQ sAW) (aG sAW) (ab sAW) ["_law_found"] [.ref L] d->(∀b o,G b=some o->Kd o)->dC P w K mg base' 61 d.g c G okW 50000 (AskSt G H0 L Pt1):=λbase' d L G H0 Bx kept kG=>oE (k:=60) (kt:=44) TE Bx kept kG (aN (Dk base' ⟨hT1.1.keeps Bx.old,hT1.2.keeps Bx.old⟩) ∅) hCls told' (wv 45 60 ∅) λn hn=>rj ((core base').2.1 n) nofun;exact tP (k:=77) (ka:=61) (cf:=cB) (kf:=kB) lm zM zN (mD (st:=fO) l cc kp) TWx ∅ Da (aN Yp) (aN Dw) (aN DE) Dl Dq Do (aN Yq) (aN DF) (aN Dj) (aN Yr) ask (wv 61 77 ∅) hCls
end K12
open PySem PySem.W PySem.W.X PySem.W.ZRun PyProof.Rows
theorem L2.true_law {c:PySem.W.ClaimW}{cl:PySem.Str->Option PySem.Addr}{mean:PySem.ExcName->Option PySem.Value}{args:List PySem.W.WData}{s₁ s':PySem.Shared}(hr:∀cls:PySem.ExcName,c.raises args cls=false)(hp:c.post args (.bool true) args=true)
  (h:OldK s₁.heap s'.heap/\s'.os=s₁.os/\PyProof.Rows.AllBare s'.gens):PySem.W.GoodWG c cl mean args s₁ (Except.ok (PySem.Flow.ret (.bool true))) s':=
 ⟨.inl ⟨_, .bool true,[],rfl,hr, .bool _,hp,λ_=>⟨.nil,λ_ z=>nomatch z⟩⟩,h⟩
set_option maxRecDepth 100000 in
set_option maxHeartbeats 0 in
theorem PySem.Challenge.cw_lightmark_k12_blocks_walked_holds : PySem.Challenge.rw_lightmark_k12_blocks_walked.Holds := by
 refine hd12.2 ⟨?_⟩
 conv=>whnf
 k_fill
 intro w s₀ s₁ mg mb G y fa o pm cd doc dV kV ho hd hcd hD hmg hg args vals as L hpre hlay hrd hwl hlo
 z_open y L KX ZH ZN ZT
 refine Ground.open G ?_;intro T B D TE TW
 wrow_args hpre hlay hrd hwl hlo
 rename_i ns _ _ _ _ _ _ _ a vs _ hL _ _ _ hI _ w6 _;have htk:=script_toks L ZT;have hobj:=script_obj L hL;have hbits:∀n∈ns,PySem.Builtin.Int.intBits n<=1048576:=λn hn=>PySem.intBits_le_of_item hn (by assumption)
 kn_lay T hmg ho hd cd
 obtain⟨c1,Pt1,c2,Pt2,hTT,hne,t,tc⟩:∃c1 Pt1 c2 Pt2,TabsAt [(c1,Pt1),(c2,Pt2)] s₁.heap/\Pt1≠Pt2/\K12.Top (L2.KOf KX) c1 c2/\∃z:K12.Addrs,K12.ClsT (L2.dropK (L2.KOf KX) ([(c1,Pt1),(c2,Pt2)].map (·.2))) z:=by
  refine⟨_,_,_,_,hT9,by decide,?_,?_⟩;rotate_left
  ·have h0:=L2.tabs0_of KX hT9;dsimp only[L2.KOf];apply Exists.intro;apply K12.ClsT.mk (c := .mk _ _ _ _ _ _ _ _ _ _ _ _ _ _ _ _)
   case cc1|cc2|cc3|cc4|cc5|cc6|cc7|cc8|cc9|cc10|cc11|cc12|cc13|cc14|cc15|cc16=>(rw[L2.nsIn_drop h0];k_is)
   case xx1=>(refine' K12.ownx_VE ?yq;(case yq=>kernel_rfl))
   case pp1|pp2|pp3|pp4|pp5|pp6|pp7|pp8|pp9|pp10|pp11|pp12|pp13|pp14=>(refine' ⟨?z1,?z2,?z3,?z4,?z5,?z6,?z7,?z8,?z9,?z10⟩;(case z1|z2|z3|z4|z5|z6|z7|z8|z9|z10=>kernel_rfl))
   case nn1|nn2|nn3|nn4|nn5|nn6|nn7|nn8|nn9|nn10|nn11|nn12|nn13|nn14|nn15|nn16|nn17|nn18|nn19|nn20|nn21|nn22=>kernel_rfl
   case jj1|jj2|jj3|jj4|jj5|jj6|jj7|jj8|jj9|jj10|jj11|jj12|jj13|jj14|jj15|jj16|jj17|jj18|jj19=>kernel_rfl
   case mm1|mm2|mm3|mm4|mm5|mm6|mm7|mm8|mm9|mm10|mm11|mm12|mm13|mm14|mm15|mm16|mm17|mm18|mm19|mm20|mm21|mm22|mm23|mm24|mm25|mm26|mm27|mm28|mm29|mm30|mm31|mm32|mm33|mm34|mm35|mm36|mm37|mm38|mm39|mm40|mm41|mm42|mm43|mm44|mm45|mm46|mm47|mm48|mm49|mm50|mm51|mm52|mm53|mm54|mm55|mm56|mm57=>(refine' K12.MIn2.to h0 (K12.mIn2_mk ?xa ?xl ?xc ?xb ?xi);(case xa|xl|xc=>k_is);(case xb|xi=>kernel_rfl))
  dsimp only[L2.KOf];constructor
  case ff1|ff2|ff3|ff4|ff5|ff6|ff7|ff8|ff9|ff10|ff11|ff12|ff13|ff14|ff15|ff16|ff17|ff18|ff19|ff20|ff21|ff22|ff23|ff24|ff25|ff26|ff27|ff28|ff29|ff30|ff31|ff32|ff33|ff34|ff35|ff36|ff37|ff38|ff39|ff40|ff41|ff42|ff43|ff44|ff45|ff46|ff47|ff48|ff49|ff50|ff51|ff52|ff55|ff56=>(refine' K12.fnIn_mk ?xa ?xl ?xc ?xk ?xp;(case xa|xl|xc|xk=>k_is);(case xp=>exact trivial))
  case ff53|ff54=>(refine' K12.fnIn_mk ?xa ?xl ?xc ?xk ?xp;(case xa|xl|xc|xk=>k_is);(case xp=>exact rfl))
  case nn23|nn24|nn25|nn26|nn27|nn28|nn29|nn30|nn31|nn32|nn33=>k_is
  case gg1|gg2|gg3|gg4|gg5|gg6=>(refine' K12.cst_mk ?xe ?xf;(case xe=>k_is);(case xf=>exact⟨_,rfl⟩))
 have hbi:∃bm o,mg "__builtins__"=some (.ref bm)/\bm≠builtinsNs/\bm≠mainGlobals/\s₁.heap.get? bm=some o/\o.cls = .type "module"/\o.dict=some builtinsNs/\o.data = .plain:=by
  obtain⟨bm,ob,b1,b2,b3,b4,b5,b6⟩:=T.bmain;refine⟨bm,ob,b1,b2,λq=>?_,b3,b4,b5,b6⟩;obtain⟨o,es,ep,e,hd,_⟩:=T.g;rw[q,e] at b3;cases b3;rw[hd] at b6;cases b6
 obtain⟨fd,hb,hF⟩:=K12.all_law (P:=PySem.Challenge.rw_lightmark_k12_blocks_walked.row.prog) (w:=w) (Pt1:=Pt1) (Pt2:=Pt2) (L2.dropK_in KX) T.g hmg (t.drop (L2.tabs0_of KX hTT)) tc;refine wpAny_call (codeAny_mono (L2.law_callT (L2.dropK_in KX) T.g T.b T.builtins T.nolimit hg (l19 ∅ htk) hobj hI (Lw.big nofun) ⟨rfl,by decide,by decide⟩ hTT L2.dropK_not hbi hF hb (λH hO hS hB=>⟨a,ns,rfl,hS,hbits,L2.Tab.new (hB _ l10),L2.Tab.new (hB _ (l15 _ l10)),hne,λ_=>rfl⟩) λH e s' z=>z) λr s' q=>?_);obtain⟨rfl,q⟩:=q;exact L2.true_law (λ_=>rfl) (by with_unfolding_all rfl) q
