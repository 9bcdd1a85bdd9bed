import PyProof.Rows.All
import Wide.All
import OpenK.AllK
import Wide.FinOn
import Lean
import PyProof.EqAt
import PyProof.EqKinds
import PyProof.TupleCall
import PyProof.ZipIter
import KE.KRevIter
import PyProof.StrCalls2
import PyProof.FString
import PyProof.StrWalks
import PyProof.EnumMake
import KE.KIntText
import PyProof.StrLawsChain
import PyProof.StrLawsTight
import PyProof.StrLawsFirst
import PyProof.CallStr
import PySem.Challenge.RW_ringfell_k81_texts_refused
open List renaming length_map → vZ,length_append → wc,map_append → we,size_toArray → wg,length_singleton → wj,length_cons → wk,mem_singleton → wo,getElem?_eq_getElem → wt,mem_cons_of_mem → wD,getElem?_eq_some_iff → wF,length_take → wG,mem_cons → wH,mem_append_right → wI,mem_append → wK,mem_cons_self → wN,length_drop → wW,getD_eq_getElem?_getD → wY,getElem?_map → w5,length_nil → w9,mem_of_getElem? → xb,getElem?_toArray → xf,drop_eq_getElem_cons → xq,all_eq_true → xv,take_add_one → xy,mem_of_mem_take → xA,take_of_length_le → xB,take_length → xF,length_eq_zero_iff → xH,filterMap_cons → xJ,map_cons → xM,drop_length → xP,mem_of_mem_drop → xR,append_nil → xU,getElem_mem → xX,mem_map → x9,getElem?_eq_none_iff → yd,map_take → yk,range → yl,eq_nil_or_concat → yt,concat_eq_append → yu,append_assoc → yA,flatMap_cons → yB,getElem?_append_right → yC,getLast?_concat → yE,getLast?_eq_none_iff → yG,lookup_cons → yH,takeWhile_cons → yI,getElem?_take_of_lt → yK,zip_cons_cons → yP,getElem?_set_self → yV,mem_range → y9,mem_append_left → zd,getElem?_set_ne → ze,mem_of_getLast? → zh,map_drop → zo,nodup_cons → zr,length_set → zt,map_eq_nil_iff → zz,mem_filterMap → zH,set_set → zI,getElem?_append_left → zM,mem_or_eq_of_mem_set → zN,any_cons → zV,getElem?_cons_succ → z0,drop_of_length_le → Ak,of_mem_zip → Ao,forIn_cons → Aq,drop_drop → AF,zip_nil_right → AN,getElem?_drop → AR,any_eq_false → AV,zip_nil_left → AY,map_map → A7,ext_getElem → Bf,zipIdx_cons → Bg,flatMap_nil → Bi,mem_filter → Bk,zipIdx_nil → Bm,take_left' → Bo,forIn_nil → Bw,drop_zero → Bx,all_cons → BH,take_nil → BI,sum_cons → BJ,map_nil → BL,map_set → BM
open PySem.W renaming Frag → v5,nsIn → wC,mg_none_of → xg,mg_of → xw,kia_one → xD,looks_findIn → yj,callWith_K → yO,hideAll_get → Ab,cellsFrom_some → Ah,looks_subIn → AK,kitx_list → AW,kitx_dict → AX,tail_of_in → BF
open PySem.Heap renaming get?_push_of_some → v7,lt_size → wq,get?_push_size → wA,get?_update_self → x6,size_push → yc,get?_none_of_le → yD,get?_update_other → yX,get?_update_ne → zy,get?_push_at → zP
open PySem renaming Value → v8,Shared → v9,sizeLine → wa,wpAny_bind → wb,Program → wx,wpAny → wL,mainGlobals → wM,wpAny_pure → wQ,FuncData → wR,model → wV,starEach → wX,World → wZ,wpAny_loadPart_at → w4,Around → xh,wpAny_mono → xm,compareOp → xn,bootBuiltins → xu,richCompare_meets_room → xC,wpAny_truthy_bool → xK,wpAny_field → xQ,wpAny_callSpecial?_slot → xT,mem_of_lookup → xV,wpAny_call_entry → xY,wpAny_Call_Name_kw → ya,wpAny_setField_rec → yb,wpAny_seqItems → ye,codeAny_call_builtin → yg,wpAny_passesOwn → yi,wpAny_pyIter_tuple → ym,wpAny_execs_nil → yx,backTo → yU,wpAny_pyIter_list → y7,typeIs_str → y8,codeAny_mono → zc,wpAny_updateSeq_pair → zi,wpAny_standAt → zp,length_partsBetween → zB,wpAny_letOwnedTupleGo_enum → zF,call_meets → zS,wpAny_newObj_type → zT,rawInt → zU,wpAny_holding → z9,wpAny_onRaise → Aa,wpAny_execs_cons → Af,noFill_tuple_add → Ag,wpAny_Call_method_late → An,wpAny_isTrue_Compare1 → Av,concat_meets → Aw,wpAny_call → Ax,wpAny_loadName_local → AB,wpAny_setField → AG,wpAny_loadName_cell → AJ,seq_tuple_add → AS,wpAny_attempt → AU,wpAny_Assign_Name → A3,wpAny_pyIter_slot → A4,codeAny → A5,seqIndex_neg → Ba,seqIndex_of → Bp,wpAny_letGo → Bq,wpAny_Name → BD,wpAny_rule → BE,holding → BK
open Nat renaming le_refl → wm,le_trans → wy,lt_of_lt_of_le → wB,ne_of_lt → wU,lt_of_le_of_lt → xc,zero_le → xj,lt_irrefl → xp,le_of_lt → yJ,eq_zero_or_pos → yS,min_eq_left → yT,ne_of_gt → za,add_le_add_left → zA,le_succ → zW,toDigits_of_lt_base → zZ,le_add_right → Ae,lt_succ_self → Bc,min_eq_right → Bj
open Bool renaming false_ne_true → wz,and_eq_true → w6,eq_iff_iff → yh,eq_false_iff → yz,or_eq_true → Ap,and_false → AD,not_eq_true' → A1,or_false → BG
open Option.some renaming inj → wJ
open PySem.Value renaming ref → wO,none → yN,int → zC,type → A6
open PySem.F renaming plainAttrs_list → xa,slot_list_append → xk,type_list_append → xl,slot_str_split → xI,store_ValueError → xN,excBase_ValueError → xS,slot_tuple_iterator_next → xW,slot_enumerate_iter → yo,slot_enumerate_next → yp,attrBase_ValueError → yq,slot_str_join → yv,type_str_join → yw,args_tuple_add_2 → yL,args_str_split_2 → yM,entry_tuple_add → yQ,entry_str_split → yR,slot_tuple_add → yW,type_str_split → yZ,typeOf_object_class → zb,args_tuple_iterator_next_1 → zm,entry_tuple_iterator_next → zw,slot_zip_next → zx,slot_list_extend → zQ,type_list_extend → zR,args_enumerate_iter_1 → zX,args_list_eq_2 → Ac,entry_enumerate_iter → Ai,entry_list_eq → As,mro_reversed → AA,slot_list_eq → AE,slot_gs_get → AO,args_zip_next_1 → A0,args_list_ne_2 → Be,entry_zip_next → Bh,entry_list_ne → Bl,entry_bexc_ga → Bn
open Array renaming length_toList → xi,append_assoc → zG,getElem?_eq_none → Aj,mem_toList_iff → Az
open PySem.StrLaws renaming glued_eq_join → xo,join_split → xO,strSub_toList → yr,occ_length_le_len → yF,subAt_one → y3,joinFits → Ad,join_length_le → Al,split_free → AQ,found_one → A2
open Iff renaming rfl → xr
open PySem.PassesOwn renaming never → xt,leaving → y6
open List.cons renaming inj → xx
open Classical renaming byContradiction → xE
open PyProof.Rows renaming callWith_type1 → xG,IntsAre → yf,subscriptTail_builtinR → Am
open PySem.SeqAt.EqAt renaming int_int → xZ,same → zu,int_str → AL,str_int → AM
open Ne renaming symm → yn
open Int renaming toNat_natCast → yy,fdiv_eq_ediv_of_nonneg → zE,emod_lt_of_pos → zL,emod_nonneg → Au,le_trans → A8,zero_add → A9
open PySem.Calls renaming callWith_builtin → yY,evalArgs_plain → zf,Name_function_global → zD
open PySem.W.KIN renaming val_back → zg
open PySem.Paired renaming length → zk
open PySem.SeqAt renaming EqAt → zq,list_eq_lengthsAt → zY
open PySem.Obj renaming data_mapFields → zJ,mapSeq → Ay
open PySem.Code renaming quiet_builtin → zK
open PySem.AutoSeq1 renaming sub_tuple_tuple → zO
open Option renaming map_some → Ar,getD_none → Bb
open PySem.Heap.SameBut renaming update → AH
open Eq renaming symm → AI
open PySem.SeqAt.RcAt renaming tuples → AZ,lists → Bd
open PySem.EqMixed renaming eq_bool_str → Br,eq_str_bool → Bs,ne_bool_str → Bt,ne_str_bool → Bv,eq_int_str → Bz,eq_str_int → BA,ne_int_str → BB,ne_str_int → BC
open PySem.Heap.IsSliceOf renaming new → BN
set_option Elab.async false
set_option linter.all false
set_option maxRecDepth 100000
namespace L2
open PySem PySem.Spec PyProof.Rows
abbrev Key:=Sum Int Str
def tT:Key->v8->Bool
 | .inl k,v=>Value.isInt k v
 | .inr x,v=>Value.isStrOf x v
def keyH (w:wZ):Key->Int
 | .inl k=>hashInt k
 | .inr x=>hashStr w x
theorem bg:∀{k:Key} {v:v8},tT k v=true->(∃i t,k=Sum.inl i/\v=zC i t)\/(∃x t,k=Sum.inr x/\v=Value.str x t)
 | .inl i,v,h=>by
  obtain ⟨t,e⟩:=Value.isInt_shape (k:=i) (v:=v) h
  exact .inl ⟨i,t,rfl,e⟩
 | .inr x,v,h=>by
  obtain ⟨t,e⟩:=Value.isStrOf_shape (x:=x) (v:=v) h
  exact .inr ⟨x,t,rfl,e⟩
theorem um (a b:Int):decide ((Sum.inl a:Key)=Sum.inl b)=(a == b):=by
 by_cases e:a=b
 ·subst e;simp
 ·have h:¬ (Sum.inl a:Key)=Sum.inl b:=λq=>e (Sum.inl.inj q)
  rw[decide_eq_false h]
  exact (beq_eq_false_iff_ne.mpr e).symm
theorem uo (a b:Str):decide ((Sum.inr a:Key)=Sum.inr b)=decide (a=b):=by
 by_cases e:a=b
 ·subst e;simp
 ·have h:¬ (Sum.inr a:Key)=Sum.inr b:=λq=>e (Sum.inr.inj q)
  rw[decide_eq_false h,decide_eq_false e]
theorem uq (a:Int)(b:Str):decide ((Sum.inl a:Key)=Sum.inr b)=false:=decide_eq_false (λq=>nomatch q)
theorem ur (a:Str)(b:Int):decide ((Sum.inr a:Key)=Sum.inl b)=false:=decide_eq_false (λq=>nomatch q)
def m8 (prog:wx)(w:wZ):PySem.KeyKind prog w Key where
 is:=tT
 hash:=keyH w
 inj:=λv a b ha hb=>by
  rcases bg ha with ⟨i,t,rfl,rfl⟩ | ⟨x,t,rfl,rfl⟩
  ·rcases bg hb with ⟨j,u,rfl,e⟩ | ⟨y,u,rfl,e⟩
   ·injection e with e1 _;rw[e1]
   ·exact nomatch e
  ·rcases bg hb with ⟨j,u,rfl,e⟩ | ⟨y,u,rfl,e⟩
   ·exact nomatch e
   ·injection e with e1 _;rw[e1]
 byValue:=λk v h=>by
  rcases bg h with ⟨i,t,rfl,rfl⟩ | ⟨x,t,rfl,rfl⟩ <;> rfl
 pyHash:=λhv h=>by
  rcases bg hv with ⟨i,t,rfl,rfl⟩ | ⟨x,t,rfl,rfl⟩
  ·exact wpAny_pyHash_int h
  ·exact wpAny_pyHash_str h
 eqBool:=λhu hv h=>by
  rcases bg hu with ⟨i,t,rfl,rfl⟩ | ⟨x,t,rfl,rfl⟩
  ·rcases bg hv with ⟨j,u,rfl,rfl⟩ | ⟨y,u,rfl,rfl⟩
   ·rw[um] at h;exact wpAny_eqBool_int h
   ·rw[uq] at h;exact AL i t y u _ _ _ _ h
  ·rcases bg hv with ⟨j,u,rfl,rfl⟩ | ⟨y,u,rfl,rfl⟩
   ·rw[ur] at h;exact AM x t j u _ _ _ _ h
   ·rw[uo] at h;exact wpAny_eqBool_str h
 «strs» := λk x t v h=>by
  rcases bg h with ⟨i,u,rfl,e⟩ | ⟨y,u,rfl,e⟩
  ·exact nomatch e
  ·injection e with e1 _
   subst e1
   cases v <;> rfl
open PySem PySem.Spec PyProof.Rows
inductive V where
 | non | bl (b:Bool) | int (i:Int) | str (x:Str) | byt (b:Array UInt8) | flt (b:UInt64) | ref (a:Addr) | ty (n:String)
 deriving DecidableEq
def RelV:V->v8->Prop
 | .non,u=>u=yN
 | .bl b,u=>u=Value.bool b
 | .int i,u=>∃t,u=zC i t
 | .str x,u=>∃t,u=Value.str x t
 | .byt b,u=>∃t,u=Value.bytes b t
 | .flt b,u=>∃t,u=Value.float b t
 | .ref a,u=>u=wO a
 | .ty n,u=>u=A6 n
abbrev Vals:List V->List v8->Prop:=Paired RelV
theorem Vals.length {xs:List V}{us:List v8}(r:Vals xs us):xs.length=us.length:=zk r
theorem Vals.get:∀{xs:List V} {us:List v8} {i:Nat} {x:V},Vals xs us->xs[i]? = some x->∃u,us[i]? = some u/\RelV x u
 | _,_,_,_,.nil,e=>by simp at e
 | _,_,0,_,.cons r _,e=>by simp at e;subst e;exact ⟨_,rfl,r⟩
 | _,_,i+1,x,.cons _ t,e=>by
  obtain ⟨u,h1,h2⟩:=Vals.get (i:=i) (x:=x) t (by simpa using e)
  exact ⟨u,by simpa using h1,h2⟩
theorem Vals.set {x:V}{u:v8}(r:RelV x u):∀{xs:List V} {us:List v8} (i:Nat),Vals xs us->Vals (xs.set i x) (us.set i u)
 | _,_,_,.nil =>.nil
 | _,_,0,.cons _ t =>.cons r t
 | _,_,i+1,.cons q t =>.cons q (Vals.set r i t)
theorem Vals.append:∀{xs ys:List V} {us ws:List v8},Vals xs us->Vals ys ws->Vals (xs++ys) (us++ws)
 | _,_,_,_,.nil,s=>s
 | _,_,_,_,.cons r t,s =>.cons r (Vals.append t s)
theorem Vals.take:∀{xs:List V} {us:List v8} (n:Nat),Vals xs us->Vals (xs.take n) (us.take n)
 | _,_,0,_ =>.nil
 | _,_,_+1,.nil =>.nil
 | _,_,n+1,.cons r t =>.cons r (Vals.take n t)
theorem Vals.drop:∀{xs:List V} {us:List v8} (n:Nat),Vals xs us->Vals (xs.drop n) (us.drop n)
 | _,_,0,r=>r
 | _,_,_+1,.nil =>.nil
 | _,_,n+1,.cons _ t=>Vals.drop n t
def mh:Option V->Option v8->Prop
 | some v,some u=>RelV v u
 | none,none=>True
 | _,_=>False
def KV {κ:Type}:List (κ×V)->List (κ×v8)->Prop:=Paired λ(p:κ×V) (q:κ×v8)=>p.1=q.1/\RelV p.2 q.2
def kV:Key->V
 | .inl i =>.int i
 | .inr x =>.str x
inductive HO where
  | lst (xs:List V)
  | tup (xs:List V)
  | dK (kvs:List (Key×V)) | dT (kvs:List (List Key×V))
  | set (S:Int->Bool) (n:Nat)
  | ins (C dx:Addr) (fs:List (Str×V))
  | own (x:Addr)
  | xd (fs:List (Str×V))
  | met (f x:Addr)
  | rng (lo hi:Int)
  | frz (o:Obj) (u:HO)
  | tbl (ps:Array v8)
  | ext (φ:Heap->Prop)
abbrev Hp:=Addr->Option HO
def upd (H:Hp)(a:Addr)(o:HO):Hp:=λb=>if b=a then some o else H b
theorem ae {H:Hp}{a:Addr}{o:HO}:upd H a o a=some o:=by unfold upd;rw[if_pos rfl]
theorem ax {H:Hp}{a b:Addr}{o:HO}(h:b≠a):upd H a o b=H b:=by unfold upd;rw[if_neg h]
theorem tU {H:Hp}{a b:Addr}{o u:HO}(h:H a=some o)(h':H b=some u)(d:o≠u):a≠b:=by
 intro e;subst e;rw[h] at h';exact d (wJ h')
theorem av {H:Hp}{a b:Addr}{o:HO}(h:H a=some o)(h':H b=none):a≠b:=by
 intro e;subst e;rw[h] at h';cases h'
def dQ (h:Heap)(a:Addr)(items:Array v8):Prop:=∃o,h.get? a=some o/\(o.cls = .type "tuple" /\ o.dict=none)/\∃n,o.data = .seq items n
theorem dQ.tup {h:Heap}{a:Addr}{items:Array v8}(x:dQ h a items):IsTup h a items:=let ⟨o,e,c,n,d⟩:=x;⟨o,e,c.1,n,d⟩
theorem dQ.new (h:Heap)(items:Array v8):dQ (h.push { cls :=.type "tuple",data :=.seq items }) h.objs.size items:=⟨_,wA _ rfl,⟨rfl,rfl⟩,_,rfl⟩
def qAt (ps:Array v8)(pos:Pos)(q:Str):Prop:=∃(i:Nat) (t:Tok),ps[3*i]? = some (zU pos.line)/\ps[3*i+1]? = some (zU pos.col)/\ps[3*i+2]? = some (.str q t)
def cAt (ps:Array v8)(pos:Pos)(c:Addr):Prop:=∃i:Nat,ps[3*i]? = some (zU pos.line)/\ps[3*i+1]? = some (zU pos.col)/\ps[3*i+2]? = some (.ref c)
section
variable  (P:wx)(w:wZ)
def bx (H:Hp)(h:Heap)(a:Addr):HO->Prop
 | .lst xs=>xs.length<=wa/\∃(its:List v8) (n:Nat),Vals xs its/\h.get? a=some { cls :=.type "list",data :=.seq its.toArray n }
 | .tup xs=>xs.length<=wa/\∃its:List v8,Vals xs its/\dQ h a its.toArray
 | .dK kvs=>kvs.length<=wa/\(a == sysModules)=false/\∃vs,KV kvs vs/\h.DictOf (m8 P w) a vs
 | .dT kvs=>kvs.length<=wa/\(a == sysModules)=false/\∃xs:List (List Key×Addr×v8),
   Paired (λ(p:List Key×V) (q:List Key×Addr×v8)=>p.1=q.1/\H q.2.1=some (.tup (p.1.map kV))/\RelV p.2 q.2.2) kvs xs ∧
   ∃o es ep,h.get? a=some o/\o.ExactDict/\o.data = .dict es ep/\es.toList=xs.map (entryOfKey (tupleKind (m8 P w)))/\(xs.map (·.1)).Nodup
 | .set S n=>h.SetOf (intKind P w) a S n
 | .ins C dx fs=>H dx=some (.own a)/\fs.length<=1000/\dx≠a/\h.get? a=some (PySem.W.instObj C dx) ∧
   ∃mA,h.Ns1 dx mA/\(∀f,mh (fs.lookup f) (mA f))/\PySem.Within mA (fs.map (·.1))
 | .own _=>∃o,h.get? a=some o
 | .xd fs=>∃mA,h.Ns1 a mA/\∀f,mh (fs.lookup f) (mA f)
 | .rng lo hi=>∃t u v,h.get? a=some { cls :=.type "range",data :=.fields #[.int lo t,.int hi u,.int 1 v] }
 | .frz o u=>h.get? a=some o/\bx H h a u
 | .tbl ps=>∃rows:Array v8,h.get? a=some { cls :=.none,data :=.fields rows }/\TriplesOk rows.toList/\(∀pos v,codeAmong pos rows.toList=some v->∃c q,v = .ref c/\H c=some (.own a)/\h.CodeRec (.ref c) q/\qAt ps pos q)/\∀pos c,cAt ps pos c->codeAmong pos rows.toList=some (.ref c)
 | .met f x=>h.get? a=some (PySem.W.methodObj (.ref f) (.ref x))
 | .ext φ=>φ h/\(∃o,h.get? a=some o)/\∀h1 h2:Heap, φ h1->(∀o,h1.get? a=some o->h2.get? a=some o) -> φ h2
def HOk (H:Hp)(h:Heap):Prop:=∀a o,H a=some o->bx P w H h a o
end
section
variable  {P:wx}{w:wZ}{H H':Hp}{h h':Heap}{a:Addr}{o:HO}
theorem bx.lt (x:bx P w H h a o):a<h.objs.size:=by
 cases o with
 | lst xs=>obtain ⟨_,_,_,_,e⟩:=x;exact wq e
 | tup xs=>obtain ⟨_,_,_,p⟩:=x;exact (dQ.tup p).lt
 | dK kvs=>obtain ⟨_,_,_,_,o,_,_,e,_⟩:=x;exact wq e
 | dT kvs=>obtain ⟨_,_,_,_,o,_,_,e,_⟩:=x;exact wq e
 | set S n=>obtain ⟨o,_,_,_,e,_⟩:=x;exact wq e
 | ins C dx fs=>obtain ⟨_,_,_,e,_⟩:=x;exact wq e
 | own y=>obtain ⟨_,e⟩:=x;exact wq e
 | xd fs=>obtain ⟨_,⟨_,_,_,e,_⟩,_⟩:=x;exact wq e
 | rng lo hi=>obtain ⟨_,_,_,e⟩:=x;exact wq e
 | frz ob u=>obtain ⟨e,_⟩:=x;exact wq e
 | tbl ps=>obtain ⟨_,e,_⟩:=x;exact wq e
 | met f y=>exact wq (show h.get? a=some _ from x)
 | ext φ=>obtain ⟨_,⟨_,e⟩,_⟩:=x;exact wq e
theorem Paired.vg {α β:Type}{F G:α -> β -> Prop}:∀{l₁:List α} {l₂:List β},Paired F l₁ l₂->(∀a b,F a b->G a b)->Paired G l₁ l₂
 | _,_,.nil,_ =>.nil
 | _,_,.cons r t,f =>.cons (f _ _ r) (Paired.vg t f)
theorem bx.eR (x:bx P w H h a o)(k:∀b u,(b=a\/H b=some (.own a))->h.get? b=some u->h'.get? b=some u)
  (ho:∀b,H b=some (.own a)->H' b=some (.own a)) (ht:∀b xs,H b=some (.tup xs)->H' b=some (.tup xs)):bx P w H' h' a o:=by
 induction o with
 | lst xs=>obtain ⟨z,its,n,r,e⟩:=x;exact ⟨z,its,n,r,k _ _ (.inl rfl) e⟩
 | tup xs=>obtain ⟨z,its,r,ob,e,c⟩:=x;exact ⟨z,its,r,ob,k _ _ (.inl rfl) e,c⟩
 | dK kvs=>obtain ⟨z,y,vs,r,ob,es,ep,e,c⟩:=x;exact ⟨z,y,vs,r,ob,es,ep,k _ _ (.inl rfl) e,c⟩
 | dT kvs =>
  obtain ⟨z,y,xs,r,ob,es,ep,e,c⟩:=x
  exact ⟨z,y,xs,Paired.vg r λp q z=>⟨z.1,ht _ _ z.2.1,z.2.2⟩,ob,es,ep,k _ _ (.inl rfl) e,c⟩
 | set S n=>obtain ⟨ob,es,ep,t,e,c⟩:=x;exact ⟨ob,es,ep,t,k _ _ (.inl rfl) e,c⟩
 | ins C dx fs =>
  obtain ⟨d,z,ne,e,mA,⟨od,es,ep,e2,c⟩,r⟩:=x
  exact ⟨ho _ d,z,ne,k _ _ (.inl rfl) e,mA,⟨od,es,ep,k _ _ (.inr d) e2,c⟩,r⟩
 | own y=>obtain ⟨ob,e⟩:=x;exact ⟨ob,k _ _ (.inl rfl) e⟩
 | xd fs=>obtain ⟨mA,⟨od,es,ep,e,c⟩,r⟩:=x;exact ⟨mA,⟨od,es,ep,k _ _ (.inl rfl) e,c⟩,r⟩
 | rng lo hi=>obtain ⟨t,u,v,e⟩:=x;exact ⟨t,u,v,k _ _ (.inl rfl) e⟩
 | frz ob u ih=>obtain ⟨e,q⟩:=x;exact ⟨k _ _ (.inl rfl) e,ih q⟩
 | tbl ps =>
  obtain ⟨rows,e,t,rr,rc⟩:=x
  refine ⟨rows,k a _ (.inl rfl) e,t,λpos v hv =>?_,rc⟩
  obtain ⟨c,q,ev,hc,⟨c2,oc,vs,tq,e1,e2,e3⟩,z⟩:=rr pos v hv
  cases e1
  exact ⟨c,q,ev,ho c hc,⟨c,oc,vs,tq,rfl,k c _ (.inr hc) e2,e3⟩,z⟩
 | met f y =>
  have e:h.get? a=some (PySem.W.methodObj (.ref f) (.ref y)):=x
  show h'.get? a=some (PySem.W.methodObj (.ref f) (.ref y))
  exact k a _ (.inl rfl) e
 | ext φ=>obtain ⟨p,⟨o,e⟩,st⟩:=x;exact ⟨st _ _ p λo q=>k _ _ (.inl rfl) q,⟨o,k _ _ (.inl rfl) e⟩,st⟩
theorem HOk.lt (x:HOk P w H h)(e:H a=some o):a<h.objs.size:=(x a o e).lt
theorem HOk.fresh (x:HOk P w H h)(e:h.objs.size<=a):H a=none:=by
 cases q:H a with
 | none=>rfl
 | some u=>exact absurd (wB (x.lt q) e) (xp _)
theorem HOk.kept (x:HOk P w H h)(k:∀b u,h.get? b=some u->h'.get? b=some u):HOk P w H h':=λa o e =>
 (x a o e).eR (λb u _ q=>k b u q) (λ_ q=>q) λ_ _ q=>q
theorem HOk.laid (x:HOk P w H h)(k:∀b u,h.get? b=some u->h'.get? b=some u)(hp:h.objs.size<=a)(new:bx P w (upd H a o) h' a o):HOk P w (upd H a o) h':=λb u e=>by
 have hn:=x.fresh hp
 by_cases hb:b=a
 ·subst hb;rw[ae] at e;cases e;exact new
 ·rw[ax hb] at e
  exact (x b u e).eR (λc v _ q=>k c v q) (λc q=>by rw[ax (av q hn)];exact q) λc xs q=>by rw[ax (av q hn)];exact q
end
def Rd (H:Hp)(a:Addr)(u:HO):Prop:=H a=some u\/∃o,H a=some (.frz o u)
theorem Rd.ok {P:wx}{w:wZ}{H:Hp}{h:Heap}{a:Addr}{u:HO}(r:Rd H a u)(x:HOk P w H h):bx P w H h a u:=by
 rcases r with r | ⟨o,r⟩
 ·exact x a u r
 ·obtain ⟨_,q⟩:=x a _ r
  exact q
def Mut:Option HO->Prop
 | some (.lst _)=>True
 | some (.dK _)=>True
 | some (.dT _)=>True
 | some (.set _ _)=>True
 | some (.ins _ _ _)=>True
 | some (.ext _)=>True
 | _=>False
section
variable  {P:wx}{w:wZ}{H:Hp}{h h':Heap}{x e:Addr}{o':HO}
theorem HOk.write (ok:HOk P w H h)(mu:Mut (H x))(he:e=x\/H e=some (.own x))(k:∀b u,b≠e->h.get? b=some u->h'.get? b=some u)(heo:∃u,h'.get? e=some u)
  (new:bx P w (upd H x o') h' x o'):HOk P w (upd H x o') h':=λb u q=>by
 have nown:∀c y,H c=some (.own y)->c≠x:=λc y r z=>by subst z;rw[r] at mu;exact mu
 have ntup:∀c xs,H c=some (.tup xs)->c≠x:=λc xs r z=>by subst z;rw[r] at mu;exact mu
 by_cases hb:b=x
 ·subst hb;rw[ae] at q;cases q;exact new
 ·rw[ax hb] at q
  by_cases hbe:b=e
  ·have q':H b=some (.own x):=by
    rcases he with z | z
    ·exact absurd (hbe.trans z) hb
    ·rw[hbe];exact z
   rw[q] at q';cases q'
   obtain ⟨v,hv⟩:=heo
   exact ⟨v,by rw[hbe];exact hv⟩
  ·refine (ok b u q).eR (λc v hc r=>k c v ?_ r) (λc r=>by rw[ax (nown c b r)];exact r) λc xs r=>by rw[ax (ntup c xs r)];exact r
   rcases hc with rfl | hc
   ·exact hbe
   ·rintro rfl
    rcases he with z | z
    ·exact nown c b hc z
    ·rw[hc] at z;cases z;exact hb rfl
end
structure Un (fs ex:List Addr)(H H':Hp)(h h':Heap):Prop where
 keep:∀b o,h.get? b=some o->H b=none->b∉fs->b∉ex->h'.get? b=some o
 slot:∀b o,h.get? b=some o->H b=none->b∈fs->b∉ex->∃sl,h'.get? b=some { o with slots:=sl }
 free:∀b o,h.get? b=some o->H b=none->b∉ex->H' b=none
 there:∀b o,h.get? b=some o->b∉ex->∃o',h'.get? b=some o'
 tups:∀b xs,H b=some (.tup xs)->H' b=some (.tup xs)
 frzs:∀b o u,H b=some (.frz o u)->H' b=some (.frz o u)
 tbls:∀b ps,H b=some (.tbl ps)->∃more,H' b=some (.tbl (ps++more))
section
variable  {fs fs' ex ex':List Addr}{H H1 H2:Hp}{h h1 h2 h':Heap}{a x e:Addr}{o:HO}
theorem Un.any (u:Un fs ex H H1 h h1){b:Addr}{ob:Obj}(q:h.get? b=some ob)(n:H b=none)(hx:b∉ex):∃sl,h1.get? b=some { ob with slots:=sl }:=by
 by_cases hb:b∈fs
 ·exact u.slot b ob q n hb hx
 ·exact ⟨ob.slots,u.keep b ob q n hb hx⟩
theorem Un.trans (a:Un fs ex H H1 h h1)(b:Un fs ex H1 H2 h1 h2):Un fs ex H H2 h h2 where
 keep:=λc ob q n hc hx=>b.keep c ob (a.keep c ob q n hc hx) (a.free c ob q n hx) hc hx
 slot:=λc ob q n hc hx=>by
  obtain ⟨sl,e1⟩:=a.slot c ob q n hc hx
  obtain ⟨sl',e2⟩:=b.slot c _ e1 (a.free c ob q n hx) hc hx
  exact ⟨sl',e2⟩
 free:=λc ob q n hx=>by
  obtain ⟨o',e1⟩:=a.there c ob q hx
  exact b.free c o' e1 (a.free c ob q n hx) hx
 there:=λc ob q hx=>by
  obtain ⟨o',e1⟩:=a.there c ob q hx
  exact b.there c o' e1 hx
 tups:=λc xs q=>b.tups c xs (a.tups c xs q)
 frzs:=λc ob xs q=>b.frzs c ob xs (a.frzs c ob xs q)
 tbls:=λc ps q=>by
  obtain ⟨m1,e1⟩:=a.tbls c ps q
  obtain ⟨m2,e2⟩:=b.tbls c _ e1
  exact ⟨m1++m2,by rw[e2,zG]⟩
theorem Un.kept (k:∀b u,h.get? b=some u->h'.get? b=some u):Un fs ex H H h h' :=
 ⟨λb ob q _ _ _=>k b ob q,λb ob q _ _ _=>⟨ob.slots,k b ob q⟩,λ_ _ _ n _=>n,λb ob q _=>⟨ob,k b ob q⟩,λ_ _ q=>q,λ_ _ _ q=>q,λ_ ps q=>⟨#[],by rw[q];simp⟩⟩
theorem Un.refl:Un fs ex H H h h:=Un.kept λ_ _ q=>q
theorem Un.laid (k:∀b u,h.get? b=some u->h'.get? b=some u)(hp:h.objs.size<=a)(hn:H a=none):Un fs ex H (upd H a o) h h' where
 keep:=λb u q _ _ _=>k b u q
 slot:=λb u q _ _ _=>⟨u.slots,k b u q⟩
 free:=λb u q n _=>by rw[ax (wU (wB (wq q) hp))];exact n
 there:=λb u q _=>⟨u,k b u q⟩
 tups:=λb xs q=>by rw[ax (av q hn)];exact q
 frzs:=λb u xs q=>by rw[ax (av q hn)];exact q
 tbls:=λb ps q=>⟨#[],by rw[ax (av q hn),q];simp⟩
theorem Un.write (mu:Mut (H x))(he:e=x\/H e=some (.own x))(k:∀b u,b≠e->h.get? b=some u->h'.get? b=some u)(heo:∃u,h'.get? e=some u):Un fs ex H (upd H x o) h h':=by
 have hx:∀b,H b=none->b≠x:=λb n z=>by subst z;rw[n] at mu;exact mu
 have hb:∀b,H b=none->b≠e:=λb n z=>by
  subst z
  rcases he with r | r
  ·exact hx b n r
  ·rw[n] at r;cases r
 have hm:∀b u,H b=some u->¬ Mut (some u)->b≠x:=λb u q nm z=>by subst z;rw[q] at mu;exact nm mu
 refine ⟨λb u q n _ _=>k b u (hb b n) q,λb u q n _ _=>⟨u.slots,k b u (hb b n) q⟩,λb u q n _=>by rw[ax (hx b n)];exact n,λb u q _ =>?_,
  λb xs q=>by rw[ax (hm b _ q λz=>z)];exact q,λb u xs q=>by rw[ax (hm b _ q λz=>z)];exact q,λb ps q=>⟨#[],by rw[ax (hm b _ q λz=>z),q];simp⟩⟩
 by_cases hbe:b=e
 ·subst hbe;exact heo
 ·exact ⟨u,k b u hbe q⟩
end
def trk (h:Heap)(H:Hp):List Addr:=(yl h.objs.size).filter λa=>(H a).isSome
def jT (h:Heap)(H:Hp):Heap:=PySem.W.hideAll h (trk h H)
theorem oq (h:Heap)(H:Hp):(jT h H).objs.size=h.objs.size:=PySem.W.hideAll_size _ _
theorem pS {h:Heap}{H:Hp}{b:Addr}{o:Obj}(e:h.get? b=some o)(n:H b=none):(jT h H).get? b=some o :=
 PySem.W.hideAll_get _ e λhm=>by
  have q:(H b).isSome=true:=(Bk.mp hm).2
  rw[n] at q;simp at q
theorem rG {h:Heap}{H:Hp}{b:Addr}{o:Obj}(e:(jT h H).get? b=some o):h.get? b=some o/\H b=none:=by
 have e':h.get? b=some o:=PySem.W.of_hideAll (trk h H) e
 refine ⟨e',?_⟩
 cases q:H b with
 | none=>rfl
 | some x =>
  have hm:b∈trk h H:=Bk.mpr ⟨y9.mpr (wq e'),by simp[q]⟩
  have z:(jT h H).get? b=none:=PySem.W.hideAll_none (trk h H) hm
  rw[z] at e;cases e
def rH (g h:Heap)(L:Addr):List (Addr×Obj):=(yl h.objs.size).filterMap λa=>if a=L\/(g.get? a).isSome=true then none else (h.get? a).map λo=>(a,o)
def rest (g h:Heap)(L d:Addr):List (Addr×Obj):=(rH g h L).filter λp=>decide (p.1≠d)
open PySem PySem.Spec PyProof.Rows
structure Mod (K:v5)(mg:Str->Option v8)(base:Heap):Prop where
 kin:K.In base
 glob:base.Ns wM mg
 blt:∃mb,base.Ns builtinsNs mb/\∀x:Str,x ≠ "__name__" -> mb x=xu x
 nolimit:base.NoLimit
 bmod:∃bm ob,mg "__builtins__" = some (.ref bm)/\bm≠builtinsNs/\base.get? bm=some ob/\ob.cls = .type "module" /\ ob.dict=some builtinsNs/\ob.data = .plain
structure Cx where
 prog:wx
 w:wZ
 K:v5
 mg:Str->Option v8
 base:Heap
 A:xh
 N:List Str
 s₀:v9
 H₀:Hp
 env:Env
 outer:List Env
 stack:List Env
 ex:List Addr
 fn:Str->Bool
 calm:Bool
 pn:List (Addr×Obj)
 xe:v8->v9->Prop
def frs (l:List Env):List Addr:=l.filterMap (·.frame)
abbrev Cx.fs (X:Cx):List Addr:=frs X.outer
def Vis (sc:Scope)(x:Str):Prop:=sc.names.lookup x=some .local\/sc.names.lookup x=some .cell\/sc.names.lookup x=some .free
def Loc (sc:Scope)(x:Str):Prop:=sc.names.lookup x=some .local\/sc.names.lookup x=some .cell
def Look (env:Env)(h:Heap)(m:Str->Option v8)(x:Str)(u:v8):Prop :=
 (env.kindOf x=some .local/\m x=some u)\/((env.kindOf x=some .cell\/env.kindOf x=some .free)/\∃c,env.cells.lookup x=some c/\h.IsCell c (some u))
structure Cx.Ok (X:Cx):Prop where
 mod:Mod X.K X.mg X.base
 kind:X.env.scope.kind = .function
 glob:X.env.globals=wM
 blt:X.env.builtins=builtinsNs
 above:X.s₀.heap.objs.size<=X.env.locals
 inj:∀x y c,X.env.cells.lookup x=some c->X.env.cells.lookup y=some c->x=y
 has:∀x,(X.env.kindOf x=some .cell\/X.env.kindOf x=some .free)->∃c,X.env.cells.lookup x=some c
 cab:∀x c,X.fn x=true->X.env.cells.lookup x=some c->X.s₀.heap.objs.size<=c
 hd:X.calm=true->X.A.handled=none
 frames:X.A.frames=some X.stack
 stk:X.stack=X.outer\/(X.stack=X.env :: X.outer/\X.env.frame=some X.env.locals)
 exf:∀b∈X.ex,b≠X.env.locals/\∀x c,X.env.cells.lookup x=some c->c≠b
 bs:∀b o,X.base.get? b=some o->X.s₀.heap.get? b=some o/\X.H₀ b=none
 bsz:X.base.objs.size<=X.s₀.heap.objs.size
 noex:∀b o,X.base.get? b=some o->b∉X.ex
 exfs:∀b∈X.ex,b∉X.fs
 funs:X.s₀.heap.FunFrames X.base X.outer
 frf:∀b∈X.fs,X.H₀ b=none
structure Inv (X:Cx)(pins:List (Addr×Obj))(σ:List (Option V))(H:Hp)(s:v9):Prop where
 ok:X.Ok
 os:s.os=X.s₀.os
 bare:AllBare s.gens
 base:Un X.fs X.ex X.H₀ H X.s₀.heap s.heap
 loc:∃m,s.heap.Ns X.env.locals m/\∀(i:Nat) (x:Str) (v:V),X.N[i]? = some x->σ[i]? = some (some v)->Vis X.env.scope x->∃u,RelV v u/\Look X.env s.heap m x u
 cell:∀x c,X.env.cells.lookup x=some c->∃v,s.heap.IsCell c v
 free:H X.env.locals=none
 freeC:∀x c,X.env.cells.lookup x=some c->H c=none
 pin:∀p∈X.pn++pins,s.heap.get? p.1=some p.2/\H p.1=none/\p.1≠X.env.locals/\p.1∉X.fs/\∀v,p.2.data ≠ .cell v
 hok:HOk X.prog X.w H s.heap
 len:σ.length=X.N.length
section
variable  {X:Cx}{pins:List (Addr×Obj)}{σ:List (Option V)}{H H':Hp}{s:v9}{h':Heap}
theorem Cx.Ok.nofr (ok:X.Ok){b:Addr}{o:Obj}(e:X.base.get? b=some o):b∉X.fs:=λhb=>by
 have:=(ok.funs.mem hb).1
 rw[e] at this;cases this
theorem Inv.bs (I:Inv X pins σ H s):∀b o,X.base.get? b=some o->s.heap.get? b=some o/\H b=none:=λb o e =>
 ⟨I.base.keep b o (I.ok.bs b o e).1 (I.ok.bs b o e).2 (I.ok.nofr e) (I.ok.noex b o e),I.base.free b o (I.ok.bs b o e).1 (I.ok.bs b o e).2 (I.ok.noex b o e)⟩
theorem Inv.bk (I:Inv X pins σ H s):∀b o,X.base.get? b=some o->s.heap.get? b=some o:=λb o e=>(I.bs b o e).1
theorem Inv.mod (I:Inv X pins σ H s):Mod X.K X.mg X.base:=I.ok.mod
theorem Inv.kIn (I:Inv X pins σ H s):X.K.In s.heap:=I.ok.mod.kin.keeps I.bk
theorem Inv.lt (I:Inv X pins σ H s):X.env.locals<s.heap.objs.size:=let ⟨_,hn,_⟩:=I.loc;hn.lt
theorem Inv.sz (I:Inv X pins σ H s):X.s₀.heap.objs.size<=s.heap.objs.size:=wy I.ok.above (yJ I.lt)
theorem Inv.uu (I:Inv X pins σ H s){a:Addr}(h:s.heap.objs.size<=a):a∉X.fs:=λhb=>by
 obtain ⟨_,o,ho,_⟩:=I.ok.funs.mem hb
 exact absurd (wB (wq ho) (wy I.sz h)) (xp _)
theorem Inv.cne (I:Inv X pins σ H s):∀x c,X.env.cells.lookup x=some c->c≠X.env.locals:=λx c e z=>by
 obtain ⟨v,o,ho,hd⟩:=I.cell x c e
 obtain ⟨m,⟨o',es,ep,ho',hd',_⟩,_⟩:=I.loc
 rw[z,ho'] at ho;cases ho;rw[hd'] at hd;cases hd
theorem Inv.funs (I:Inv X pins σ H s):s.heap.FunFrames X.base X.outer:=by
 have all:∀(l:List Env),(∀b∈frs l,b∈X.fs)->X.s₀.heap.FunFrames X.base l->s.heap.FunFrames X.base l:=by
  intro l
  induction l with
  | nil=>intro _ _;trivial
  | cons env r ih =>
   intro hs hl
   obtain ⟨hk,⟨L,o,hf,hn,ho,hd⟩,hr⟩:=hl
   have hL:L∈X.fs:=hs L (by unfold frs;rw[xJ,hf];exact wN)
   obtain ⟨sl,e⟩:=I.base.slot L o ho (I.ok.frf L hL) hL λz=>I.ok.exfs L z hL
   exact ⟨hk,⟨L,_,hf,hn,e,hd⟩,ih (λb hb=>hs b (by unfold frs;rw[xJ,hf];exact wD _ hb)) hr⟩
 exact all X.outer (λ_ hb=>hb) I.ok.funs
theorem Inv.stack (I:Inv X pins σ H s):s.heap.FunFrames X.base X.stack:=by
 rcases I.ok.stk with e | ⟨e,hf⟩
 ·rw[e];exact I.funs
 ·rw[e]
  obtain ⟨m,hn,_⟩:=I.loc
  refine .cons (by rw[I.ok.kind];decide) hf hn ?_ I.funs
  exact yD (wy I.ok.bsz I.ok.above)
theorem Inv.jU (I:Inv X pins σ H s):∀b∈frs X.stack,b∈X.env.locals :: X.fs:=λb hb=>by
 rcases I.ok.stk with e | ⟨e,hf⟩
 ·rw[e] at hb;exact wD _ hb
 ·rw[e] at hb
  unfold frs at hb
  rw[xJ,hf] at hb
  exact hb
theorem Inv.jV (I:Inv X pins σ H s):∀b∈frs X.stack,H b=none:=λb hb=>by
 rcases wH.mp (I.jU b hb) with e | hb
 ·rw[e];exact I.free
 ·obtain ⟨_,o,ho,_⟩:=I.ok.funs.mem hb
  exact I.base.free b o ho (I.ok.frf b hb) λz=>I.ok.exfs b z hb
theorem Inv.step {g':Array GenState}{t':Nat}{d':Drawn}{ch:List Addr}(I:Inv X pins σ H s)
  (hch:∀b∈ch,(b∈X.ex\/X.s₀.heap.objs.size<=b)/\b≠X.env.locals/\(∀x c,X.env.cells.lookup x=some c->c≠b)/\∀p∈X.pn++pins,p.1≠b)
  (keep:∀b o,b≠X.env.locals->b∉X.fs->b∉ch->s.heap.get? b=some o->H b=none->h'.get? b=some o)
  (slot:∀b o,b≠X.env.locals->b∈X.fs->b∉ch->s.heap.get? b=some o->H b=none->∃sl,h'.get? b=some { o with slots:=sl }) (free:∀b o,b∉ch->s.heap.get? b=some o->H b=none->H' b=none)
  (there:∀b o,b∉ch->s.heap.get? b=some o->∃o',h'.get? b=some o')
  (tups:∀b xs,H b=some (.tup xs)->H' b=some (.tup xs)) (frzs:∀b o u,H b=some (.frz o u)->H' b=some (.frz o u)) (tbls:∀b ps,H b=some (.tbl ps)->∃more,H' b=some (.tbl (ps++more)))
  (ns:∀m,s.heap.Ns X.env.locals m->h'.Ns X.env.locals m) (hok:HOk X.prog X.w H' h') (hg:AllBare g') :
  Inv X pins σ H' { s with heap:=h',gens:=g',drawn:=d',toks:=t' }:=by
 have neL:∀b o,X.s₀.heap.get? b=some o->b≠X.env.locals:=λb o e=>wU (wB (wq e) I.ok.above)
 have neC:∀b o,X.s₀.heap.get? b=some o->b∉X.ex->b∉ch:=λb o e hx hb=>by
  rcases (hch b hb).1 with z | z
  ·exact hx z
  ·exact absurd (wB (wq e) z) (xp _)
 have cellK:∀x c,X.env.cells.lookup x=some c->∀v,s.heap.IsCell c v->h'.IsCell c v:=λx c e v ⟨o,ho,hd⟩=>by
  have nch:c∉ch:=λz=>(hch c z).2.2.1 x c e rfl
  by_cases hc:c∈X.fs
  ·obtain ⟨sl,q⟩:=slot c o (I.cne x c e) hc nch ho (I.freeC x c e)
   exact ⟨_,q,hd⟩
  ·exact ⟨o,keep c o (I.cne x c e) hc nch ho (I.freeC x c e),hd⟩
 refine ⟨I.ok,I.os,hg,⟨λb o e n hb hx =>?_,λb o e n hb hx =>?_,λb o e n hx =>?_,λb o e hx =>?_,λb xs e=>tups b xs (I.base.tups b xs e),λb o xs e=>frzs b o xs (I.base.frzs b o xs e),λb ps e =>?_⟩,?_,λx c e =>?_,?_,λx c e =>?_,λp hp =>?_,hok,I.len⟩
 ·exact keep b o (neL b o e) hb (neC b o e hx) (I.base.keep b o e n hb hx) (I.base.free b o e n hx)
 ·obtain ⟨sl,e1⟩:=I.base.slot b o e n hb hx
  obtain ⟨sl',e2⟩:=slot b _ (neL b o e) hb (neC b o e hx) e1 (I.base.free b o e n hx)
  exact ⟨sl',e2⟩
 ·obtain ⟨o',e1⟩:=I.base.there b o e hx
  exact free b o' (neC b o e hx) e1 (I.base.free b o e n hx)
 ·obtain ⟨o',e1⟩:=I.base.there b o e hx
  exact there b o' (neC b o e hx) e1
 ·obtain ⟨m1,e1⟩:=I.base.tbls b ps e
  obtain ⟨m2,e2⟩:=tbls b _ e1
  exact ⟨m1++m2,by rw[e2,zG]⟩
 ·obtain ⟨m,hn,hl⟩:=I.loc
  refine ⟨m,ns m hn,λi x v e1 e2 e3 =>?_⟩
  obtain ⟨u,r,l⟩:=hl i x v e1 e2 e3
  refine ⟨u,r,?_⟩
  rcases l with l | ⟨k,c,e,z⟩
  ·exact .inl l
  ·exact .inr ⟨k,c,e,cellK x c e _ z⟩
 ·obtain ⟨v,z⟩:=I.cell x c e
  exact ⟨v,cellK x c e v z⟩
 ·obtain ⟨m,⟨o,_,_,ho,_⟩,_⟩:=I.loc
  exact free _ o (λz=>(hch _ z).2.1 rfl) ho I.free
 ·obtain ⟨v,o,ho,hd⟩:=I.cell x c e
  exact free c o (λz=>(hch c z).2.2.1 x c e rfl) ho (I.freeC x c e)
 ·obtain ⟨e,n,ne,nf,d⟩:=I.pin p hp
  have nch:p.1∉ch:=λz=>(hch p.1 z).2.2.2 p hp rfl
  exact ⟨keep p.1 p.2 ne nf nch e n,free p.1 p.2 nch e n,ne,nf,d⟩
theorem Inv.un {t':Nat}(I:Inv X pins σ H s)(u:Un X.fs [] H H' s.heap h')(hok:HOk X.prog X.w H' h'):Inv X pins σ H' { s with heap:=h',toks:=t' }:=by
 obtain ⟨m,⟨o,es,ep,ho,r⟩,_⟩:=id I.loc
 obtain ⟨sl,hL⟩:=u.any ho I.free (by simp)
 exact I.step (g':=s.gens) (d':=s.drawn) (ch:=[]) (λ_ z=>nomatch z) (λb o _ hb _ e n=>u.keep b o e n hb (by simp)) (λb o _ hb _ e n=>u.slot b o e n hb (by simp)) (λb o _ e n=>u.free b o e n (by simp)) (λb o _ e=>u.there b o e (by simp)) u.tups u.frzs u.tbls (λm' hm=>by
  obtain ⟨o',es',ep',ho',r'⟩:=hm
  rw[ho] at ho';cases ho'
  exact ⟨_,es',ep',hL,r'⟩) hok I.bare
theorem Inv.call {g':Array GenState}{t':Nat}{d':Drawn}{ch:List Addr}(I:Inv X pins σ H s)(u:Un (frs X.stack) ch H H' s.heap h')(hok:HOk X.prog X.w H' h')(hg:AllBare g')
  (hch:∀b∈ch,(b∈X.ex\/X.s₀.heap.objs.size<=b)/\b≠X.env.locals/\(∀x c,X.env.cells.lookup x=some c->c≠b)/\∀p∈X.pn++pins,p.1≠b) :
  Inv X pins σ H' { s with heap:=h',gens:=g',drawn:=d',toks:=t' }:=by
 obtain ⟨m,⟨o,es,ep,ho,r⟩,_⟩:=id I.loc
 obtain ⟨sl,hL⟩:=u.any ho I.free λz=>(hch _ z).2.1 rfl
 exact I.step (ch:=ch) hch (λb o hL hb hc e n=>u.keep b o e n (λz=>(wH.mp (I.jU b z)).elim hL hb) hc) (λb o _ _ hc e n=>u.any e n hc) (λb o hc e n=>u.free b o e n hc) (λb o hc e=>u.there b o e hc) u.tups u.frzs u.tbls (λm' hm=>by
  obtain ⟨o',es',ep',ho',r'⟩:=hm
  rw[ho] at ho';cases ho'
  exact ⟨_,es',ep',hL,r'⟩) hok hg
theorem Inv.turned {t':Nat}{it:Addr}(I:Inv X pins σ H s)(k:∀b o,b≠it->s.heap.get? b=some o->h'.get? b=some o)(hn:H it=none)(hL:it≠X.env.locals)
  (h1:it∈X.ex\/X.s₀.heap.objs.size<=it) (h2:∀x c,X.env.cells.lookup x=some c->c≠it) (h3:∀p∈X.pn++pins,p.1≠it):Inv X pins σ H { s with heap:=h',toks:=t' }:=by
 have nit:∀b u,H b=some u->b≠it:=λb u e z=>by rw[z,hn] at e;cases e
 refine I.step (g':=s.gens) (d':=s.drawn) (ch:=[it]) (λb hb =>?_) (λb o _ _ hc e _=>k b o (λz=>hc (by simp[z])) e) (λb o _ _ hc e _=>⟨o.slots,k b o (λz=>hc (by simp[z])) e⟩) (λ_ _ _ _ n=>n)
  (λb o hc e=>⟨o,k b o (λz=>hc (by simp[z])) e⟩) (λ_ _ e=>e) (λ_ _ _ e=>e) (λb ps e=>⟨#[],by rw[e];simp⟩) (λm hm =>?_) (λb u e =>?_) I.bare
 ·have e:b=it:=by simpa using hb
  subst e
  exact ⟨h1,hL,h2,h3⟩
 ·obtain ⟨o,es,ep,ho,r⟩:=hm
  exact ⟨o,es,ep,k _ o (yn hL) ho,r⟩
 ·refine (I.hok b u e).eR (λc v hc q=>k c v ?_ q) (λ_ q=>q) λ_ _ q=>q
  rcases hc with z | z
  ·rw[z];exact nit b u e
  ·exact nit c _ z
theorem Inv.tok (I:Inv X pins σ H s)(t:Nat):Inv X pins σ H { s with toks:=t }:=I.un (h':=s.heap) (t':=t) Un.refl I.hok
theorem Inv.kept {t':Nat}(I:Inv X pins σ H s)(k:∀b u,s.heap.get? b=some u->h'.get? b=some u):Inv X pins σ H { s with heap:=h',toks:=t' }:=I.un (Un.kept k) (I.hok.kept k)
theorem Inv.laid {a:Addr}{o:HO}{t':Nat}(I:Inv X pins σ H s)(k:∀b u,s.heap.get? b=some u->h'.get? b=some u)(hp:s.heap.objs.size<=a)(new:bx X.prog X.w (upd H a o) h' a o) :
  Inv X pins σ (upd H a o) { s with heap:=h',toks:=t' }:=I.un (Un.laid k hp (I.hok.fresh hp)) (I.hok.laid k hp new)
theorem Inv.write {x e:Addr}{o:HO}{t':Nat}(I:Inv X pins σ H s)(mu:Mut (H x))(he:e=x\/H e=some (.own x))(k:∀b u,b≠e->s.heap.get? b=some u->h'.get? b=some u)(heo:∃u,h'.get? e=some u)
  (new:bx X.prog X.w (upd H x o) h' x o):Inv X pins σ (upd H x o) { s with heap:=h',toks:=t' }:=I.un (Un.write mu he k heo) (I.hok.write mu he k heo new)
theorem Inv.fA {pins':List (Addr×Obj)}(I:Inv X pins σ H s)(h:∀p∈pins',s.heap.get? p.1=some p.2/\H p.1=none/\p.1≠X.env.locals/\p.1∉X.fs/\∀v,p.2.data ≠ .cell v):Inv X pins' σ H s :=
 ⟨I.ok,I.os,I.bare,I.base,I.loc,I.cell,I.free,I.freeC,λp hp=>(wK.mp hp).elim (λz=>I.pin p (zd _ z)) (h p),I.hok,I.len⟩
theorem hG {N:List Str}(hN:N.Nodup){i j:Nat}{x:Str}(a:N[i]? = some x)(b:N[j]? = some x):i=j:=by
 obtain ⟨h1,e1⟩:=wF.mp a
 obtain ⟨h2,e2⟩:=wF.mp b
 exact (List.getElem_inj hN).mp (e1.trans e2.symm)
theorem ot {M:Model}{A:xh}{E:v8->v9->Prop}{i:Nat}{x:Str}{v:V}{u:v8}{Q:Unit->v9->Prop}(I:Inv X pins σ H s)(hN:X.N.Nodup)(hi:X.N[i]? = some x)(hx:Loc X.env.scope x)(r:RelV v u)
  (h:∀s',Inv X pins (σ.set i (some v)) H s'->(∃a,Heap.SameBut a s.heap s'.heap/\(a=X.env.locals\/X.env.cells.lookup x=some a))->Q () s') (hf:X.fn x=true\/X.env.scope.names.lookup x=some .local:=by first | exact .inl rfl | exact .inr rfl | assumption):wL M A (storeName X.env x u) Q E s:=by
 obtain ⟨m,hn,hl⟩:=id I.loc
 have hcls:(X.env.scope.kind == .class || (X.env.scope.kind == .module && X.env.locals != X.env.globals))=false:=by rw[I.ok.kind];rfl
 have hiσ:i<σ.length:=by rw[I.len];exact (wF.mp hi).1
 have cne:=I.cne
 have tracked:∀{a:Addr} {h':Heap},(∃o,s.heap.get? a=some o/\H a=none)->Heap.SameBut a s.heap h'->HOk X.prog X.w H h':=λ{a h'} ha hs b ob e=>by
  obtain ⟨_,_,hfree⟩:=ha
  refine (I.hok b ob e).eR (λc w' hc q=>(hs.2 c ?_).trans q) (λ_ q=>q) λ_ _ q=>q
  rintro rfl
  rcases hc with rfl | hc
  ·rw[hfree] at e;cases e
  ·rw[hfree] at hc;cases hc
 rcases hx with hk | hk
 ·refine wpAny_storeName_local hk hn (λh' hn' hs =>?_) hcls
  obtain ⟨oL,_,_,hoL,_⟩:=id hn
  refine h _ ⟨I.ok,I.os,I.bare,⟨λb o e n hb hx =>?_,λb o e n hb hx =>?_,I.base.free,λb o e hx =>?_,I.base.tups,I.base.frzs,I.base.tbls⟩,⟨_,hn',λj y v' e1 e2 e3 =>?_⟩,λy c e =>?_,I.free,I.freeC,λp hp =>?_,tracked ⟨oL,hoL,I.free⟩ hs,by simpa using I.len⟩ ⟨_,hs,.inl rfl⟩
  ·exact (hs.2 b (wU (wB (wq e) I.ok.above))).trans (I.base.keep b o e n hb hx)
  ·obtain ⟨sl,e1⟩:=I.base.slot b o e n hb hx
   exact ⟨sl,(hs.2 b (wU (wB (wq e) I.ok.above))).trans e1⟩
  ·obtain ⟨o',e1⟩:=I.base.there b o e hx
   exact ⟨o',(hs.2 b (wU (wB (wq e) I.ok.above))).trans e1⟩
  ·by_cases hj:j=i
   ·subst hj
    rw[hi] at e1;cases e1
    rw[yV hiσ] at e2
    cases e2
    exact ⟨u,r,.inl ⟨hk,by simp⟩⟩
   ·rw[ze (yn hj)] at e2
    obtain ⟨u',r',q⟩:=hl j y v' e1 e2 e3
    refine ⟨u',r',?_⟩
    rcases q with ⟨k,e⟩ | ⟨k,c,e,z⟩
    ·refine .inl ⟨k,?_⟩
     have:y≠x:=λe=>hj (hG hN e1 (e ▸ hi))
     simp[this,e]
    ·exact .inr ⟨k,c,e,z.sameBut hs (cne y c e)⟩
  ·obtain ⟨w',z⟩:=I.cell y c e
   exact ⟨w',z.sameBut hs (cne y c e)⟩
  ·obtain ⟨e,n,ne,nf,d⟩:=I.pin p hp
   exact ⟨(hs.2 p.1 ne).trans e,n,ne,nf,d⟩
 ·have hfn:X.fn x=true:=by
   rcases hf with z | z
   ·exact z
   ·rw[z] at hk;cases hk
  obtain ⟨c,hc⟩:=I.ok.has x (.inl hk)
  obtain ⟨w',z⟩:=I.cell x c hc
  refine wpAny_storeName_cell I.ok.kind hk hc z (λh' hc' hs =>?_)
  obtain ⟨oc,hoc,hocd⟩:=id z
  refine h { s with heap:=h' } ⟨I.ok,I.os,I.bare,⟨λb o e n hb hx =>?_,λb o e n hb hx =>?_,I.base.free,λb o e hx =>?_,I.base.tups,I.base.frzs,I.base.tbls⟩,⟨m,hn.sameBut hs (yn (cne x c hc)),λj y v' e1 e2 e3 =>?_⟩,λy c' e =>?_,I.free,I.freeC,λp hp =>?_,tracked ⟨oc,hoc,I.freeC x c hc⟩ hs,by simpa using I.len⟩ ⟨c,hs,.inr hc⟩
  ·exact (hs.2 b (wU (wB (wq e) (I.ok.cab x c hfn hc)))).trans (I.base.keep b o e n hb hx)
  ·obtain ⟨sl,e1⟩:=I.base.slot b o e n hb hx
   exact ⟨sl,(hs.2 b (wU (wB (wq e) (I.ok.cab x c hfn hc)))).trans e1⟩
  ·obtain ⟨o',e1⟩:=I.base.there b o e hx
   exact ⟨o',(hs.2 b (wU (wB (wq e) (I.ok.cab x c hfn hc)))).trans e1⟩
  ·by_cases hj:j=i
   ·subst hj
    rw[hi] at e1;cases e1
    rw[yV hiσ] at e2
    cases e2
    exact ⟨u,r,.inr ⟨.inl hk,c,hc,hc'⟩⟩
   ·rw[ze (yn hj)] at e2
    obtain ⟨u',r',q⟩:=hl j y v' e1 e2 e3
    refine ⟨u',r',?_⟩
    rcases q with q | ⟨k,c',e,z'⟩
    ·exact .inl q
    ·refine .inr ⟨k,c',e,z'.sameBut hs ?_⟩
     rintro rfl
     exact hj (hG hN e1 (I.ok.inj _ _ _ e hc ▸ hi))
  ·by_cases hcc:c'=c
   ·subst hcc;exact ⟨_,hc'⟩
   ·obtain ⟨w2,z2⟩:=I.cell y c' e
    exact ⟨w2,z2.sameBut hs hcc⟩
  ·obtain ⟨e,n,ne,nf,d⟩:=I.pin p hp
   refine ⟨(hs.2 p.1 ?_).trans e,n,ne,nf,d⟩
   intro q
   rw[q,hoc] at e
   have q':oc=p.2:=wJ e
   exact d w' (by rw[<- q'];exact hocd)
theorem dR {M:Model}{A:xh}{E:v8->v9->Prop}{i:Nat}{x:Str}{v:V}{u:v8}{Q:Unit->v9->Prop}(I:Inv X pins σ H s)(hN:X.N.Nodup)(hi:X.N[i]? = some x)(hx:Loc X.env.scope x)(r:RelV v u)
  (h:∀s',Inv X pins (σ.set i (some v)) H s'->Q () s') (hf:X.fn x=true\/X.env.scope.names.lookup x=some .local:=by first | exact .inl rfl | exact .inr rfl | assumption):wL M A (storeName X.env x u) Q E s :=
 ot I hN hi hx r (λs' I' _=>h s' I') hf
theorem Inv.tV {s':v9}{ch:List Addr}(I:Inv X pins σ H s)(ho:s'.os=s.os)(u:Un (frs X.stack) ch H H' s.heap s'.heap)(hok:HOk X.prog X.w H' s'.heap)(hg:AllBare s'.gens)
  (hch:∀b∈ch,(b∈X.ex\/X.s₀.heap.objs.size<=b)/\b≠X.env.locals/\(∀x c,X.env.cells.lookup x=some c->c≠b)/\∀p∈X.pn++pins,p.1≠b):Inv X pins σ H' s':=by
 obtain ⟨h',g',d',t',o'⟩:=s'
 have e:o'=s.os:=ho
 subst e
 exact I.call (g':=g') (t':=t') (d':=d') u hok hg hch
end
abbrev XK:=v8->Option Addr->Hp->Prop
abbrev St:=List (Option V)
abbrev VK:=V->Hp->Prop
abbrev TE:=St->Hp->VK->Prop
abbrev TT:=St->Hp->(Bool->Hp->Prop)->Prop
abbrev TA:=St->Hp->(List V->Hp->Prop)->Prop
structure Ends where
 nx:St->Hp->Prop
 rt:VK
 bk:St->Hp->Prop:=λ_ _=>False
 ct:St->Hp->Prop:=λ_ _=>False
abbrev TS:=Ends->St->Hp->Prop
def EP (X:Cx)(pins:List (Addr×Obj))(σ:St)(Q:VK)(u:v8)(s':v9):Prop:=∃v H',Inv X pins σ H' s'/\RelV v u/\Q v H'
def TP (X:Cx)(pins:List (Addr×Obj))(σ:St)(Q:Bool->Hp->Prop)(b:Bool)(s':v9):Prop:=∃H',Inv X pins σ H' s'/\Q b H'
def AP (X:Cx)(pins:List (Addr×Obj))(σ:St)(Q:List V->Hp->Prop)(us:List v8)(s':v9):Prop:=∃vs H',Inv X pins σ H' s'/\Vals vs us/\Q vs H'
def SP (X:Cx)(pins:List (Addr×Obj))(D:Ends)(f:Flow)(s':v9):Prop :=
 match f with
 | .next=>∃σ' H',Inv X pins σ' H' s'/\D.nx σ' H'
 | .brk=>∃σ' H',Inv X pins σ' H' s'/\D.bk σ' H'
 | .cont=>∃σ' H',Inv X pins σ' H' s'/\D.ct σ' H'
 | .ret u=>∃v σ' H',Inv X pins σ' H' s'/\RelV v u/\D.rt v H'
def PE (X:Cx)(e:Expr)(t:TE):Prop :=
 ∀(pins:List (Addr×Obj)) (s:v9) (σ:St) (H:Hp) (Q:VK),Inv X pins σ H s->t σ H Q->wL (wV X.prog X.w) X.A (eval e X.env) (EP X pins σ Q) X.xe s
def PT (X:Cx)(e:Expr)(t:TT):Prop :=
 ∀(pins:List (Addr×Obj)) (s:v9) (σ:St) (H:Hp) (Q:Bool->Hp->Prop),Inv X pins σ H s->t σ H Q->wL (wV X.prog X.w) X.A (isTrue e X.env (eval e X.env)) (TP X pins σ Q) X.xe s
def PW (X:Cx)(e:Expr)(t:TT):Prop :=
 ∀(whole:Sem v8) (pins:List (Addr×Obj)) (s:v9) (σ:St) (H:Hp) (Q:Bool->Hp->Prop),Inv X pins σ H s->t σ H Q->wL (wV X.prog X.w) X.A (isTrue e X.env whole) (TP X pins σ Q) X.xe s
theorem PW.pt {X:Cx}{e:Expr}{t:TT}(h:PW X e t):PT X e t:=h _
def PA (X:Cx)(es:List Expr)(t:TA):Prop :=
 ∀(pos:Pos) (pins:List (Addr×Obj)) (s:v9) (σ:St) (H:Hp) (Q:List V->Hp->Prop),Inv X pins σ H s->t σ H Q->wL (wV X.prog X.w) X.A (spliced (yU pos (wX es X.env))) (AP X pins σ Q) X.xe s
def PS (X:Cx)(st:Stmt)(t:TS):Prop :=
 ∀(pins:List (Addr×Obj)) (s:v9) (σ:St) (H:Hp) (D:Ends),Inv X pins σ H s->t D σ H->wL (wV X.prog X.w) X.A (exec st X.env) (SP X pins D) X.xe s
def PSs (X:Cx)(st:List Stmt)(t:TS):Prop :=
 ∀(pins:List (Addr×Obj)) (s:v9) (σ:St) (H:Hp) (D:Ends),Inv X pins σ H s->t D σ H->wL (wV X.prog X.w) X.A (execs st X.env) (SP X pins D) X.xe s
theorem thn {α:Type}{t:Sem α}{Q Q':α -> v9->Prop}{M:Model}{A:xh}{E:v8->v9->Prop}{s:v9}(h:wL M A t Q E s)(hQ:∀a s,Q a s->Q' a s):wL M A t Q' E s:=xm h hQ λ_ _ x=>x
open PySem PySem.Spec PyProof.Rows
section
variable  {X:Cx}
theorem bin {a b:Expr}{ta tb:TE}(ha:PE X a ta)(hb:PE X b tb){pins:List (Addr×Obj)}{s:v9}{σ:St}{H:Hp}{R:V->V->Hp->Prop}(I:Inv X pins σ H s)(h:ta σ H λx H1=>tb σ H1 λy H2=>R x y H2)
  {α:Type} {Q:α -> v9->Prop} {f:v8->v8->Sem α}
  (hf:∀v u s2 x y H2,Inv X pins σ H2 s2->RelV x v->RelV y u->R x y H2->wL (wV X.prog X.w) X.A (f v u) Q X.xe s2) :
  wL (wV X.prog X.w) X.A (eval a X.env) (λv s₁=>wL (wV X.prog X.w) X.A (eval b X.env) (λu s₂=>wL (wV X.prog X.w) X.A (f v u) Q X.xe s₂) X.xe s₁) X.xe s:=by
 refine thn (ha pins s σ H _ I h) λv s1 ⟨x,H1,I1,r1,q1⟩ =>?_
 refine thn (hb pins s1 σ H1 _ I1 q1) λu s2 ⟨y,H2,I2,r2,q2⟩ =>?_
 exact hf v u s2 x y H2 I2 r1 r2 q2
def uv (i:Nat):TE:=λσ H Q=>∃v,σ[i]? = some (some v)/\Q v H
def tC (v:V):TE:=λ_ H Q=>Q v H
theorem uw {i:Nat}{x:Str}{pos:Pos}(hN:X.N[i]? = some x)(hv:Vis X.env.scope x)(hd:(x == ("__debug__" : Str))=false:=by decide)(hcd:(x == ("__classdict__" : Str))=false:=by decide):PE X (.Name x pos) (uv i):=by
 intro pins s σ H Q I h
 obtain ⟨v,e,h⟩:=h
 obtain ⟨m,hn,hl⟩:=I.loc
 obtain ⟨u,r,l⟩:=hl i x v hN e hv
 have fin:EP X pins σ Q u s:=⟨v,H,I,r,h⟩
 rcases l with ⟨hk,hm⟩ | ⟨hk,c,hc,hcell⟩
 ·exact BD (AB I.ok.kind hk hn hm fin) hd
 ·rcases hk with hk | hk
  ·exact BD (AJ I.ok.kind hk hc hcell fin) hd
  ·exact BD (wpAny_loadName_free I.ok.kind hk hc hcell fin hcd) hd
theorem ai {i j pos}:PE X (.Constant (.int i) j pos) (tC (.int i)):=λ_ _ _ H _ I h=>wpAny_Constant_int ⟨.int i,H,I.tok _,⟨_,rfl⟩,h⟩
theorem m9 {b j pos}:PE X (.Constant (.bool b) j pos) (tC (.bl b)):=λ_ _ _ H _ I h=>Constant_bool ⟨.bl b,H,I,rfl,h⟩
theorem bo {j pos}:PE X (.Constant .none j pos) (tC .non):=λ_ _ _ H _ I h=>Constant_none ⟨.non,H,I,rfl,h⟩
theorem aq {x j pos}:PE X (.Constant (.str x) j pos) (tC (.str x)):=λ_ _ _ H _ I h=>Calls.Constant_str ⟨.str x,H,I.tok _,⟨_,rfl⟩,h⟩
def Gl (X:Cx)(x:Str):Prop:=X.env.kindOf x=some .globalImplicit
theorem eG {E:v8->v9->Prop}{pins:List (Addr×Obj)}{s:v9}{σ:St}{H:Hp}{x:Str}{u:v8}{pos:Pos}{Q:v8->v9->Prop}(I:Inv X pins σ H s)(hg:Gl X x)(hm:X.mg x=some u)(h:Q u s)
  (hd:(x == ("__debug__" : Str))=false:=by decide):wL (wV X.prog X.w) X.A (eval (.Name x pos) X.env) Q E s :=
 zD I.ok.kind hg (Calls.loadGlobal_global (by rw[I.ok.glob];exact I.mod.glob.keeps I.bk) hm h) hd
theorem eZ {E:v8->v9->Prop}{pins:List (Addr×Obj)}{s:v9}{σ:St}{H:Hp}{x:Str}{u:v8}{pos:Pos}{Q:v8->v9->Prop}(I:Inv X pins σ H s)(hg:Gl X x)(hm:X.mg x=none)(hv:xu x=some u)(h:Q u s)
  (hn:x ≠ "__name__" := by decide) (hd:(x == ("__debug__" : Str))=false:=by decide):wL (wV X.prog X.w) X.A (eval (.Name x pos) X.env) Q E s:=by
 obtain ⟨mb,h1,h2⟩:=I.mod.blt
 exact zD I.ok.kind hg (Calls.loadGlobal_builtin (by rw[I.ok.glob];exact I.mod.glob.keeps I.bk) hm (by rw[I.ok.blt];exact h1.keeps I.bk) ((h2 x hn).trans hv) h) hd
theorem bA {x:Str}{v:V}{u:v8}{pos:Pos}(hg:Gl X x)(hm:X.mg x=some u)(r:RelV v u)(hd:(x == ("__debug__" : Str))=false:=by decide):PE X (.Name x pos) (tC v) :=
 λ_ _ _ H _ I h=>eG I hg hm ⟨v,H,I,r,h⟩ hd
theorem jW {x:Str}{v:V}{u:v8}{pos:Pos}(hg:Gl X x)(hm:X.mg x=none)(hv:xu x=some u)(r:RelV v u)(hn:x ≠ "__name__" := by decide)(hd:(x == ("__debug__" : Str))=false:=by decide):PE X (.Name x pos) (tC v) :=
 λ_ _ _ H _ I h=>eZ I hg hm hv ⟨v,H,I,r,h⟩ hn hd
variable  {a b:Expr}{ta tb:TE}{pos:Pos}
def PC (X:Cx)(op:CmpOp)(a b:Expr)(t:TE):Prop :=
 ∀(pins:List (Addr×Obj)) (s:v9) (σ:St) (H:Hp) (Q:VK),Inv X pins σ H s->t σ H Q →
  wL (wV X.prog X.w) X.A (eval a X.env) (λv s₁=>wL (wV X.prog X.w) X.A (eval b X.env) (λu s₂=>wL (wV X.prog X.w) X.A (xn op v u) (EP X pins σ Q) X.xe s₂) X.xe s₁) X.xe s
theorem pT (b:Expr){op:CmpOp}(h:op ≠ .In)(h2:op ≠ .NotIn):behindInMarks op b=false:=by
 have e1:(op == CmpOp.In)=false:=by cases op <;> first | rfl | exact absurd rfl h
 have e2:(op == CmpOp.NotIn)=false:=by cases op <;> first | rfl | exact absurd rfl h2
 cases b <;> simp[behindInMarks,e1,e2]
def tB (t:TE):TT:=λσ H Q=>t σ H λx H1=>∃c,x = .bl c/\Q c H1
theorem pt_cmp {op:CmpOp}{t:TE}(h:PC X op a b t)(h1:behindInMarks op b=false:=by first | exact pT _ (by decide) (by decide) | rfl):PT X (.Compare a [op] [b] pos) (tB t):=by
 intro pins s σ H Q I hw
 refine Av (thn (h pins s σ H _ I hw) λv s1 h1=>thn h1 λu s2 h2=>thn h2 λc s3 ⟨x,H1,I1,r1,q1⟩ =>?_) h1
 obtain ⟨d,rfl,q⟩:=q1
 cases r1
 exact xK ⟨H1,I1,q⟩
theorem cY {e:Expr}{t:TE}(h:PE X e t)(he:∀whole,isTrue e X.env whole=(do let v ← whole;standAt e.pos;BK [v] (truthy v)):=by intro _;rfl):PT X e (tB t):=by
  intro pins s σ H Q I hw
  refine isTrue_plain (thn (h pins s σ H _ I hw) λv s1 ⟨x,H1,I1,r1,q1⟩ =>?_) (he _)
  obtain ⟨d,rfl,q⟩:=q1
  cases r1
  exact xK ⟨H1,I1,q⟩
variable  {tA tB':TT}{rest:List Expr}
def tAnd (t u:TT):TT:=λσ H Q=>t σ H λc H1=>if c=true then u σ H1 Q else Q false H1
def tOr (t u:TT):TT:=λσ H Q=>t σ H λc H1=>if c=true then Q true H1 else u σ H1 Q
def tNot (t:TT):TT:=λσ H Q=>t σ H λc H1=>Q (!c) H1
theorem cB (ha:PT X a tA):PW X (.BoolOp .And [a] pos) tA:=by
 intro wh pins s σ H Q I h
 refine isTrue_and (thn (ha pins s σ H Q I h) λc s1 e =>?_)
 cases c with
 | true=>exact isTrue_and_nil e
 | false=>exact e
theorem bS (ha:PT X a tA):PW X (.BoolOp .Or [a] pos) tA:=by
 intro wh pins s σ H Q I h
 refine isTrue_or (thn (ha pins s σ H Q I h) λc s1 e =>?_)
 cases c with
 | false=>exact isTrue_or_nil e
 | true=>exact e
theorem cZ (ha:PT X a tA)(hb:PW X (.BoolOp .And (b :: rest) pos) tB'):PW X (.BoolOp .And (a :: b :: rest) pos) (tAnd tA tB'):=by
 intro wh pins s σ H Q I h
 refine isTrue_and (thn (ha pins s σ H _ I h) λc s1 ⟨H1,I1,q1⟩ =>?_)
 cases c with
 | true=>exact hb wh pins s1 σ H1 Q I1 q1
 | false=>exact ⟨H1,I1,q1⟩
theorem bW (ha:PT X a tA)(hb:PW X (.BoolOp .Or (b :: rest) pos) tB'):PW X (.BoolOp .Or (a :: b :: rest) pos) (tOr tA tB'):=by
 intro wh pins s σ H Q I h
 refine isTrue_or (thn (ha pins s σ H _ I h) λc s1 ⟨H1,I1,q1⟩ =>?_)
 cases c with
 | true=>exact ⟨H1,I1,q1⟩
 | false=>exact hb wh pins s1 σ H1 Q I1 q1
theorem hJ (ha:PT X a tA):PT X (.UnaryOp .Not a pos) (tNot tA):=by
 intro pins s σ H Q I h
 exact isTrue_not (ha pins s σ H (λc H1=>Q (!c) H1) I h)
def vh (ta tb:TE):TE:=λσ H Q=>ta σ H λx H1=>∃c,x = .bl c/\if c=true then tb σ H1 Q else Q (.bl false) H1
def tOrV (ta tb:TE):TE:=λσ H Q=>ta σ H λx H1=>∃c,x = .bl c/\if c=true then Q (.bl true) H1 else tb σ H1 Q
theorem mj {op}{t:TE}(h:PE X a t):PE X (.BoolOp op [a] pos) t:=λpins s σ H Q I hw=>BoolOp_one (h pins s σ H Q I hw)
theorem ux (ha:PE X a ta)(hb:PE X (.BoolOp .And (b :: rest) pos) tb):PE X (.BoolOp .And (a :: b :: rest) pos) (vh ta tb):=by
 intro pins s σ H Q I h
 refine BoolOp_and (thn (ha pins s σ H _ I h) λv s1 ⟨x,H1,I1,r1,q1⟩ =>?_)
 obtain ⟨c,rfl,q1⟩:=q1
 cases r1
 refine xK ?_
 cases c with
 | true=>exact hb pins s1 σ H1 Q I1 q1
 | false=>exact ⟨.bl false,H1,I1,rfl,q1⟩
theorem tW (ha:PE X a ta)(hb:PE X (.BoolOp .Or (b :: rest) pos) tb):PE X (.BoolOp .Or (a :: b :: rest) pos) (tOrV ta tb):=by
 intro pins s σ H Q I h
 refine BoolOp_or (thn (ha pins s σ H _ I h) λv s1 ⟨x,H1,I1,r1,q1⟩ =>?_)
 obtain ⟨c,rfl,q1⟩:=q1
 cases r1
 refine xK ?_
 cases c with
 | false=>exact hb pins s1 σ H1 Q I1 q1
 | true=>exact ⟨.bl true,H1,I1,rfl,q1⟩
end
open PySem PySem.Spec PyProof.Rows
def SqL (K:v5)(H:Hp)(a:Addr)(xs:List V):Prop :=
 Rd H a (.lst xs) ∨
  ∃(o:Obj) (its:Array v8) (n:Nat),K.lookup a=some o/\o.cls = .type "list" /\ o.dict=none/\o.data = .seq its n/\its.size<=wa/\Vals xs its.toList
def SqT (K:v5)(H:Hp)(a:Addr)(xs:List V):Prop :=
 Rd H a (.tup xs) ∨
  ∃(o:Obj) (its:Array v8) (n:Nat),K.lookup a=some o/\o.cls = .type "tuple" /\ o.data = .seq its n/\its.size<=wa/\Vals xs its.toList
def absV:v8->Option V
 | .none=>some .non
 | .bool b=>some (.bl b)
 | .int i _=>some (.int i)
 | .str x _=>some (.str x)
 | .bytes b _=>some (.byt b)
 | .float b _=>some (.flt b)
 | .ref a=>some (.ref a)
 | .type n=>some (.ty n)
 | _=>none
theorem RelV.abs {x:V}{u:v8}(r:RelV x u):absV u=some x:=by
 cases x with
 | non=>cases r;rfl
 | bl _=>cases r;rfl
 | int _=>obtain ⟨t,rfl⟩:=r;rfl
 | str _=>obtain ⟨t,rfl⟩:=r;rfl
 | byt _=>obtain ⟨t,rfl⟩:=r;rfl
 | flt _=>obtain ⟨t,rfl⟩:=r;rfl
 | ref _=>cases r;rfl
 | ty _=>cases r;rfl
theorem RelV.inj {x y:V}{u:v8}(r:RelV x u)(q:RelV y u):x=y:=wJ (r.abs.symm.trans q.abs)
theorem Vals.inj:∀{xs ys:List V} {us:List v8},Vals xs us->Vals ys us->xs=ys
 | _,_,_,.nil,.nil=>rfl
 | _,_,_,.cons r t,.cons r' t'=>by rw[r.inj r',Vals.inj t t']
section
variable  {X:Cx}{pins:List (Addr×Obj)}{σ:St}{H:Hp}{s:v9}{a:Addr}{xs ys:List V}
theorem SqL.of {K:v5}(h:H a=some (.lst xs)):SqL K H a xs :=.inl (.inl h)
theorem SqT.of {K:v5}(h:H a=some (.tup xs)):SqT K H a xs :=.inl (.inl h)
theorem Inv.list (I:Inv X pins σ H s)(h:SqL X.K H a xs):∃its:List v8,Vals xs its/\PlainL s.heap a its.toArray/\xs.length<=wa:=by
 rcases h with h | ⟨o,its,n,hk,hc,hd,hs,hz,r⟩
 ·obtain ⟨z,its,n,r,e⟩:=h.ok I.hok
  exact ⟨its,r,⟨_,n,e,rfl,rfl,rfl⟩,z⟩
 ·refine ⟨its.toList,r,⟨o,n,I.kIn a o hk,hc,hd,by simpa using hs⟩,?_⟩
  have e:=r.length
  simp only[xi] at e
  omega
theorem Inv.tuple (I:Inv X pins σ H s)(h:SqT X.K H a xs):∃its:List v8,Vals xs its/\IsTup s.heap a its.toArray/\xs.length<=wa:=by
 rcases h with h | ⟨o,its,n,hk,hc,hs,hz,r⟩
 ·obtain ⟨z,its,r,p⟩:=h.ok I.hok
  exact ⟨its,r,p.tup,z⟩
 ·refine ⟨its.toList,r,⟨o,I.kIn a o hk,hc,n,by simpa using hs⟩,?_⟩
  have e:=r.length
  simp only[xi] at e
  omega
theorem Inv.hU (I:Inv X pins σ H s)(h:SqL X.K H a xs)(h':SqL X.K H a ys):xs=ys:=by
 obtain ⟨its,r,⟨o,n,e,_,_,d⟩,_⟩:=I.list h
 obtain ⟨its',r',⟨o',n',e',_,_,d'⟩,_⟩:=I.list h'
 rw[e] at e';cases e'
 rw[d] at d'
 injection d' with d1 _
 have:its=its':=by simpa using congrArg Array.toList d1
 subst this
 exact r.inj r'
theorem Inv.gg (I:Inv X pins σ H s)(h:SqT X.K H a xs)(h':SqT X.K H a ys):xs=ys:=by
 obtain ⟨its,r,⟨o,e,_,n,d⟩,_⟩:=I.tuple h
 obtain ⟨its',r',⟨o',e',_,n',d'⟩,_⟩:=I.tuple h'
 rw[e] at e';cases e'
 rw[d] at d'
 injection d' with d1 _
 have:its=its':=by simpa using congrArg Array.toList d1
 subst this
 exact r.inj r'
end
abbrev Cx.hV (X:Cx)(E:v8->v9->Prop):Cx:={ X with xe:=E }
abbrev Cx.nox (X:Cx):Cx:=X.hV λ_ _=>False
theorem Cx.Ok.hV {X:Cx}(ok:X.Ok)(E:v8->v9->Prop):(X.hV E).Ok :=
 ⟨ok.mod,ok.kind,ok.glob,ok.blt,ok.above,ok.inj,ok.has,ok.cab,ok.hd,ok.frames,ok.stk,ok.exf,ok.bs,ok.bsz,ok.noex,ok.exfs,ok.funs,ok.frf⟩
theorem Cx.Ok.c0 {X:Cx}{E:v8->v9->Prop}(ok:(X.hV E).Ok):X.Ok :=
 ⟨ok.mod,ok.kind,ok.glob,ok.blt,ok.above,ok.inj,ok.has,ok.cab,ok.hd,ok.frames,ok.stk,ok.exf,ok.bs,ok.bsz,ok.noex,ok.exfs,ok.funs,ok.frf⟩
section
variable  {X:Cx}{pins:List (Addr×Obj)}{σ:St}{H:Hp}{s:v9}{E:v8->v9->Prop}
theorem Inv.hV (I:Inv X pins σ H s)(E:v8->v9->Prop):Inv (X.hV E) pins σ H s:=⟨I.ok.hV E,I.os,I.bare,I.base,I.loc,I.cell,I.free,I.freeC,I.pin,I.hok,I.len⟩
theorem Inv.c0 (I:Inv (X.hV E) pins σ H s):Inv X pins σ H s:=⟨I.ok.c0,I.os,I.bare,I.base,I.loc,I.cell,I.free,I.freeC,I.pin,I.hok,I.len⟩
theorem SP.c0 {D:Ends}{f:Flow}{s':v9}(h:SP (X.hV E) pins D f s'):SP X pins D f s':=by
 cases f with
 | next=>obtain ⟨σ',H',I,q⟩:=h;exact ⟨σ',H',I.c0,q⟩
 | brk=>obtain ⟨σ',H',I,q⟩:=h;exact ⟨σ',H',I.c0,q⟩
 | cont=>obtain ⟨σ',H',I,q⟩:=h;exact ⟨σ',H',I.c0,q⟩
 | ret u=>obtain ⟨v,σ',H',I,r,q⟩:=h;exact ⟨v,σ',H',I.c0,r,q⟩
theorem PSs.nox {st:List Stmt}{t:TS}(h:PSs X.nox st t):PSs X st t:=λpins s σ H D I hw =>
 xm (h pins s σ H D (I.hV _) hw) (λ_ _ q=>q.c0) λ_ _ z=>False.elim z
end
section
variable  {X:Cx}{st:Stmt}{rest:List Stmt}{t u:TS}{e:Expr}{te:TE}{pos:Pos}
def tX:TS:=λD σ H=>D.nx σ H
def vi (t u:TS):TS:=λD σ H=>t { D with nx:=u D } σ H
theorem aB:PSs X [] tX:=λ_ _ σ H _ I h=>yx ⟨σ,H,I,h⟩
theorem ag (h1:PS X st t)(h2:PSs X rest u):PSs X (st :: rest) (vi t u):=by
 intro pins s σ H D I h
 refine Af (thn (h1 pins s σ H { D with nx:=u D } I h) λf s1 q =>?_)
 cases f with
 | next =>
  obtain ⟨σ',H',I',q⟩:=q
  exact h2 pins s1 σ' H' D I' q
 | ret v=>exact q
 | brk=>exact q
 | cont=>exact q
theorem aj (h1:PS X st t):PSs X [st] t:=by
 intro pins s σ H D I h
 refine Af (thn (h1 pins s σ H D I h) λf s1 q =>?_)
 cases f with
 | next=>exact yx q
 | ret v=>exact q
 | brk=>exact q
 | cont=>exact q
theorem Inv.quiet {pins:List (Addr×Obj)}{σ:St}{H:Hp}{s:v9}(I:Inv X pins σ H s):interactive X.env=false:=by simp[interactive,I.ok.kind]
def vj (te:TE):TS:=λD σ H=>te σ H λ_ H1=>D.nx σ H1
theorem bX (he:PE X e te)(hs:swapsWith e none pos.line X.env=pure false:=by rfl):PS X (.Expr e pos) (vj te):=by
 intro pins s σ H D I h
 exact wpAny_Expr_any (thn (he pins s σ H _ I h) λv s1 ⟨x,H1,I1,r1,q1⟩=>⟨σ,H1,I1,q1⟩) I.quiet hs
def tRet (te:TE):TS:=λD σ H=>te σ H D.rt
theorem az (he:PE X e te):PS X (.Return (some e) pos) (tRet te):=by
 intro pins s σ H D I h
 exact wpAny_Return_some (thn (he pins s σ H _ I h) λv s1 ⟨x,H1,I1,r1,q1⟩=>⟨x,σ,H1,I1,r1,q1⟩)
def tIfS (c:TT)(t u:TS):TS:=λD σ H=>c σ H λb H1=>if b=true then t D σ H1 else u D σ H1
theorem aP {c:Expr}{a b:List Stmt}{tc:TT}(hc:PT X c tc)(ha:PSs X a t)(hb:PSs X b u):PS X (.If c a b pos) (tIfS tc t u):=by
 intro pins s σ H D I h
 refine wpAny_If (thn (hc pins s σ H _ I h) λd s1 ⟨H1,I1,q1⟩ =>?_)
 cases d with
 | true=>exact ha pins s1 σ H1 D I1 q1
 | false=>exact hb pins s1 σ H1 D I1 q1
end
abbrev TG:=V->St->Hp->(St->Hp->Prop)->Prop
abbrev TGs:=List V->St->Hp->(St->Hp->Prop)->Prop
def PG (X:Cx)(target:Expr)(t:TG):Prop :=
 ∀(pins:List (Addr×Obj)) (s:v9) (σ:St) (H:Hp) (v:V) (u:v8) (Q:St->Hp->Prop),Inv X pins σ H s->RelV v u->t v σ H Q →
  wL (wV X.prog X.w) X.A (assign target X.env u) (λ_ s'=>∃σ' H',Inv X pins σ' H' s'/\Q σ' H') X.xe s
def PGs (X:Cx)(ts:List Expr)(t:TGs):Prop :=
 ∀(pins:List (Addr×Obj)) (s:v9) (σ:St) (H:Hp) (vs:List V) (us:List v8) (Q:St->Hp->Prop),Inv X pins σ H s->Vals vs us->t vs σ H Q →
  wL (wV X.prog X.w) X.A (assignInOrder ((assignEach ts X.env).map (·.2)) us) (λ_ s'=>∃σ' H',Inv X pins σ' H' s'/\Q σ' H') X.xe s
abbrev uy:=V->V->V->Hp->(Hp->Prop)->Prop
def vk (X:Cx)(t:uy):Prop :=
 ∀(pins:List (Addr×Obj)) (s:v9) (σ:St) (H:Hp) (o i v:V) (ov iv u:v8) (Q:Hp->Prop),Inv X pins σ H s->RelV o ov->RelV i iv->RelV v u->t o i v H Q →
  wL (wV X.prog X.w) X.A (setItem ov iv u) (λ_ s'=>∃H',Inv X pins σ H' s'/\Q H') X.xe s
abbrev TIp:=V->V->Hp->VK->Prop
def PIp (X:Cx)(op:Operator)(t:TIp):Prop :=
 ∀(pins:List (Addr×Obj)) (s:v9) (σ:St) (H:Hp) (x y:V) (v u:v8) (Q:VK),Inv X pins σ H s->RelV x v->RelV y u->t x y H Q →
  wL (wV X.prog X.w) X.A (inplaceOp op v u) (EP X pins σ Q) X.xe s
section
variable  {X:Cx}{pos:Pos}
def dS (i:Nat):TG:=λv σ H Q=>Q (σ.set i (some v)) H
theorem aV {i:Nat}{x:Str}(hN:X.N.Nodup)(hi:X.N[i]? = some x)(hx:Loc X.env.scope x)(hf:X.fn x=true\/X.env.scope.names.lookup x=some .local:=by first | exact .inl rfl | exact .inr rfl | assumption):PG X (.Name x pos) (dS i):=by
 intro pins s σ H v u Q I r h
 exact wpAny_assign_Name (dR I hN hi hx r (λs' I'=>⟨_,H,I',h⟩) hf)
def vm:TGs:=λvs σ H Q=>vs=[]/\Q σ H
def pU (t:TG)(u:TGs):TGs:=λvs σ H Q=>∃v r,vs=v :: r/\t v σ H λσ' H'=>u r σ' H' Q
theorem nc:PGs X [] vm:=by
 intro pins s σ H vs us Q I r h
 obtain ⟨e,h⟩:=h
 subst e
 cases r
 exact assignInOrder_nil ⟨σ,H,I,h⟩
theorem fC {e:Expr}{es:List Expr}{t:TG}{u:TGs}(h1:PG X e t)(h2:PGs X es u)
  (hs:(assignEach (e :: es) X.env).map (·.2)=assign e X.env :: (assignEach es X.env).map (·.2):=by rfl):PGs X (e :: es) (pU t u):=by
 intro pins s σ H vs us Q I r h
 obtain ⟨v,vr,e1,h⟩:=h
 subst e1
 cases r with
 | cons r rr =>
  rw[hs]
  refine assignInOrder_cons (thn (h1 pins s σ H _ _ _ I r h) λ_ s1 ⟨σ1,H1,I1,q1⟩ =>?_)
  exact h2 pins s1 σ1 H1 _ _ Q I1 rr q1
def vn (K:v5)(n:Nat)(t:TGs):TG:=λv σ H Q=>∃a xs,v = .ref a/\SqT K H a xs/\xs.length=n/\t xs σ H Q
theorem pV {es:List Expr}{k:Nat}{t:TGs}{n:Nat}(hc:X.calm=true)(h:PGs X es t)
  (hn:(assignEach es X.env).length=n:=by rfl) (hst:(assignEach es X.env).findIdx? (·.1)=none:=by rfl):PG X (.Tuple es k pos) (vn X.K n t):=by
 intro pins s σ H v u Q I r hw
 obtain ⟨a,xs,e1,hq,hl,hw⟩:=hw
 subst e1
 cases r
 obtain ⟨its,rv,ht,hz⟩:=I.tuple hq
 refine assign_Tuple_tuple (I.ok.hd hc) ht (by simp[hn, <- hl,rv.length]) hst λh' hx =>?_
 have I1:Inv X pins σ H { s with heap:=h' }:=I.kept (t':=s.toks) λb o e=>hx b o (wU (wq e)) e
 exact h pins _ σ H xs _ Q I1 (by simpa using rv) hw
def gSub (to ti:TE)(t:uy):TG:=λv σ H Q=>to σ H λo H1=>ti σ H1 λi H2=>t o i v H2 λH3=>Q σ H3
theorem ml {o i:Expr}{to ti:TE}{t:uy}(ho:PE X o to)(hi:PE X i ti)(hs:vk X t)
    (ha:∀v,assign (.Subscript o i pos) X.env v=(do
      let ov ← BK [v] (eval o X.env)
      let iv ← BK [v,ov] (eval i X.env)
      standAt pos
      BK [v,ov,iv] (setItem ov iv v)
      release [v,ov,iv] []):=by intro _;rfl):PG X (.Subscript o i pos) (gSub to ti t):=by
  intro pins s σ H v u Q I r h
  rw[ha]
  refine wb (z9 (thn (ho pins s σ H _ I h) λov s1 ⟨x,H1,I1,r1,q1⟩ =>?_))
  refine wb (z9 (thn (hi pins s1 σ H1 _ I1 q1) λiv s2 ⟨y,H2,I2,r2,q2⟩ =>?_))
  refine wb (zp (wb (z9 (thn (hs pins s2 σ H2 x y v ov iv u _ I2 r1 r2 r q2) λ_ s3 ⟨H3,I3,q3⟩ =>?_))))
  exact wpAny_release ⟨σ,H3,I3,q3⟩
def uz (te:TE)(g:TG):TS:=λD σ H=>te σ H λx H1=>g x σ H1 D.nx
theorem mn {tg e:Expr}{te:TE}{g:TG}(he:PE X e te)(hg:PG X tg g)(hs:swapsWithSole [tg] e pos.line X.env=pure false:=by rfl)(hw:swappedStores [tg] e X.env=pure none:=by rfl)
  (h1:(assignEach [tg] X.env).map (·.2)=[assign tg X.env]:=by rfl):PS X (.Assign [tg] e pos) (uz te g):=by
 intro pins s σ H D I h
 refine wpAny_Assign_stores (thn (he pins s σ H _ I h) λv s1 ⟨x,H1,I1,r1,q1⟩ =>?_) hs hw
 rw[h1]
 exact thn (hg pins s1 σ H1 x v _ I1 r1 q1) λ_ s2 q=>q
theorem ay {i:Nat}{x:Str}{e:Expr}{te:TE}{pos':Pos}(hN:X.N.Nodup)(hi:X.N[i]? = some x)(hx:Loc X.env.scope x)(he:PE X e te)(hs:swapsWith e (some (.Name x pos')) pos.line X.env=pure false:=by rfl)(hf:X.fn x=true\/X.env.scope.names.lookup x=some .local:=by first | exact .inl rfl | exact .inr rfl | assumption) :
  PS X (.Assign [.Name x pos'] e pos) (uz te (dS i)):=by
 intro pins s σ H D I h
 refine A3 (thn (he pins s σ H _ I h) λv s1 ⟨y,H1,I1,r1,q1⟩ =>?_) hs
 exact dR I1 hN hi hx r1 (λs2 I2=>⟨_,H1,I2,q1⟩) hf
def tAug (i:Nat)(te:TE)(ti:TIp):TS:=λD σ H=>∃x,σ[i]? = some (some x)/\te σ H λy H1=>ti x y H1 λz H2=>D.nx (σ.set i (some z)) H2
theorem uA {i:Nat}{x:Str}{e:Expr}{te:TE}{op:Operator}{ti:TIp}{pos':Pos}(hN:X.N.Nodup)(hi:X.N[i]? = some x)(hx:Loc X.env.scope x)(he:PE X e te)(ho:PIp X op ti)(hf:X.fn x=true\/X.env.scope.names.lookup x=some .local:=by first | exact .inl rfl | exact .inr rfl | assumption) :
  PS X (.AugAssign (.Name x pos') op e pos) (tAug i te ti):=by
 intro pins s σ H D I h
 obtain ⟨v,e1,h⟩:=h
 obtain ⟨m,hn,hl⟩:=I.loc
 have vis:Vis X.env.scope x:=by rcases hx with k | k;exact .inl k;exact .inr (.inl k)
 obtain ⟨u,r,l⟩:=hl i x v hi e1 vis
 refine wpAny_AugAssign_Name ?_
 have go:wL (wV X.prog X.w) X.A (eval e X.env) (λw s₂=>wL (wV X.prog X.w) X.A (inplaceOp op u w) (λr s₃=>wL (wV X.prog X.w) X.A (storeName X.env x r) (λ_=>SP X pins D .next) X.xe s₃) X.xe s₂) X.xe s:=by
  refine thn (he pins s σ H _ I h) λw s1 ⟨y,H1,I1,r1,q1⟩ =>?_
  refine thn (ho pins s1 σ H1 v y u w _ I1 r r1 q1) λz s2 ⟨zv,H2,I2,r2,q2⟩ =>?_
  exact dR I2 hN hi hx r2 (λs3 I3=>⟨_,H2,I3,q2⟩) hf
 rcases l with ⟨hk,hm⟩ | ⟨hk,c,hc,hcell⟩
 ·exact AB I.ok.kind hk hn hm go
 ·rcases hk with hk | hk
  ·exact AJ I.ok.kind hk hc hcell go
  ·rcases hx with k | k
   ·have:X.env.scope.names.lookup x=some .free:=hk
    rw[k] at this;cases this
   ·have:X.env.scope.names.lookup x=some .free:=hk
    rw[k] at this;cases this
def ipI (f:Int->Int->Int):TIp:=λx y H Q=>∃i j,x = .int i/\y = .int j/\Q (.int (f i j)) H
theorem uB:PIp X .Add (ipI λi j=>i+j):=by
 intro pins s σ H x y v u Q I r1 r2 h
 obtain ⟨i,j,e1,e2,q⟩:=h
 subst e1;subst e2
 obtain ⟨t,rfl⟩:=r1
 obtain ⟨t',rfl⟩:=r2
 exact iadd_int ⟨.int _,H,I.tok _,⟨_,rfl⟩,q⟩
end
section
variable  {X:Cx}{pos:Pos}
def pW (c:TT)(tb:TS):TS:=λD σ H=>∃W:Nat->St->Hp->Prop,(∃m,W m σ H)/\∀m σ H,W m σ H →
 c σ H λb H1=>if b=true then ∃N:St->Hp->Prop,(∀σ' H',N σ' H'->∃m',m'<m/\W m' σ' H')/\tb { D with nx:=N,ct:=N,bk:=D.nx } σ H1 else D.nx σ H1
theorem kM {c:Expr}{body:List Stmt}{tc:TT}{tb:TS}(hp:PassesOwn (wV X.prog X.w) X.A X.env X.xe)(hc:PT X c tc)(hb:PSs X body tb):PS X (.While c body [] pos) (pW tc tb):=by
 intro pins s σ H D I h
 obtain ⟨W,⟨m0,w0⟩,turn⟩:=h
 refine wpAny_While (codeAny_whileLoop (λn s'=>∃σ' H',Inv X pins σ' H' s'/\W n σ' H') ?_ m0 ⟨σ,H,I,w0⟩)
 rintro n s1 ⟨σ1,H1,I1,w1⟩
 refine yi hp (thn (hc pins s1 σ1 H1 _ I1 (turn n σ1 H1 w1)) λb s2 ⟨H2,I2,q2⟩ =>?_)
 cases b with
 | true =>
  obtain ⟨N,hN,q2⟩:=q2
  rw[if_pos rfl]
  refine yi hp (thn (hb pins s2 σ1 H2 _ I2 q2) λf s3 q3 =>?_)
  cases f with
  | next =>
   obtain ⟨σ3,H3,I3,n3⟩:=q3
   obtain ⟨m',hm,w3⟩:=hN σ3 H3 n3
   exact ⟨m',hm,σ3,H3,I3,w3⟩
  | cont =>
   obtain ⟨σ3,H3,I3,n3⟩:=q3
   obtain ⟨m',hm,w3⟩:=hN σ3 H3 n3
   exact ⟨m',hm,σ3,H3,I3,w3⟩
  | brk=>exact q3
  | ret v=>exact q3
 | false =>
  rw[if_neg wz]
  exact yx ⟨σ1,H2,I2,q2⟩
end
structure It where
 go:Nat->Hp->Prop
 yld:Nat->Hp->V->Hp->Prop
 stop:Nat->Hp->Prop
def fD (X:Cx)(pins:List (Addr×Obj))(H:Hp)(b:Addr):Prop :=
 H b=none/\b≠X.env.locals/\b∉X.fs/\(b∈X.ex\/X.s₀.heap.objs.size<=b)/\(∀x c,X.env.cells.lookup x=some c->c≠b)/\∀p∈X.pn++pins,p.1≠b
theorem Inv.mq {X:Cx}{pins:List (Addr×Obj)}{σ:St}{H H':Hp}{s:v9}{b:Addr}(I:Inv X pins σ H s)(hb:s.heap.objs.size<=b)(hn:H' b=none):fD X pins H' b:=by
 refine ⟨hn,za (wB I.lt hb),I.uu hb,.inr (wy I.sz hb),λx c e z =>?_,λp hp z =>?_⟩
 ·obtain ⟨v,q⟩:=I.cell x c e
  exact absurd (wB q.lt (by rw[z];exact hb)) (xp _)
 ·exact absurd (wB (wq (I.pin p hp).1) (by rw[z];exact hb)) (xp _)
structure Turn (P:wx)(w:wZ)(K:v5)(tg:Expr)(J:It)(fp:List Addr)(it:Addr)(tn:Nat->Heap->Prop):Prop where
 mem:it∈fp
 obj:∀i h,tn i h->∀b∈fp,∃o,h.get? b=some o/\∀v,o.data ≠ .cell v
 keep:∀i h h',tn i h->(∀b∈fp,∀o,h.get? b=some o->h'.get? b=some o)->tn i h'
 item:∀(X:Cx),X.prog=P->X.w=w->X.K=K->X.calm=true->∀(i:Nat) (pins:List (Addr×Obj)) (s:v9) (σ:St) (H:Hp) (E:v8->v9->Prop),Inv X pins σ H s->(∀b∈fp,fD X pins H b)->tn i s.heap->J.go i H →
  wL (wV P w) X.A (pyNext (.ref it)) (λr s1=>∃u,r=some u ∧
   wL (wV P w) X.A (letOwnedTupleGo tg (.ref it) u) (λ_ s2=>∃x H',Inv X pins σ H' s2/\RelV x u/\J.yld i H x H'/\tn (i+1) s2.heap/\∀b∈fp,H' b=none) E s1) E s
 done:∀(X:Cx),X.prog=P->X.w=w->X.K=K->X.calm=true->∀(i:Nat) (pins:List (Addr×Obj)) (s:v9) (σ:St) (H:Hp) (E:v8->v9->Prop),Inv X pins σ H s->(∀b∈fp,fD X pins H b)->tn i s.heap->J.stop i H →
  wL (wV P w) X.A (pyNext (.ref it)) (λr s1=>r=none/\Inv X pins σ H s1) E s
 self:∀(A:xh) (i:Nat) (s:v9) (Q:v8->v9->Prop) (E:v8->v9->Prop),tn i s.heap->Q (.ref it) s->wL (wV P w) A (pyIter (.ref it)) Q E s
abbrev TI:=St->Hp->(It->Hp->Prop)->Prop
def PIE (X:Cx)(pins:List (Addr×Obj))(σ:St)(tg:Expr)(R:It->Hp->Prop)(itv:v8)(s2:v9):Prop :=
 ∃(it:Addr) (fp:List Addr) (tn:Nat->Heap->Prop) (J:It) (H':Hp),itv = .ref it/\Inv X pins σ H' s2/\Turn X.prog X.w X.K tg J fp it tn/\tn 0 s2.heap/\(∀b∈fp,fD X pins H' b)/\R J H'
def PI (X:Cx)(tg iter:Expr)(wi:TI):Prop :=
 ∀(pins:List (Addr×Obj)) (s:v9) (σ:St) (H:Hp) (R:It->Hp->Prop),Inv X pins σ H s->wi σ H R →
  wL (wV X.prog X.w) X.A (eval iter X.env) (λv s1=>wL (wV X.prog X.w) X.A (pyIter v) (PIE X pins σ tg R) X.xe s1) X.xe s
theorem ng {M:Model}{A:xh}{E:v8->v9->Prop}{s:v9}{tg:Expr}{it:Addr}{u:v8}{o:Obj}{n:String}{vs:Array v8}{Q:Unit->v9->Prop}(ho:s.heap.get? it=some o)(hc:o.cls = .type n)(hd:o.data = .fields vs)
    (hn:["enumerate", "zip", "dict_itemiterator", "dict_reverseitemiterator", "odict_iterator", "itertools.zip_longest", "itertools.pairwise"].contains n=false) (hQ:Q () s):wL M A (letOwnedTupleGo tg (.ref it) u) Q E s:=by
  unfold letOwnedTupleGo
  cases tg <;> first
    | exact wQ hQ
    | (cases u <;> first
        | exact wQ hQ
        | (refine wb (wpAny_load ho ?_)
           rw[hc,hd]
           show wL M A (if (["enumerate", "zip", "dict_itemiterator", "dict_reverseitemiterator", "odict_iterator", "itertools.zip_longest", "itertools.pairwise"].contains n && vs[0]? == some (zU _))=true then _ else _) Q E s
           rw[if_neg (by intro h;rw[hn,Bool.false_and] at h;cases h)]
           exact wQ hQ))
def Itl (K:v5)(a:Addr):It :=
 ⟨λi H=>∃xs x,SqL K H a xs/\xs[i]? = some x,λi H x H'=>H'=H/\∀xs,SqL K H a xs->xs[i]? = some x,λi H=>∃xs,SqL K H a xs/\xs.length<=i⟩
def Itt (K:v5)(a:Addr):It :=
 ⟨λi H=>∃xs x,SqT K H a xs/\xs[i]? = some x,λi H x H'=>H'=H/\∀xs,SqT K H a xs->xs[i]? = some x,λi H=>∃xs,SqT K H a xs/\xs.length<=i⟩
def Itr (lo:Int)(n:Nat):It:=⟨λi _=>i<n,λi H x H'=>H'=H/\x = .int (lo+i),λi _=>n<=i⟩
theorem jn {P:wx}{w:wZ}{K:v5}{tg:Expr}(a it:Addr):Turn P w K tg (Itl K a) [it] it (λi h=>h.IsListIter it a i) where
 mem:=by simp
 obj:=λi h st b hb=>by
  have e:b=it:=by simpa using hb
  subst e
  obtain ⟨o,e,c,d⟩:=st
  exact ⟨o,e,λv z=>by rw[d] at z;cases z⟩
 keep:=λi h h' st k=>st.at λo e=>k it (by simp) o e
 item:=by
  intro X hP hw hK hc i pins s σ H E I hf st hg
  subst hP hw hK
  obtain ⟨xs,x,hq,hx⟩:=hg
  obtain ⟨its,rv,p,hz⟩:=I.list hq
  obtain ⟨u,hu,ru⟩:=rv.get hx
  obtain ⟨f0,f1,f2,f3,f4,f5⟩:=hf it (by simp)
  refine wpAny_pyNext_list_item st p.isList (x:=u) (by simpa using hu) λh' st' sb =>?_
  have I1:Inv X pins σ H { s with heap:=h' }:=I.turned (t':=s.toks) (λb o hb e=>(sb.2 b hb).trans e) f0 f1 f3 f4 f5
  obtain ⟨o,e,c,d⟩:=id st'
  exact ⟨u,rfl,ng (s:={ s with heap:=h' }) e c d (by decide) ⟨x,H,I1,ru,⟨rfl,λys hy=>by rw[I.hU hy hq];exact hx⟩,st',λb hb=>(hf b hb).1⟩⟩
 done:=by
  intro X hP hw hK hc i pins s σ H E I hf st hg
  subst hP hw hK
  obtain ⟨xs,hq,hx⟩:=hg
  obtain ⟨its,rv,p,hz⟩:=I.list hq
  obtain ⟨f0,f1,f2,f3,f4,f5⟩:=hf it (by simp)
  have hl:=rv.length
  exact wpAny_pyNext_list_end (I.ok.hd hc) st p.isList (by simp;omega) λh' eb=>⟨rfl,I.turned (t':=s.toks) (λb o hb e=>eb b o hb e) f0 f1 f3 f4 f5⟩
 self:=λ_ _ _ _ _ st h=>wpAny_pyIter_listiter st h
theorem hW {P:wx}{w:wZ}{K:v5}{tg:Expr}(a it:Addr):Turn P w K tg (Itt K a) [it] it (λi h=>h.IsTupleIter it a i) where
 mem:=by simp
 obj:=λi h st b hb=>by
  have e:b=it:=by simpa using hb
  subst e
  obtain ⟨o,e,c,d⟩:=st
  exact ⟨o,e,λv z=>by rw[d] at z;cases z⟩
 keep:=λi h h' st k=>st.at λo e=>k it (by simp) o e
 item:=by
  intro X hP hw hK hc i pins s σ H E I hf st hg
  subst hP hw hK
  obtain ⟨xs,x,hq,hx⟩:=hg
  obtain ⟨its,rv,p,hz⟩:=I.tuple hq
  obtain ⟨u,hu,ru⟩:=rv.get hx
  obtain ⟨f0,f1,f2,f3,f4,f5⟩:=hf it (by simp)
  refine wpAny_pyNext_tuple_item st (show s.heap.IsTuple a its.toArray from p) (x:=u) (by simpa using hu) λh' st' sb =>?_
  have I1:Inv X pins σ H { s with heap:=h' }:=I.turned (t':=s.toks) (λb o hb e=>(sb.2 b hb).trans e) f0 f1 f3 f4 f5
  obtain ⟨o,e,c,d⟩:=id st'
  exact ⟨u,rfl,ng (s:={ s with heap:=h' }) e c d (by decide) ⟨x,H,I1,ru,⟨rfl,λys hy=>by rw[I.gg hy hq];exact hx⟩,st',λb hb=>(hf b hb).1⟩⟩
 done:=by
  intro X hP hw hK hc i pins s σ H E I hf st hg
  subst hP hw hK
  obtain ⟨xs,hq,hx⟩:=hg
  obtain ⟨its,rv,p,hz⟩:=I.tuple hq
  obtain ⟨f0,f1,f2,f3,f4,f5⟩:=hf it (by simp)
  have hl:=rv.length
  exact wpAny_pyNext_tuple_end (I.ok.hd hc) st (show s.heap.IsTuple a its.toArray from p) (by simp;omega) λh' eb=>⟨rfl,I.turned (t':=s.toks) (λb o hb e=>eb b o hb e) f0 f1 f3 f4 f5⟩
 self:=λ_ _ _ _ _ st h=>wpAny_pyIter_tupleiter st h
theorem mr {P:wx}{w:wZ}{K:v5}{tg:Expr}(it:Addr)(lo:Int)(n:Nat):Turn P w K tg (Itr lo n) [it] it (λi h=>IsRangeIter h it (lo+(i:Nat)*1) ((n:Int)-(i:Nat)) 1) where
 mem:=by simp
 obj:=λi h st b hb=>by
  have e:b=it:=by simpa using hb
  subst e
  exact ⟨_,st,λv z=>by
   have z':Data.fields _=Data.cell v:=z
   cases z'⟩
 keep:=λi h h' st k=>k it (by simp) _ st
 item:=by
  intro X hP hw hK hc i pins s σ H E I hf st hg
  subst hP hw hK
  obtain ⟨f0,f1,f2,f3,f4,f5⟩:=hf it (by simp)
  have W:=Walks.range (prog:=X.prog) (w:=X.w) (I.ok.hd hc) it lo 1 n
  refine W.item i s _ _ hg st λv h' tk hv st' kk =>?_
  obtain ⟨t,rfl⟩:=hv
  have I1:Inv X pins σ H { s with heap:=h',toks:=tk }:=I.turned (λb o hb e=>kk b o (by simpa using hb) e) f0 f1 f3 f4 f5
  refine ⟨_,rfl,ng (s:={ s with heap:=h',toks:=tk }) (n := "range_iterator") st' rfl rfl (by decide) ⟨.int (lo+i),H,I1,⟨t,?_⟩,⟨rfl,rfl⟩,st',λb hb=>(hf b hb).1⟩⟩
  rw[Int.mul_one]
 done:=by
  intro X hP hw hK hc i pins s σ H E I hf st hg
  subst hP hw hK
  obtain ⟨f0,f1,f2,f3,f4,f5⟩:=hf it (by simp)
  exact wpAny_pyNext_range_end (I.ok.hd hc) st (by have:n<=i:=hg;omega) λh' eb=>⟨rfl,I.turned (t':=s.toks) (λb o hb e=>eb b o hb e) f0 f1 f3 f4 f5⟩
 self:=λ_ _ _ _ _ st h=>wpAny_pyIter_rangeiter st h
open PySem PySem.Spec PyProof.Rows
section
variable  {X:Cx}{tg:Expr}
def vo (K:v5)(tl:TE):TI:=λσ H R=>tl σ H λx H1=>∃a,x = .ref a/\(∃xs,SqL K H1 a xs)/\R (Itl K a) H1
def vp (K:v5)(tl:TE):TI:=λσ H R=>tl σ H λx H1=>∃a,x = .ref a/\(∃xs,SqT K H1 a xs)/\R (Itt K a) H1
theorem gR {l:Expr}{tl:TE}(hl:PE X l tl):PI X tg l (vo X.K tl):=by
 intro pins s σ H R I h
 refine thn (hl pins s σ H _ I h) λv s1 ⟨x,H1,I1,r1,q1⟩ =>?_
 obtain ⟨a,e,⟨xs,hq⟩,q⟩:=q1
 subst e
 cases r1
 obtain ⟨its,rv,p,hz⟩:=I1.list hq
 refine y7 p.isList ?_
 refine ⟨s1.heap.objs.size,[s1.heap.objs.size],_,_,H1,rfl,I1.kept (t':=s1.toks) λb o e=>v7 _ e,jn a _,⟨_,wA _ rfl,rfl,rfl⟩,λb hb =>?_,q⟩
 have e:b=s1.heap.objs.size:=by simpa using hb
 subst e
 exact I1.mq (wm _) (I1.hok.fresh (wm _))
theorem pX {l:Expr}{tl:TE}(hl:PE X l tl):PI X tg l (vp X.K tl):=by
 intro pins s σ H R I h
 refine thn (hl pins s σ H _ I h) λv s1 ⟨x,H1,I1,r1,q1⟩ =>?_
 obtain ⟨a,e,⟨xs,hq⟩,q⟩:=q1
 subst e
 cases r1
 obtain ⟨its,rv,p,hz⟩:=I1.tuple hq
 refine ym (show s1.heap.IsTuple a its.toArray from p) ?_
 refine ⟨s1.heap.objs.size,[s1.heap.objs.size],_,_,H1,rfl,I1.kept (t':=s1.toks) λb o e=>v7 _ e,hW a _,⟨_,wA _ rfl,rfl,rfl⟩,λb hb =>?_,q⟩
 have e:b=s1.heap.objs.size:=by simpa using hb
 subst e
 exact I1.mq (wm _) (I1.hok.fresh (wm _))
theorem kN {pins:List (Addr×Obj)}{σ:St}{H:Hp}{s:v9}{R:It->Hp->Prop}{E:v8->v9->Prop}{lo hi:Int}{t u v:Tok}{tk:Nat}(I:Inv X pins σ H s)(h1 : -(2 ^ 62)<=lo)(h2:lo<2 ^ 62)(h3 : -(2 ^ 62)<=hi)(h4:hi<2 ^ 62)
  (q:R (Itr lo (hi-lo).toNat) H):wL (wV X.prog X.w) X.A (pyIter (.ref s.heap.objs.size)) (PIE X pins σ tg R) E { s with heap:=s.heap.push { cls :=.type "range",data :=.fields #[.int lo t,.int hi u,.int 1 v] },toks:=tk }:=by
 refine wpAny_pyIter_range (IsRange.new ..) (small_one h1 h2 h3 h4) ?_
 have I1:Inv X pins σ H { s with heap:=s.heap.push { cls :=.type "range",data :=.fields #[.int lo t,.int hi u,.int 1 v] },toks:=tk }:=I.kept λb o e=>v7 _ e
 refine ⟨(s.heap.push { cls :=.type "range",data :=.fields #[.int lo t,.int hi u,.int 1 v] }).objs.size,[(s.heap.push { cls :=.type "range",data :=.fields #[.int lo t,.int hi u,.int 1 v] }).objs.size],_,_,H,rfl,
  I1.kept (t':=tk) λb o e=>v7 _ e,mr _ lo (hi-lo).toNat,?_,λb hb =>?_,q⟩
 ·have e1:lo+((0:Nat):Int)*1=lo:=by simp
  have e2:(((hi-lo).toNat:Nat):Int)-((0:Nat):Int)=Builtin.Range.rangeSize lo hi 1:=by rw[rangeSize_one];split <;> omega
  show IsRangeIter _ _ (lo+((0:Nat):Int)*1) ((((hi-lo).toNat:Nat):Int)-((0:Nat):Int)) 1
  rw[e1,e2]
  exact wA _ rfl
 ·have e:b=(s.heap.push { cls :=.type "range",data :=.fields #[.int lo t,.int hi u,.int 1 v] }).objs.size:=by simpa using hb
  subst e
  exact I1.mq (wm _) (I1.hok.fresh (wm _))
def vq (ta:TA):TI:=λσ H R=>ta σ H λvs H1=>∃j:Int,vs=[.int j] /\ -(2 ^ 62)<=j/\j<2 ^ 62/\R (Itr 0 j.toNat) H1
def vt (ta:TA):TI:=λσ H R=>ta σ H λvs H1=>∃i j:Int,vs=[.int i,.int j]/\(-(2 ^ 62)<=i/\i<2 ^ 62 /\ -(2 ^ 62)<=j/\j<2 ^ 62)/\R (Itr i (j-i).toNat) H1
theorem cf {a:Expr}{ta:TA}{p pos:Pos}(hg:Gl X "range")(hm:X.mg "range" = none)(ha:PA X [a] ta)(hs:wX [a] X.env=[(false,eval a X.env)]:=by rfl):PI X tg (.Call (.Name "range" p) [a] [] pos) (vq ta):=by
 intro pins s σ H R I h
 refine Call_ (eZ I hg hm boot_range (xG (thn (ha pos pins s σ H _ I h) λus s1 ⟨vs,H1,I1,r1,q1⟩ =>?_) hs rfl))
 obtain ⟨j,e,q1,q2,q⟩:=q1
 subst e
 cases r1 with
 | cons r rr =>
  cases rr
  obtain ⟨t,rfl⟩:=r
  exact call_range_1 (kN I1 (by omega) (by omega) q1 q2 (by simpa using q))
theorem jq {a b:Expr}{ta:TA}{p pos:Pos}(hg:Gl X "range")(hm:X.mg "range" = none)(ha:PA X [a,b] ta)(hs:wX [a,b] X.env=[(false,eval a X.env),(false,eval b X.env)]:=by rfl)(hs2:wX [b] X.env=[(false,eval b X.env)]:=by rfl) :
  PI X tg (.Call (.Name "range" p) [a,b] [] pos) (vt ta):=by
 intro pins s σ H R I h
 refine Call_ (eZ I hg hm boot_range (xG (thn (ha pos pins s σ H _ I h) λus s1 ⟨vs,H1,I1,r1,q1⟩ =>?_) (by rw[hs,hs2]) (by rw[hs2];rfl)))
 obtain ⟨i,j,e,⟨q1,q2,q3,q4⟩,q⟩:=q1
 subst e
 cases r1 with
 | cons r rr =>
  cases rr with
  | cons r' rr =>
   cases rr
   obtain ⟨t,rfl⟩:=r
   obtain ⟨t',rfl⟩:=r'
   exact call_range_2 (kN I1 q1 q2 q3 q4 q)
def tFor (wi:TI)(g:TG)(tb:TS):TS:=λD σ H=>wi σ H λJ H1=>∃W:Nat->Nat->St->Hp->Prop,(∃m,W 0 m σ H1)/\∀i m σ H,W i m σ H →
 (J.stop i H/\D.nx σ H)\/(J.go i H/\∃N:St->Hp->Prop,(∀σ' H',N σ' H'->∃m',m'<m/\W (i+1) m' σ' H')/\∀x H',J.yld i H x H'->g x σ H' λσ2 H2=>tb { D with nx:=N,ct:=N,bk:=D.nx } σ2 H2)
def fb (fp:List Addr)(h:Heap):List (Addr×Obj):=fp.filterMap λb=>(h.get? b).map λo=>(b,o)
theorem cI {fp:List Addr}{h:Heap}{b:Addr}{o:Obj}(hb:b∈fp)(e:h.get? b=some o):(b,o)∈fb fp h:=zH.mpr ⟨b,hb,by rw[e];rfl⟩
theorem jr {fp:List Addr}{h:Heap}{p:Addr×Obj}(hp:p∈fb fp h):p.1∈fp/\h.get? p.1=some p.2:=by
 obtain ⟨b,hb,e⟩:=zH.mp hp
 cases q:h.get? b with
 | none=>rw[q] at e;cases e
 | some o =>
  rw[q] at e
  have e':(b,o)=p:=wJ e
  subst e'
  exact ⟨hb,q⟩
theorem Inv.pinned {pins:List (Addr×Obj)}{σ:St}{H:Hp}{s:v9}{fp:List Addr}(I:Inv X pins σ H s)(hf:∀b∈fp,fD X pins H b)(ho:∀b∈fp,∃o,s.heap.get? b=some o/\∀v,o.data ≠ .cell v):Inv X (pins++fb fp s.heap) σ H s :=
 I.fA λp hp=>(wK.mp hp).elim (λz=>I.pin p (wI _ z)) λz=>by
  obtain ⟨hb,e⟩:=jr z
  obtain ⟨f0,f1,f2,_⟩:=hf p.1 hb
  obtain ⟨o,e',d⟩:=ho p.1 hb
  rw[e] at e';cases e'
  exact ⟨e,f0,f1,f2,d⟩
theorem Inv.di {pins pl:List (Addr×Obj)}{σ:St}{H:Hp}{s:v9}(I:Inv X (pins++pl) σ H s):Inv X pins σ H s:=I.fA λp hp=>I.pin p (wI _ (zd _ hp))
theorem bY {iter:Expr}{body:List Stmt}{wi:TI}{g:TG}{tb:TS}{pos:Pos}(hp:PassesOwn (wV X.prog X.w) X.A X.env X.xe)(hc:X.calm=true)(hi:PI X tg iter wi)(hg:PG X tg g)(hb:PSs X body tb)
  (hs:∀x,foldedSetIterable iter X.env x=pure x:=by intro _;rfl):PS X (.For tg iter body [] pos) (tFor wi g tb):=by
 intro pins s σ H D I h
 refine wpAny_For (thn (hi pins s σ H _ I h) λv s1 h1=>thn h1 λitv s2 h2 =>?_) hs
 obtain ⟨it,fp,tn,J,H2,e,I2,T,st2,f2,W,⟨m0,w0⟩,turn⟩:=h2
 subst e
 have stat:∀{H':Hp},(∀b∈fp,H' b=none)->∀b∈fp,fD X pins H' b:=λhn b hb=>⟨hn b hb,(f2 b hb).2⟩
 refine codeAny_forLoop_any (λn s'=>∃i σ' H',Inv X pins σ' H' s'/\tn i s'.heap/\(∀b∈fp,H' b=none)/\W i n σ' H') ?_ m0 ⟨0,σ,H2,I2,st2,λb hb=>(f2 b hb).1,w0⟩
 rintro n s3 ⟨i,σ3,H3,I3,st3,fr3,w3⟩
 rcases turn i n σ3 H3 w3 with ⟨stop,qn⟩ | ⟨go,N,hN,step⟩
 ·refine yi hp (thn (T.done X rfl rfl rfl hc i pins s3 σ3 H3 X.xe I3 (stat fr3) st3 stop) λr s4 ⟨hr,I4⟩ =>?_)
  subst hr
  exact yx ⟨σ3,H3,I4,qn⟩
 ·refine yi hp (thn (T.item X rfl rfl rfl hc i pins s3 σ3 H3 X.xe I3 (stat fr3) st3 go) λr s4 ⟨u,hr,h4⟩ =>?_)
  subst hr
  refine yi hp (thn h4 λ_ s5 ⟨x,H5,I5,r5,y5,st5,fr5⟩ =>?_)
  have I5':=I5.pinned (stat fr5) (T.obj _ _ st5)
  refine yi hp (thn (hg _ s5 σ3 H5 x u _ I5' r5 (step x H5 y5)) λ_ s6 ⟨σ6,H6,I6,q6⟩ =>?_)
  refine yi hp (thn (hb _ s6 σ6 H6 _ I6 q6) λf s7 q7 =>?_)
  have again:∀{σ7:St} {H7:Hp},Inv X (pins++fb fp s5.heap) σ7 H7 s7->N σ7 H7->∃m,m<n/\∃i σ' H',Inv X pins σ' H' s7/\tn i s7.heap/\(∀b∈fp,H' b=none)/\W i m σ' H':=λ{σ7 H7} I7 n7=>by
   obtain ⟨m',hm,w7⟩:=hN σ7 H7 n7
   refine ⟨m',hm,i+1,σ7,H7,I7.di,T.keep _ _ _ st5 λb hb o e=>(I7.pin (b,o) (wI _ (wI _ (cI hb e)))).1,λb hb =>?_,w7⟩
   obtain ⟨o,e,d⟩:=T.obj _ _ st5 b hb
   exact (I7.pin (b,o) (wI _ (wI _ (cI hb e)))).2.1
  cases f with
  | next=>obtain ⟨σ7,H7,I7,n7⟩:=q7;exact again I7 n7
  | cont=>obtain ⟨σ7,H7,I7,n7⟩:=q7;exact again I7 n7
  | brk=>obtain ⟨σ7,H7,I7,q7⟩:=q7;exact ⟨σ7,H7,I7.di,q7⟩
  | ret v=>obtain ⟨x7,σ7,H7,I7,r7,q7⟩:=q7;exact ⟨x7,σ7,H7,I7.di,r7,q7⟩
end
theorem hX {K:v5}{a:Addr}{xs:List V}{g:TG}{tb:TS}{D:Ends}{σ:St}{H:Hp}(Pv:Nat->St->Hp->Prop)(h0:Pv 0 σ H)(hl:∀i σ H,i<=xs.length->Pv i σ H->SqL K H a xs)
  (hs:∀i x σ H,xs[i]? = some x->Pv i σ H->g x σ H λσ2 H2=>tb { D with nx:=Pv (i+1),ct:=Pv (i+1),bk:=D.nx } σ2 H2) (hd:∀σ H,Pv xs.length σ H->D.nx σ H) :
  ∃W:Nat->Nat->St->Hp->Prop,(∃m,W 0 m σ H)/\∀i m σ H,W i m σ H →
   ((Itl K a).stop i H/\D.nx σ H)\/((Itl K a).go i H/\∃N:St->Hp->Prop,(∀σ' H',N σ' H'->∃m',m'<m/\W (i+1) m' σ' H')/\∀x H',(Itl K a).yld i H x H'->g x σ H' λσ2 H2=>tb { D with nx:=N,ct:=N,bk:=D.nx } σ2 H2):=by
 refine ⟨λi m σ H=>m=xs.length-i/\i<=xs.length/\Pv i σ H,⟨xs.length,by simp,xj _,h0⟩,?_⟩
 rintro i m σ H ⟨rfl,hi,p⟩
 have q:=hl i σ H hi p
 by_cases hlt:i<xs.length
 ·refine .inr ⟨⟨xs,xs[i],q,by simp[hlt]⟩,Pv (i+1),λσ' H' p'=>⟨xs.length-(i+1),by omega,rfl,hlt,p'⟩,λx H' y =>?_⟩
  obtain ⟨e,y⟩:=y
  subst e
  exact hs i x σ _ (y xs q) p
 ·have e:i=xs.length:=by omega
  subst e
  exact .inl ⟨⟨xs,q,wm _⟩,hd σ H p⟩
theorem rJ {K:v5}{a:Addr}{xs:List V}{g:TG}{tb:TS}{D:Ends}{σ:St}{H:Hp}(Pv:Nat->St->Hp->Prop)(h0:Pv 0 σ H)(hl:∀i σ H,i<=xs.length->Pv i σ H->SqT K H a xs)
  (hs:∀i x σ H,xs[i]? = some x->Pv i σ H->g x σ H λσ2 H2=>tb { D with nx:=Pv (i+1),ct:=Pv (i+1),bk:=D.nx } σ2 H2) (hd:∀σ H,Pv xs.length σ H->D.nx σ H) :
  ∃W:Nat->Nat->St->Hp->Prop,(∃m,W 0 m σ H)/\∀i m σ H,W i m σ H →
   ((Itt K a).stop i H/\D.nx σ H)\/((Itt K a).go i H/\∃N:St->Hp->Prop,(∀σ' H',N σ' H'->∃m',m'<m/\W (i+1) m' σ' H')/\∀x H',(Itt K a).yld i H x H'->g x σ H' λσ2 H2=>tb { D with nx:=N,ct:=N,bk:=D.nx } σ2 H2):=by
 refine ⟨λi m σ H=>m=xs.length-i/\i<=xs.length/\Pv i σ H,⟨xs.length,by simp,xj _,h0⟩,?_⟩
 rintro i m σ H ⟨rfl,hi,p⟩
 have q:=hl i σ H hi p
 by_cases hlt:i<xs.length
 ·refine .inr ⟨⟨xs,xs[i],q,by simp[hlt]⟩,Pv (i+1),λσ' H' p'=>⟨xs.length-(i+1),by omega,rfl,hlt,p'⟩,λx H' y =>?_⟩
  obtain ⟨e,y⟩:=y
  subst e
  exact hs i x σ _ (y xs q) p
 ·have e:i=xs.length:=by omega
  subst e
  exact .inl ⟨⟨xs,q,wm _⟩,hd σ H p⟩
theorem bH {lo:Int}{n:Nat}{g:TG}{tb:TS}{D:Ends}{σ:St}{H:Hp}(Pv:Nat->St->Hp->Prop)(h0:Pv 0 σ H)
  (hs:∀i σ H,i<n->Pv i σ H->g (.int (lo+i)) σ H λσ2 H2=>tb { D with nx:=Pv (i+1),ct:=Pv (i+1),bk:=D.nx } σ2 H2) (hd:∀σ H,Pv n σ H->D.nx σ H) :
  ∃W:Nat->Nat->St->Hp->Prop,(∃m,W 0 m σ H)/\∀i m σ H,W i m σ H →
   ((Itr lo n).stop i H/\D.nx σ H)\/((Itr lo n).go i H/\∃N:St->Hp->Prop,(∀σ' H',N σ' H'->∃m',m'<m/\W (i+1) m' σ' H')/\∀x H',(Itr lo n).yld i H x H'->g x σ H' λσ2 H2=>tb { D with nx:=N,ct:=N,bk:=D.nx } σ2 H2):=by
 refine ⟨λi m σ H=>m=n-i/\i<=n/\Pv i σ H,⟨n,by simp,xj _,h0⟩,?_⟩
 rintro i m σ H ⟨rfl,hi,p⟩
 by_cases hlt:i<n
 ·refine .inr ⟨hlt,Pv (i+1),λσ' H' p'=>⟨n-(i+1),by omega,rfl,hlt,p'⟩,λx H' y =>?_⟩
  obtain ⟨e,y⟩:=y
  subst e y
  exact hs i σ _ hlt p
 ·have e:i=n:=by omega
  subst e
  exact .inl ⟨wm _,hd σ H p⟩
theorem kO {c:TT}{tb:TS}{D:Ends}{σ:St}{H:Hp}(Pv:St->Hp->Prop)(μ:St->Hp->Nat)(h0:Pv σ H)
  (hs:∀σ H,Pv σ H->c σ H λb H1=>if b=true then tb { D with nx:=λσ' H'=>Pv σ' H' /\ μ σ' H'<μ σ H,ct:=λσ' H'=>Pv σ' H' /\ μ σ' H'<μ σ H,bk:=D.nx } σ H1 else D.nx σ H1)
  (mono:∀σ H Q Q',(∀b H1,Q b H1->Q' b H1)->c σ H Q->c σ H Q'):pW c tb D σ H:=by
 refine ⟨λm σ H=>m=μ σ H/\Pv σ H,⟨_,rfl,h0⟩,?_⟩
 rintro m σ H ⟨rfl,p⟩
 refine mono σ H _ _ (λb H1 q =>?_) (hs σ H p)
 cases b with
 | true=>exact ⟨_,λσ' H' ⟨p',l⟩=>⟨_,l,rfl,p'⟩,q⟩
 | false=>exact q
open PySem PySem.Spec PyProof.Rows
abbrev R2:=V->V->Hp->VK->Prop
def OpR (X:Cx)(f:v8->v8->Sem v8)(r:R2):Prop :=
 ∀(pins:List (Addr×Obj)) (s:v9) (σ:St) (H:Hp) (x y:V) (v u:v8) (Q:VK),Inv X pins σ H s->RelV x v->RelV y u->r x y H Q →
  wL (wV X.prog X.w) X.A (f v u) (EP X pins σ Q) X.xe s
def UnR (X:Cx)(f:v8->Sem v8)(r:V->Hp->VK->Prop):Prop :=
 ∀(pins:List (Addr×Obj)) (s:v9) (σ:St) (H:Hp) (x:V) (v:v8) (Q:VK),Inv X pins σ H s->RelV x v->r x H Q →
  wL (wV X.prog X.w) X.A (f v) (EP X pins σ Q) X.xe s
def cS (X:Cx)(f:v8)(r:List V->Hp->VK->Prop):Prop :=
 ∀(pins:List (Addr×Obj)) (s:v9) (σ:St) (H:Hp) (xs:List V) (us:List v8) (Q:VK),Inv X pins σ H s->Vals xs us->r xs H Q →
  wL (wV X.prog X.w) X.A (call f us) (EP X pins σ Q) X.xe s
def tOp (r:R2)(ta tb:TE):TE:=λσ H Q=>ta σ H λx H1=>tb σ H1 λy H2=>r x y H2 Q
def tUn (r:V->Hp->VK->Prop)(ta:TE):TE:=λσ H Q=>ta σ H λx H1=>r x H1 Q
def rI (C:Int->Int->Prop)(g:Int->Int->V):R2:=λx y H Q=>∃i j,x = .int i/\y = .int j/\C i j/\Q (g i j) H
def rI0 (g:Int->Int->V):R2:=λx y H Q=>∃i j,x = .int i/\y = .int j/\Q (g i j) H
def rU (g:Int->V):V->Hp->VK->Prop:=λx H Q=>∃i,x = .int i/\Q (g i) H
section
variable  {X:Cx}{a b c:Expr}{ta tb tc:TE}{pos:Pos}
theorem uC (ha:PE X a ta)(hb:PE X b tb){pins:List (Addr×Obj)}{s:v9}{σ:St}{H:Hp}{R:V->V->Hp->Prop}(I:Inv X pins σ H s)
  (h:ta σ H λx H1=>tb σ H1 λy H2=>R x y H2) {Q:v8->v9->Prop} {f:v8->v8->Sem v8}
  (hf:∀v u s2 x y H2,Inv X pins σ H2 s2->RelV x v->RelV y u->R x y H2->wL (wV X.prog X.w) X.A (f v u) Q X.xe s2) :
  wL (wV X.prog X.w) X.A (eval a X.env) (λv s₁=>wL (wV X.prog X.w) X.A (eval b X.env) (λu s₂=>wL (wV X.prog X.w) X.A (f v u) Q X.xe s₂) X.xe s₁) X.xe s:=by
 refine thn (ha pins s σ H _ I h) λv s1 ⟨x,H1,I1,r1,q1⟩ =>?_
 refine thn (hb pins s1 σ H1 _ I1 q1) λu s2 ⟨y,H2,I2,r2,q2⟩ =>?_
 exact hf v u s2 x y H2 I2 r1 r2 q2
theorem aH {op:Operator}{r:R2}(ho:OpR X (binaryOp op) r)(ha:PE X a ta)(hb:PE X b tb):PE X (.BinOp a op b pos) (tOp r ta tb):=by
 intro pins s σ H Q I h
 exact wpAny_BinOp (uC ha hb I h λv u s2 x y H2 I2 rx ry q=>ho pins s2 σ H2 x y v u Q I2 rx ry q)
theorem gE {op:UnaryOp}{r:V->Hp->VK->Prop}(ho:UnR X (unaryOp op) r)(ha:PE X a ta):PE X (.UnaryOp op a pos) (tUn r ta):=by
 intro pins s σ H Q I h
 exact UnaryOp_ (thn (ha pins s σ H _ I h) λv s1 ⟨x,H1,I1,r1,q1⟩=>ho pins s1 σ H1 x v Q I1 r1 q1)
theorem opI {f:v8->v8->Sem v8}{C:Int->Int->Prop}{g:Int->Int->Int}
  (rule:∀(i j:Int) (t u:Tok) (s:v9) (Q:v8->v9->Prop) (E:v8->v9->Prop),C i j->Q (.int (g i j) s.toks) { s with toks:=s.toks+1 }->wL (wV X.prog X.w) X.A (f (.int i t) (.int j u)) Q E s) :
  OpR X f (rI C λi j =>.int (g i j)):=by
 intro pins s σ H x y v u Q I rx ry h
 obtain ⟨i,j,rfl,rfl,hc,q⟩:=h
 obtain ⟨t,rfl⟩:=rx
 obtain ⟨t',rfl⟩:=ry
 exact rule i j t t' s _ _ hc ⟨.int (g i j),H,I.tok _,⟨_,rfl⟩,q⟩
theorem vv {f:v8->v8->Sem v8}{g:Int->Int->Int}
  (rule:∀(i j:Int) (t u:Tok) (s:v9) (Q:v8->v9->Prop) (E:v8->v9->Prop),Q (.int (g i j) s.toks) { s with toks:=s.toks+1 }->wL (wV X.prog X.w) X.A (f (.int i t) (.int j u)) Q E s) :
  OpR X f (rI0 λi j =>.int (g i j)):=by
 intro pins s σ H x y v u Q I rx ry h
 obtain ⟨i,j,rfl,rfl,q⟩:=h
 obtain ⟨t,rfl⟩:=rx
 obtain ⟨t',rfl⟩:=ry
 exact rule i j t t' s _ _ ⟨.int (g i j),H,I.tok _,⟨_,rfl⟩,q⟩
theorem rK {f:v8->v8->Sem v8}{g:Int->Int->Bool}
  (rule:∀(i j:Int) (t u:Tok) (s:v9) (Q:v8->v9->Prop) (E:v8->v9->Prop),Q (.bool (g i j)) s->wL (wV X.prog X.w) X.A (f (.int i t) (.int j u)) Q E s) :
  OpR X f (rI0 λi j =>.bl (g i j)):=by
 intro pins s σ H x y v u Q I rx ry h
 obtain ⟨i,j,rfl,rfl,q⟩:=h
 obtain ⟨t,rfl⟩:=rx
 obtain ⟨t',rfl⟩:=ry
 exact rule i j t t' s _ _ ⟨.bl (g i j),H,I,rfl,q⟩
def CDiv (i j:Int):Prop:=0<j/\j<1073741824
def CPow (i j:Int):Prop:=0<=j/\j<=1000000/\i.natAbs<2 ^ 64
def uD (i j:Int):Prop:=(-(2 ^ 64)<i/\i<2 ^ 64)\/(-(2 ^ 64)<j/\j<2 ^ 64)
theorem uD.ok {i j:Int}(h:uD i j):IntMulOk i j:=by
 rcases h with ⟨h1,h2⟩ | ⟨h1,h2⟩
 ·exact .of_left (intBits_le_64 h1 h2)
 ·exact .of_right (intBits_le_64 h1 h2)
theorem aX:OpR X (binaryOp .Add) (rI0 λi j =>.int (i+j)):=vv λ_ _ _ _ _ _ _ q=>add_int q
theorem gh:OpR X (binaryOp .Sub) (rI0 λi j =>.int (i-j)):=vv λ_ _ _ _ _ _ _ q=>sub_int q
theorem gi:OpR X (binaryOp .Mult) (rI uD λi j =>.int (i*j)):=opI λ_ _ _ _ _ _ _ hc q=>mul_int q hc.ok
theorem rL:OpR X (binaryOp .FloorDiv) (rI CDiv λi j =>.int (i/j)):=opI λi j _ _ _ _ _ hc q=>by
 have h1:(0:Int)<j:=hc.1
 have h2:j<1073741824:=hc.2
 exact floordiv_int (by omega) (by rw[zE i (by omega)];exact q) (.inl (PyProof.noPylong_small (by omega)))
theorem hZ:OpR X (binaryOp .Mod) (rI (λ_ j=>0<j) λi j =>.int (i%j)):=opI λi j _ _ _ _ _ hc q=>by
 have h1:(0:Int)<j:=hc
 exact mod_int' (by omega) (by rw[Int.fmod_eq_emod_of_nonneg i (by omega)];exact q)
theorem fc:OpR X (binaryOp .Pow) (rI CPow λi j =>.int (i ^ j.toNat)):=opI λ_ _ _ _ _ _ _ hc q=>pow_int_small hc.1 hc.2.1 hc.2.2 q
theorem unI {f:v8->Sem v8}{g:Int->Int}
  (rule:∀(i:Int) (t:Tok) (s:v9) (Q:v8->v9->Prop) (E:v8->v9->Prop),Q (.int (g i) s.toks) { s with toks:=s.toks+1 }->wL (wV X.prog X.w) X.A (f (.int i t)) Q E s) :
  UnR X f (rU λi =>.int (g i)):=by
 intro pins s σ H x v Q I rx h
 obtain ⟨i,rfl,q⟩:=h
 obtain ⟨t,rfl⟩:=rx
 exact rule i t s _ _ ⟨.int (g i),H,I.tok _,⟨_,rfl⟩,q⟩
theorem dU:UnR X (unaryOp .USub) (rU λi =>.int (-i)):=unI λ_ _ _ _ _ q=>neg_int q
end
def vw:V->V->Bool
 | .non,.non=>true | .non,.int _=>true | .int _,.non=>true | .non,.bl _=>true | .bl _,.non=>true | .non,.str _=>true | .str _,.non=>true
 | .int _,.int _=>true | .bl _,.bl _=>true | .str _,.str _=>true | .byt _,.byt _=>true
 | .int _,.str _=>true | .str _,.int _=>true | .bl _,.str _=>true | .str _,.bl _=>true
 | _,_=>false
def rEq:R2:=λx y H Q=>vw x y=true/\Q (.bl (decide (x=y))) H
def rNe:R2:=λx y H Q=>vw x y=true/\Q (.bl (!decide (x=y))) H
theorem ni {i j:Int}:decide (V.int i=V.int j)=(i == j):=by
 rw[yh]
 simp
theorem pY {i j:Bool}:decide (V.bl i=V.bl j)=(i == j):=by
 rw[yh]
 simp
theorem nj {i j:Str}:decide (V.str i=V.str j)=(i == j):=by
 rw[yh]
 simp
theorem nk {i j:Array UInt8}:decide (V.byt i=V.byt j)=(i.toList == j.toList):=by
 rw[yh]
 cases i
 cases j
 simp
section
variable  {X:Cx}{a b c:Expr}{ta tb tc:TE}{pos:Pos}
theorem aS {pins:List (Addr×Obj)}{σ:St}{H:Hp}{s:v9}{Q:VK}{k k':Bool}(I:Inv X pins σ H s)(q:Q (.bl k) H)(e:k=k'):EP X pins σ Q (.bool k') s:=by
 subst e
 exact ⟨.bl k,H,I,rfl,q⟩
theorem aZ:OpR X (xn .Eq) rEq:=by
 intro pins s σ H x y v u Q I rx ry h
 obtain ⟨hs,q⟩:=h
 cases x with
 | non =>
  cases rx
  cases y with
  | non=>cases ry;exact PySem.EqNone.eq_none_none (aS I q (by simp))
  | bl j=>cases ry;exact PySem.EqNone.eq_none_bool (aS I q (by simp))
  | int j=>obtain ⟨t',rfl⟩:=ry;exact PySem.EqNone.eq_none_int (aS I q (by simp))
  | str j=>obtain ⟨t',rfl⟩:=ry;exact PySem.EqNone.eq_none_str (aS I q (by simp))
  | _=>exact absurd (show false=true from hs) wz
 | bl i =>
  cases rx
  cases y with
  | non=>cases ry;exact PySem.EqNone.eq_bool_none (aS I q (by simp))
  | bl j=>cases ry;exact eq_bool (aS I q pY)
  | str j=>obtain ⟨t',rfl⟩:=ry;exact Br (aS I q (by simp))
  | _=>exact absurd (show false=true from hs) wz
 | int i =>
  obtain ⟨t,rfl⟩:=rx
  cases y with
  | non=>cases ry;exact PySem.EqNone.eq_int_none (aS I q (by simp))
  | int j=>obtain ⟨t',rfl⟩:=ry;exact eq_int (aS I q ni)
  | str j=>obtain ⟨t',rfl⟩:=ry;exact Bz (aS I q (by simp))
  | _=>exact absurd (show false=true from hs) wz
 | str i =>
  obtain ⟨t,rfl⟩:=rx
  cases y with
  | non=>cases ry;exact PySem.EqNone.eq_str_none (aS I q (by simp))
  | bl j=>cases ry;exact Bs (aS I q (by simp))
  | int j=>obtain ⟨t',rfl⟩:=ry;exact BA (aS I q (by simp))
  | str j=>obtain ⟨t',rfl⟩:=ry;exact eq_str (aS I q nj)
  | _=>exact absurd (show false=true from hs) wz
 | byt i =>
  obtain ⟨t,rfl⟩:=rx
  cases y with
  | byt j=>obtain ⟨t',rfl⟩:=ry;exact PySem.W.eq_bytes (aS I q nk)
  | _=>exact absurd (show false=true from hs) wz
 | _=>cases y <;> exact absurd (show false=true from hs) wz
theorem fE:OpR X (xn .NotEq) rNe:=by
 intro pins s σ H x y v u Q I rx ry h
 obtain ⟨hs,q⟩:=h
 cases x with
 | non =>
  cases rx
  cases y with
  | non=>cases ry;exact PySem.EqNone.ne_none_none (aS I q (by simp))
  | bl j=>cases ry;exact PySem.EqNone.ne_none_bool (aS I q (by simp))
  | int j=>obtain ⟨t',rfl⟩:=ry;exact PySem.EqNone.ne_none_int (aS I q (by simp))
  | str j=>obtain ⟨t',rfl⟩:=ry;exact PySem.EqNone.ne_none_str (aS I q (by simp))
  | _=>exact absurd (show false=true from hs) wz
 | bl i =>
  cases rx
  cases y with
  | non=>cases ry;exact PySem.EqNone.ne_bool_none (aS I q (by simp))
  | bl j=>cases ry;exact ne_bool (aS I q (congrArg not pY))
  | str j=>obtain ⟨t',rfl⟩:=ry;exact Bt (aS I q (by simp))
  | _=>exact absurd (show false=true from hs) wz
 | int i =>
  obtain ⟨t,rfl⟩:=rx
  cases y with
  | non=>cases ry;exact PySem.EqNone.ne_int_none (aS I q (by simp))
  | int j=>obtain ⟨t',rfl⟩:=ry;exact ne_int (aS I q (congrArg not ni))
  | str j=>obtain ⟨t',rfl⟩:=ry;exact BB (aS I q (by simp))
  | _=>exact absurd (show false=true from hs) wz
 | str i =>
  obtain ⟨t,rfl⟩:=rx
  cases y with
  | non=>cases ry;exact PySem.EqNone.ne_str_none (aS I q (by simp))
  | bl j=>cases ry;exact Bv (aS I q (by simp))
  | int j=>obtain ⟨t',rfl⟩:=ry;exact BC (aS I q (by simp))
  | str j=>obtain ⟨t',rfl⟩:=ry;exact ne_str (aS I q (congrArg not nj))
  | _=>exact absurd (show false=true from hs) wz
 | byt i =>
  obtain ⟨t,rfl⟩:=rx
  cases y with
  | byt j=>obtain ⟨t',rfl⟩:=ry;exact PySem.W.ne_bytes (aS I q (congrArg not nk))
  | _=>exact absurd (show false=true from hs) wz
 | _=>cases y <;> exact absurd (show false=true from hs) wz
theorem dM:OpR X (xn .Lt) (rI0 λi j =>.bl (decide (i<j))):=rK λ_ _ _ _ _ _ _ q=>lt_int q
theorem vx:OpR X (xn .LtE) (rI0 λi j =>.bl (decide (i<=j))):=rK λ_ _ _ _ _ _ _ q=>le_int q
theorem gF:OpR X (xn .Gt) (rI0 λi j =>.bl (decide (j<i))):=rK λ_ _ _ _ _ _ _ q=>gt_int q
theorem nr:OpR X (xn .GtE) (rI0 λi j =>.bl (decide (j<=i))):=rK λ_ _ _ _ _ _ _ q=>ge_int q
theorem ou:OpR X (xn .In) (λx y H Q=>∃i j,x = .str i/\y = .str j/\Q (.bl (!(Builtin.Str.occurrences j i 0 j.length 1).isEmpty)) H):=by
 intro pins s σ H x y v u Q I rx ry h
 obtain ⟨i,j,rfl,rfl,q⟩:=h
 obtain ⟨t,rfl⟩:=rx
 obtain ⟨t',rfl⟩:=ry
 exact in_str (aS I q rfl)
theorem dW:OpR X (xn .Is) (λx y H Q=>y = .non/\Q (.bl (decide (x = .non))) H):=by
 intro pins s σ H x y v u Q I rx ry h
 obtain ⟨rfl,q⟩:=h
 cases ry
 refine is_none_gen (aS I q ?_)
 cases x <;> first
  | (cases rx;rfl)
  | (obtain ⟨t,rfl⟩:=rx;rfl)
theorem ar (b:Expr){op:CmpOp}(h:op ≠ .In:=by decide)(h2:op ≠ .NotIn:=by decide):behindInMarks op b=false:=by
 have e1:(op == CmpOp.In)=false:=by cases op <;> first | rfl | exact absurd rfl h
 have e2:(op == CmpOp.NotIn)=false:=by cases op <;> first | rfl | exact absurd rfl h2
 cases b <;> simp[behindInMarks,e1,e2]
theorem bP {op:CmpOp}{r:R2}(ho:OpR X (xn op) r)(ha:PE X a ta)(hb:PE X b tb)(hm:behindInMarks op b=false):PE X (.Compare a [op] [b] pos) (tOp r ta tb):=by
 intro pins s σ H Q I h
 exact wpAny_Compare1 (uC ha hb I h λv u s2 x y H2 I2 rx ry q=>ho pins s2 σ H2 x y v u Q I2 rx ry q) hm
def tY (t:TE):TT:=λσ H Q=>t σ H λx H'=>∃k,x = .bl k/\Q k H'
theorem ak {op:CmpOp}{r:R2}(ho:OpR X (xn op) r)(ha:PE X a ta)(hb:PE X b tb)(hm:behindInMarks op b=false):PT X (.Compare a [op] [b] pos) (tY (tOp r ta tb)):=by
 intro pins s σ H Q I h
 refine Av (thn (ha pins s σ H _ I h) λv s1 ⟨x,H1,I1,r1,q1⟩=>thn (hb pins s1 σ H1 _ I1 q1) λu s2 ⟨y,H2,I2,r2,q2⟩ =>
  thn (ho pins s2 σ H2 x y v u _ I2 r1 r2 q2) λc s3 ⟨z,H3,I3,r3,k,e,q3⟩ =>?_) hm
 subst e
 cases r3
 exact xK ⟨H3,I3,q3⟩
def uE (r r':R2)(ta tb tc:TE):TE:=λσ H Q=>ta σ H λx H1=>tb σ H1 λy H2=>r x y H2 λz H3=>∃k,z = .bl k ∧
 (if k=true then tc σ H3 λw' H4=>r' y w' H4 Q else Q (.bl false) H3)
theorem pZ {op op':CmpOp}{r r':R2}(ho:OpR X (xn op) r)(ho':OpR X (xn op') r')(ha:PE X a ta)(hb:PE X b tb)(hc:PE X c tc)
  (hm:lastMarks [op,op'] [b,c]=false:=by with_unfolding_all rfl):PT X (.Compare a [op,op'] [b,c] pos) (tY (uE r r' ta tb tc)):=by
 intro pins s σ H Q I h
 refine isTrue_chain (thn (ha pins s σ H _ I h) λv s1 ⟨x,H1,I1,r1,q1⟩=>test_link (thn (hb pins s1 σ H1 _ I1 q1) λu s2 ⟨y,H2,I2,r2,q2⟩ =>
  thn (ho pins s2 σ H2 x y v u _ I2 r1 r2 q2) λd s3 ⟨z,H3,I3,r3,k,e,q3⟩ =>?_)) hm
 subst e
 cases r3
 refine xK ?_
 cases k with
 | false =>
  obtain ⟨k',e',q'⟩:=q3
  cases e'
  exact ite_ff ⟨H3,I3,q'⟩
 | true =>
  refine ite_tt (test_last (thn (hc pins s3 σ H3 _ I3 q3) λw' s4 ⟨z',H4,I4,r4,q4⟩=>thn (ho' pins s4 σ H4 y z' u w' _ I4 r2 r4 q4) λd' s5 ⟨z2,H5,I5,r5,k2,e2,q5⟩ =>?_))
  subst e2
  cases r5
  exact xK ⟨H5,I5,q5⟩
theorem gj:(wa:Nat)<2 ^ 63:=by rw[sizeLine_eq];decide
theorem dv:OpR X (binaryOp .Add) (λx y H Q=>∃i j,x = .str i/\y = .str j/\i.length+j.length<=wa/\Q (.str (i++j)) H):=by
 intro pins s σ H x y v u Q I rx ry h
 obtain ⟨i,j,rfl,rfl,hz,q⟩:=h
 obtain ⟨t,rfl⟩:=rx
 obtain ⟨t',rfl⟩:=ry
 exact add_str (λt' tk=>⟨.str (i++j),H,I.tok _,⟨_,rfl⟩,q⟩) hz
theorem vals1 {x:V}{us:List v8}(r:Vals [x] us):∃u,us=[u]/\RelV x u:=by
 cases r with
 | cons r1 r2=>cases r2;exact ⟨_,rfl,r1⟩
theorem vals2 {x y:V}{us:List v8}(r:Vals [x,y] us):∃u w',us=[u,w']/\RelV x u/\RelV y w':=by
 cases r with
 | cons r1 r2 =>
  cases r2 with
  | cons r3 r4=>cases r4;exact ⟨_,_,rfl,r1,r3⟩
theorem cF:cS X (.type "int") (λxs H Q=>(∃i,xs=[.int i]/\Q (.int i) H)\/∃k,xs=[.bl k]/\Q (.int (if k then 1 else 0)) H):=by
 intro pins s σ H xs us Q I r h
 rcases h with ⟨i,rfl,q⟩ | ⟨k,rfl,q⟩
 ·obtain ⟨u,rfl,t,rfl⟩:=vals1 r
  exact call_int_int ⟨.int i,H,I,⟨_,rfl⟩,q⟩
 ·obtain ⟨u,rfl,r1⟩:=vals1 r
  cases r1
  exact call_int_bool ⟨.int (if k then 1 else 0),H,I.tok _,⟨_,rfl⟩,q⟩
theorem aY:cS X (.type "str") (λxs H Q=>∃i,xs=[.int i]/\i.natAbs.log2<1920/\Q (.str (toString i)) H):=by
 intro pins s σ H xs us Q I r h
 obtain ⟨i,rfl,hz,q⟩:=h
 obtain ⟨u,rfl,t,rfl⟩:=vals1 r
 exact PySem.P.str_of_int hz ⟨.str _,H,I.tok _,⟨_,rfl⟩,q⟩
end
open PySem PySem.Spec PyProof.Rows
structure uF (h:Heap)(x dx C:Addr)(mA:Str->Option v8):Prop where
 obj:h.get? x=some (PySem.W.instObj C dx)
 ns:h.Ns1 dx mA
 ne:dx≠x
theorem ow {h:Heap}{dx:Addr}{mA:Str->Option v8}(n:h.Ns1 dx mA):∃od,h.get? dx=some od/\∀name,PySem.W.lookIn name od=some (mA name):=by
 obtain ⟨o,es,ep,ho,hd,hk,_,hm⟩:=n
 refine ⟨o,ho,λname =>?_⟩
 have e:=hm name
 unfold nsFind findBy at e
 rw[<- Array.find?_toList] at e
 unfold PySem.W.lookIn
 rw[hd]
 dsimp only
 split
 ·rename_i y q
  rw[q] at e
  exact congrArg some e
 ·rename_i q
  rw[q] at e
  have a:es.toList.any (·.refKey)=false:=by
   rw[AV]
   intro y hy
   obtain ⟨z,t,hkey⟩:=hk y (Az.mp hy)
   simp[DictEntry.refKey,hkey]
  have a':¬ es.toList.any (·.refKey)=true:=by rw[a];exact wz
  rw[if_neg a']
  exact congrArg some e
theorem uF.look {h:Heap}{x dx C:Addr}{mA:Str->Option v8}(I:uF h x dx C mA):∃od,PySem.W.InstAt h x (PySem.W.instObj C dx) C (some od)/\∀name,PySem.W.lookIn name od=some (mA name) :=
 let ⟨od,ho,hl⟩:=ow I.ns
 ⟨od,⟨I.obj,rfl,rfl,ho⟩,hl⟩
section
variable  {prog:wx}{w:wZ}{A:xh}{E:v8->v9->Prop}{s:v9}{K:v5}{x dx C f:Addr}{mA:Str->Option v8}{name:Str}{v:v8}
end
theorem mh.some_of {v:V}{o:Option v8}(r:mh (some v) o):∃u,o=some u/\RelV v u:=by
 cases o with
 | none=>exact (show False from r).elim
 | some u=>exact ⟨u,rfl,r⟩
theorem ox {v:V}{u:v8}(r:RelV v u):PySem.W.handedIn u=true:=by
 cases v with
 | non=>cases (show u=yN from r);rfl
 | bl b=>cases (show u=Value.bool b from r);rfl
 | int i=>obtain ⟨t,e⟩:=(show ∃t,u=zC i t from r);cases e;rfl
 | str x=>obtain ⟨t,e⟩:=(show ∃t,u=Value.str x t from r);cases e;rfl
 | byt b=>obtain ⟨t,e⟩:=(show ∃t,u=Value.bytes b t from r);cases e;rfl
 | flt b=>obtain ⟨t,e⟩:=(show ∃t,u=Value.float b t from r);cases e;rfl
 | ref a=>cases (show u=wO a from r);rfl
 | ty n=>cases (show u=A6 n from r);rfl
section
variable  {P:wx}{w:wZ}{H H':Hp}{h h':Heap}{a C dx:Addr}{fs fs':List (Str×V)}
theorem rM (hok:HOk P w H h)(e:H a=some (.ins C dx fs)):∃mA,uF h a dx C mA/\(∀f,mh (fs.lookup f) (mA f))/\PySem.Within mA (fs.map (·.1))/\fs.length<=1000/\H dx=some (.own a):=by
 obtain ⟨d,z,ne,ob,mA,n,r,q⟩:=(show bx P w H h a (.ins C dx fs) from hok a _ e)
 exact ⟨mA,⟨ob,n,ne⟩,r,q,z,d⟩
end
structure Cls (K:v5)(C:Addr):Prop where
 pg:PySem.W.plainGet K C Str.empty=true
 hd:PySem.W.hasDictIn K C=true
 po:PySem.W.plainOver K C=true
 sa:PySem.W.findIn K (.ref C) "__setattr__" = some (some (.builtin "object.__setattr__"))
theorem Cls.get {K:v5}{C:Addr}(c:Cls K C)(f:Str):PySem.W.plainGet K C f=true:=c.pg
section
variable  {X:Cx}{pins:List (Addr×Obj)}{σ:St}{H:Hp}{s:v9}{a C dx:Addr}{fs:List (Str×V)}{f:Str}{v:V}{A:xh}{E:v8->v9->Prop}
theorem rN {prog:wx}{w:wZ}{env:Env}{e:Expr}{f:Str}{pos:Pos}{s:v9}{Q:v8->v9->Prop}(hb:attributeBase e f env (eval e env)=eval e env)
  (h:wL (wV prog w) A (eval e env) (λo s₁=>wL (wV prog w) A (getAttr o f true) Q E s₁) E s):wL (wV prog w) A (eval (.Attribute e f pos) env) Q E s :=
 Attribute_any_ h (by rw[arm_eval_Attribute,hb])
end
section
variable  {X:Cx}{o e value:Expr}{f:Str}{pos pos' tpos:Pos}{ta tv:TE}
end
section
variable  {X:Cx}{pins:List (Addr×Obj)}{σ:St}{H:Hp}{s:v9}{A:xh}{E:v8->v9->Prop}{Q:v8->v9->Prop}{c:v8}{b:Bool}
inductive fF (K:v5)(H:Hp):V->v8->Prop where
 | non:fF K H .non (.type "NoneType")
 | bl (x:Bool):fF K H (.bl x) (.type "bool")
 | int (i:Int):fF K H (.int i) (.type "int")
 | str (x:Str):fF K H (.str x) (.type "str")
 | flt (x:UInt64):fF K H (.flt x) (.type "float")
 | lst {a:Addr} {xs:List V} (e:H a=some (.lst xs)):fF K H (.ref a) (.type "list")
 | frz {a:Addr} {o:Obj} {xs:List V} (e:H a=some (.frz o (.lst xs))):fF K H (.ref a) (.type "list")
 | tup {a:Addr} {xs:List V} (e:H a=some (.tup xs)):fF K H (.ref a) (.type "tuple")
 | dK {a:Addr} {kvs:List (Key×V)} (e:H a=some (.dK kvs)):fF K H (.ref a) (.type "dict")
 | dT {a:Addr} {kvs:List (List Key×V)} (e:H a=some (.dT kvs)):fF K H (.ref a) (.type "dict")
 | ins {a C dx:Addr} {fs:List (Str×V)} (e:H a=some (.ins C dx fs)) (cl:Cls K C) (ha:PySem.W.findIn K (.ref C) "__class__" = some (some (.builtin "object.__class__")))
   (hn:PySem.W.specialIn K (.builtin "object.__class__") "__get__" = some (some (.builtin "getset_descriptor.__get__"))) (htk:PySem.W.takesIn K (.builtin "object.__class__")=some true)
   (hm:PySem.W.mroIn K C (.type "object")=some true):fF K H (.ref a) (.ref C)
theorem oy {x:V}{u t:v8}(I:Inv X pins σ H s)(rx:RelV x u)(ty:fF X.K H x t)(e:PySem.W.kitOne X.K t c=some b)(h:∀tk,Q (.bool b) { s with toks:=tk }) :
  wL (wV X.prog X.w) A (call (.builtin "isinstance") [u,c]) Q E s:=by
 cases ty with
 | non=>cases (show u=yN from rx);exact xD PySem.W.kitx_none I.kIn True.intro e (λz=>nomatch z) h
 | bl y=>cases (show u=Value.bool y from rx);exact xD PySem.W.kitx_bool I.kIn True.intro e (λz=>nomatch z) h
 | int i=>obtain ⟨t,q⟩:=(show ∃t,u=zC i t from rx);cases q;exact xD PySem.W.kitx_int I.kIn True.intro e (λz=>nomatch z) h
 | str y=>obtain ⟨t,q⟩:=(show ∃t,u=Value.str y t from rx);cases q;exact xD PySem.W.kitx_str I.kIn True.intro e (λz=>nomatch z) h
 | flt y=>obtain ⟨t,q⟩:=(show ∃t,u=Value.float y t from rx);cases q;exact xD PySem.W.kitx_float I.kIn True.intro e (λz=>nomatch z) h
 | @lst a xs ea =>
  cases (show u=wO a from rx)
  obtain ⟨_,_,n,_,h1⟩:=(show bx X.prog X.w H s.heap a (.lst xs) from I.hok a _ ea)
  exact xD AW I.kIn ⟨_,h1,rfl⟩ e (λz=>nomatch z) h
 | @frz a ob xs ea =>
  cases (show u=wO a from rx)
  obtain ⟨_,_,_,n,_,h1⟩:=(show bx X.prog X.w H s.heap a (.frz ob (.lst xs)) from I.hok a _ ea)
  exact xD AW I.kIn ⟨_,h1,rfl⟩ e (λz=>nomatch z) h
 | @tup a xs ea =>
  cases (show u=wO a from rx)
  obtain ⟨_,_,_,p⟩:=(show bx X.prog X.w H s.heap a (.tup xs) from I.hok a _ ea)
  obtain ⟨o,h1,h2,_⟩:=p
  exact xD PySem.W.kitx_tuple I.kIn ⟨o,h1,h2.1⟩ e (λz=>nomatch z) h
 | @dK a kvs ea =>
  cases (show u=wO a from rx)
  obtain ⟨_,_,vs,_,p⟩:=(show bx X.prog X.w H s.heap a (.dK kvs) from I.hok a _ ea)
  obtain ⟨o,es,ep,h1,h2,_⟩:=p
  exact xD AX I.kIn ⟨o,h1,h2.1⟩ e (λz=>nomatch z) h
 | @dT a kvs ea =>
  cases (show u=wO a from rx)
  obtain ⟨_,_,xs,_,o,es,ep,h1,h2,_⟩:=(show bx X.prog X.w H s.heap a (.dT kvs) from I.hok a _ ea)
  exact xD AX I.kIn ⟨o,h1,h2.1⟩ e (λz=>nomatch z) h
 | @ins a C dx fs ea cl ha hn htk hm =>
  cases (show u=wO a from rx)
  obtain ⟨mA,O,_⟩:=rM I.hok ea
  obtain ⟨od,J,_⟩:=O.look
  exact xD (PySem.W.kitx_own (cl.get _) cl.hd ha hn htk hm) I.kIn J e (λz=>nomatch z) h
end
open PySem PySem.Spec PyProof.Rows
structure bE (k:Nat)(A:xh):Prop where
 hd:A.handled=none
 dp:A.depth+3*k+5<recursionLimit
 un:A.units+16*k+200<cLine
theorem bE.mono {j k:Nat}{A:xh}(r:bE k A)(h:j<=k):bE j A:=⟨r.hd,by have:=r.dp;omega,by have:=r.un;omega⟩
theorem bE.deeper {k:Nat}{A:xh}(r:bE (k+1) A)(env:Env):bE k (A.deeper env) :=
 ⟨r.hd,by have:=r.dp;show A.depth+1+3*k+5<_;omega,by have:=r.un;show A.units+3+16*k+200<_;omega⟩
theorem mv {A:xh}{C:Addr}{us:List v8}{kw:List (Str×v8)}:(A.under (.builtin "type.__call__" ⟨.ref C :: us,kw⟩)).depth=A.depth+1:=by
 first | rfl | simp[Around.under,Code.weight,Code.isCreation,Code.isGuard,Code.isCaller,Code.frames,Code.isFrame,guardIds]
theorem mw {A:xh}{C:Addr}{us:List v8}{kw:List (Str×v8)}:(A.under (.builtin "type.__call__" ⟨.ref C :: us,kw⟩)).units=A.units+1:=by
 first | rfl | simp[Around.under,Code.cUnits,Code.frames,Code.isFrame]
theorem bE.make {k:Nat}{A:xh}(r:bE (k+1) A)(C:Addr)(us:List v8)(kw:List (Str×v8)):bE k (A.under (.builtin "type.__call__" ⟨.ref C :: us,kw⟩)) :=
 ⟨r.hd,by have:=r.dp;rw[mv];omega,by have:=r.un;rw[mw];omega⟩
theorem bE.depth {k:Nat}{A:xh}(r:bE k A):A.depth<recursionLimit:=by have:=r.dp;omega
theorem bE.units {k:Nat}{A:xh}(r:bE k A):A.units+64<cLine:=by have:=r.un;omega
def tNil:TA:=λ_ H Q=>Q [] H
def vy (ta:TE)(tr:TA):TA:=λσ H Q=>ta σ H λx H1=>tr σ H1 λxs H2=>Q (x :: xs) H2
section
variable  {X:Cx}{e:Expr}{es:List Expr}{te:TE}{t:TA}{pos:Pos}
theorem af:PA X [] tNil:=λ_ _ _ _ H Q I h=>Calls.spliced_nil ⟨[],H,I,.nil,h⟩
theorem aa (ha:PE X e te)(hr:PA X es t)(hs:wX (e :: es) X.env=(false,eval e X.env) :: wX es X.env:=by rfl):PA X (e :: es) (vy te t):=by
 intro pos pins s σ H Q I h
 rw[hs]
 show wL _ _ (spliced ((false,eval e X.env) :: yU pos (wX es X.env))) _ _ s
 refine Calls.spliced_cons (thn (ha pins s σ H _ I h) λu s1 ⟨x,H1,I1,r1,q1⟩ =>?_)
 exact thn (hr pos pins s1 σ H1 _ I1 q1) λus s2 ⟨xs,H2,I2,r2,q2⟩=>⟨x :: xs,H2,I2,.cons r1 r2,q2⟩
def tTup (t:TA):TE:=λσ H Q=>t σ H λxs H1=>xs.length<=wa/\∀p,H1 p=none->Q (.ref p) (upd H1 p (.tup xs))
def tLst (t:TA):TE:=λσ H Q=>t σ H λxs H1=>xs.length<=wa/\∀p,H1 p=none->Q (.ref p) (upd H1 p (.lst xs))
theorem dX {x1}(h:PA X es t):PE X (.Tuple es x1 pos) (tTup t):=by
 intro pins s σ H Q I hq
 refine wpAny_Tuple_spliced (thn (h pos pins s σ H _ I hq) λus s1 ⟨xs,H1,I1,r,z,q⟩=>⟨by rw[<- r.length];exact z,?_⟩)
 have hf:H1 s1.heap.objs.size=none:=I1.hok.fresh (wm _)
 refine ⟨.ref s1.heap.objs.size,upd H1 s1.heap.objs.size (.tup xs),I1.laid (t':=s1.toks) (λb u e=>v7 _ e) (wm _) ?_,rfl,q _ hf⟩
 exact ⟨z,us,r,⟨_,wA _ rfl,⟨rfl,rfl⟩,_,rfl⟩⟩
theorem aQ (h:PA X es t):PE X (.List es pos) (tLst t):=by
 intro pins s σ H Q I hq
 refine wpAny_List_spliced (thn (h pos pins s σ H _ I hq) λus s1 ⟨xs,H1,I1,r,z,q⟩=>⟨by rw[<- r.length];exact z,?_⟩)
 have hf:H1 s1.heap.objs.size=none:=I1.hok.fresh (wm _)
 refine ⟨.ref s1.heap.objs.size,upd H1 s1.heap.objs.size (.lst xs),I1.laid (t':=s1.toks) (λb u e=>v7 _ e) (wm _) ?_,rfl,q _ hf⟩
 exact ⟨z,us,0,r,wA _ rfl⟩
end
abbrev Sp:=List V->Hp->VK->XK->Prop
abbrev CXT:=List Env->Hp->v9->XK->v8->v9->Prop
structure mx (P:wx)(w:wZ)(K:v5)(mg:Str->Option v8)(base:Heap)(A:xh)(outer:List Env)(s:v9)(H:Hp):Prop where
 frames:A.frames=some outer
 mod:Mod K mg base
 bs:∀b o,base.get? b=some o->s.heap.get? b=some o/\H b=none
 bsz:base.objs.size<=s.heap.objs.size
 funs:s.heap.FunFrames base outer
 frf:∀b∈frs outer,H b=none
 hok:HOk P w H s.heap
 bare:AllBare s.gens
def CE (outer:List Env)(P:wx)(w:wZ)(H:Hp)(s:v9)(Q:VK)(u:v8)(s':v9):Prop :=
 ∃v H',s'.os=s.os/\AllBare s'.gens/\Un (frs outer) [] H H' s.heap s'.heap/\HOk P w H' s'.heap/\RelV v u/\Q v H'
def CR (CX:CXT)(outer:List Env)(P:wx)(w:wZ)(H:Hp)(s:v9)(Q:VK)(E:XK)(r:Result)(s':v9):Prop :=
 match r with
 | .ok (.ret u)=>CE outer P w H s Q u s'
 | .ok _=>False
 | .error e=>CX outer H s E e s'
structure aW (P:wx)(w:wZ)(K:v5)(mg:Str->Option v8)(base:Heap)(CX:CXT)(k:Nat)(f:Addr)(fd:wR)(ps:List Str)(sp:Sp):Prop where
 len:∀vs H Q E,sp vs H Q E->vs.length=ps.length
 run:∀(A:xh) (outer:List Env) (s:v9) (H:Hp) (args:Args) (us:List v8) (vs:List V) (Q:VK) (E:XK),bE k A->mx P w K mg base A outer s H->BindsTo s fd args (ps.zip us)->Vals vs us->sp vs H Q E →
  A5 (wV P w) A (.call (.ref f) args) (CR CX outer P w H s Q E) s
theorem mx.make {P:wx}{w:wZ}{K:v5}{mg:Str->Option v8}{base:Heap}{A:xh}{outer:List Env}{s:v9}{H:Hp}(e:mx P w K mg base A outer s H)(C:Addr)(us:List v8)(kw:List (Str×v8)) :
  mx P w K mg base (A.under (.builtin "type.__call__" ⟨.ref C :: us,kw⟩)) outer s H:=⟨by first | exact e.frames | (simpa [Around.under,Code.envs,Code.isFrame,pushEnvs] using e.frames),e.mod,e.bs,e.bsz,e.funs,e.frf,e.hok,e.bare⟩
section
variable  {X:Cx}{pins:List (Addr×Obj)}{σ:St}{H:Hp}{s s':v9}
theorem Inv.uG (I:Inv X pins σ H s):mx X.prog X.w X.K X.mg X.base X.A X.stack s H :=
 ⟨I.ok.frames,I.ok.mod,I.bs,wy I.ok.bsz I.sz,I.stack,I.jV,I.hok,I.bare⟩
theorem Inv.after {Q:VK}{u:v8}(I:Inv X pins σ H s)(h:CE X.stack X.prog X.w H s Q u s'):EP X pins σ Q u s':=by
 obtain ⟨v,H',os,bare,un,hok,r,q⟩:=h
 obtain ⟨hh,g,d,t,os'⟩:=s'
 obtain rfl:os'=s.os:=os
 exact ⟨v,H',I.call (h':=hh) (g':=g) (d':=d) (t':=t) (ch:=[]) un hok bare (λb z=>absurd z (by simp)),r,q⟩
end
def p5 (sp:Sp)(dvs:List V)(E:XK)(t:TA):TE:=λσ H Q=>t σ H λvs H1=>sp (vs++dvs) H1 Q E
def Binds (K:v5)(fd:wR)(ps:List Str)(ds:List v8):Prop :=
 ∀(s:v9) (us:List v8),K.In s.heap->(us++ds).length=ps.length->BindsTo s fd ⟨us,[]⟩ (ps.zip (us++ds))
theorem Binds.all {K:v5}{fd:wR}{ps:List Str}(h:∀us:List v8,us.length=ps.length->bindArgs fd ⟨us,[]⟩=pure (ps.zip us)):Binds K fd ps []:=λs us _ hl=>by
 rw[xU] at hl ⊢
 exact .of_eq (h us hl)
def Passes (CX:CXT)(X:Cx)(E:XK):Prop:=∀(pins:List (Addr×Obj)) (σ:St) (H:Hp) (s:v9) (e:v8) (s':v9),Inv X pins σ H s->CX X.stack H s E e s'->X.xe e s'
section
variable  {X:Cx}{CX:CXT}{k:Nat}{f C:Addr}{fd:wR}{ps:List Str}{sp:Sp}{dvs:List V}{ds:List v8}{E:XK}{x m:Str}{p pos apos:Pos}{e o:Expr}{es:List Expr}{ta:TE}{t:TA}
theorem p6 {pins:List (Addr×Obj)}{σ:St}{H:Hp}{s:v9}{Q:VK}{us:List v8}{vs:List V}(F:aW X.prog X.w X.K X.mg X.base CX k f fd ps sp)(hr:bE k X.A)(hb:Binds X.K fd ps ds)(hd:Vals dvs ds)(hx:Passes CX X E)
  (I:Inv X pins σ H s) (r:Vals vs us) (h:sp (vs++dvs) H Q E):wL (wV X.prog X.w) X.A (call (.ref f) us) (EP X pins σ Q) X.xe s:=by
 have r2:Vals (vs++dvs) (us++ds):=r.append hd
 have hl:(us++ds).length=ps.length:=by rw[<- r2.length];exact F.len _ _ _ _ h
 refine Ax (zc (F.run X.A X.stack s H ⟨us,[]⟩ (us++ds) (vs++dvs) Q E hr I.uG (hb s us I.kIn hl) r2 h) λr s' hq =>?_)
 cases r with
 | error e=>exact hx pins σ H s e s' I hq
 | ok fl =>
  cases fl with
  | ret u=>exact I.after hq
  | next=>exact False.elim hq
  | brk=>exact False.elim hq
  | cont=>exact False.elim hq
theorem ny (F:aW X.prog X.w X.K X.mg X.base CX k f fd ps sp)(hr:bE k X.A)(hg:Gl X x)(hm:X.mg x=some (.ref f))(hk:PySem.W.keepIn X.K (.ref f)=true)(hb:Binds X.K fd ps ds)(hd:Vals dvs ds)(hx:Passes CX X E)
  (ha:PA X (e :: es) t) (hdb:(x == ("__debug__" : Str))=false:=by decide) (he:wX (e :: es) X.env=(false,eval e X.env) :: wX es X.env:=by rfl) (hpl:(yU pos (wX es X.env)).any (·.1)=false:=by rfl) :
  PE X (.Call (.Name x p) (e :: es) [] pos) (p5 sp dvs E t):=by
 intro pins s σ H Q I h
 refine ya (eG I hg hm ?_ hdb)
 refine yO (h₀:=X.base) I.ok.mod.kin hk (thn (ha pos pins s σ H _ I h) λus s1 ⟨vs,H1,I1,r,q⟩=>⟨I1.kIn,?_⟩) he hpl
 exact p6 F hr hb hd hx I1 r q
end
section
variable  {X:Cx}{CX:CXT}{k:Nat}{f C:Addr}{fd:wR}{ps ks:List Str}{sp:Sp}{E:XK}{x m:Str}{p pos apos kpos:Pos}{e o:Expr}{es:List Expr}{kws:List Keyword}{te ta:TE}{t tk:TA}{nm:Option Str}
variable  {g:List v8->List v8->List v8}{gV:List V->List V->List V}
end
structure aJ (N P:List Str)(sc:Scope):Prop where
 kind:sc.kind = .function
 co:sc.isCoroutine=false
 gen:sc.isGenerator=false
 nd:N.Nodup
 pre:N.take P.length=P
 par:∀x∈P,sc.names.lookup x=some .local\/sc.names.lookup x=some .cell
 nofree:∀y∈sc.names,y.2 ≠ .free
theorem js {kindOf:Str->Option NameKind}{x:Str}:∀{binds:List (Str×v8)} {m:Str->Option v8},(∀v,(x,v)∉binds)->bindL kindOf binds m x=m x
 | [],_,_=>rfl
 | (n,v) :: r,m,h=>by
  unfold bindL
  rw[js λw hw=>h w (wD _ hw)]
  split
  ·have:x≠n:=by rintro rfl;exact h v wN
   simp[this]
  ·rfl
theorem jt {kindOf:Str->Option NameKind}{x:Str}:∀{binds:List (Str×v8)} {m:Str->Option v8},(∀v,(x,v)∉binds)->bindC kindOf binds m x=m x
 | [],_,_=>rfl
 | (n,v) :: r,m,h=>by
  unfold bindC
  rw[jt λw hw=>h w (wD _ hw)]
  split
  ·rfl
  ·have:x≠n:=by rintro rfl;exact h v wN
   simp[this]
theorem ju {kindOf:Str->Option NameKind}{x:Str}{v:v8}:∀{P:List Str} {vs:List v8} {i:Nat} {m:Str->Option v8},P.Nodup->P[i]? = some x->vs[i]? = some v->kindOf x=some .local →
  bindL kindOf (P.zip vs) m x=some v
 | [],_,_,_,_,h,_,_=>by simp at h
 | _ :: _,[],_,_,_,_,h,_=>by simp at h
 | p :: P,w :: vs,0,m,nd,h1,h2,hk=>by
  simp at h1 h2;subst h1;subst h2
  show bindL kindOf ((p,w) :: P.zip vs) m p=_
  unfold bindL
  rw[js λv hv=>(zr.mp nd).1 (Ao hv).1,if_pos hk]
  simp
 | p :: P,w :: vs,i+1,m,nd,h1,h2,hk=>by
  show bindL kindOf ((p,w) :: P.zip vs) m x=_
  unfold bindL
  exact ju (i:=i) (zr.mp nd).2 (by simpa using h1) (by simpa using h2) hk
theorem jv {kindOf:Str->Option NameKind}{x:Str}{v:v8}:∀{P:List Str} {vs:List v8} {i:Nat} {m:Str->Option v8},P.Nodup->P[i]? = some x->vs[i]? = some v->kindOf x≠some .local →
  bindC kindOf (P.zip vs) m x=some v
 | [],_,_,_,_,h,_,_=>by simp at h
 | _ :: _,[],_,_,_,_,h,_=>by simp at h
 | p :: P,w :: vs,0,m,nd,h1,h2,hk=>by
  simp at h1 h2;subst h1;subst h2
  show bindC kindOf ((p,w) :: P.zip vs) m p=_
  unfold bindC
  rw[jt λv hv=>(zr.mp nd).1 (Ao hv).1,if_neg hk]
  simp
 | p :: P,w :: vs,i+1,m,nd,h1,h2,hk=>by
  show bindC kindOf ((p,w) :: P.zip vs) m x=_
  unfold bindC
  exact jv (i:=i) (zr.mp nd).2 (by simpa using h1) (by simpa using h2) hk
def start (N:List Str)(vs:List V):St:=vs.map some++List.replicate (N.length-vs.length) none
def jX (CX:CXT)(P:wx)(w:wZ)(K:v5)(mg:Str->Option v8)(base:Heap)(N:List Str)(qual:Str)(scope:Scope)(f:Addr)(cd:v8)(A:xh)(outer:List Env)(s:v9)(H:Hp)(E:XK):Cx where
 prog:=P
 w:=w
 K:=K
 mg:=mg
 base:=base
 A:=A.deeper (envOfC qual scope s.heap.objs.size f cd)
 N:=N
 s₀:=s
 H₀:=H
 env:=envOfC qual scope s.heap.objs.size f cd
 outer:=outer
 stack:=envOfC qual scope s.heap.objs.size f cd :: outer
 ex:=[]
 calm:=true
 fn:=λ_=>true
 pn:=[]
 xe:=λe s'=>wL (wV P w) (A.deeper (envOfC qual scope s.heap.objs.size f cd)) (leaving (envOfC qual scope s.heap.objs.size f cd) e) (λ_ s''=>CX outer H s E e s'') (λe' s''=>CX outer H s E e' s'') s'
theorem kP {sc:Scope}{n:Nat}{x:Str}(h:sc.names.lookup x=some .cell):∃c,(cellsFrom n sc.names []).lookup x=some c:=by
 have q:=Ah sc.names n [] (.inl h)
 exact Option.isSome_iff_exists.mp q
theorem oz {CX:CXT}{P:wx}{w:wZ}{K:v5}{mg:Str->Option v8}{base:Heap}{N ps:List Str}{qual:Str}{scope:Scope}{f:Addr}{cd:v8}{A:xh}{outer:List Env}{s s1:v9}{H:Hp}{E:XK}{us:List v8}{vs:List V}
  (S:aJ N ps scope) (hd:A.handled=none) (e0:mx P w K mg base A outer s H) (hl:vs.length=ps.length) (r:Vals vs us)
  (x:InCallC s s.heap.objs.size (bindL (envOfC qual scope s.heap.objs.size f cd).kindOf (ps.zip us) λ_=>none) (cellsFrom (s.heap.objs.size+1) scope.names []) (bindC (envOfC qual scope s.heap.objs.size f cd).kindOf (ps.zip us) λ_=>none) s1) :
  Inv (jX CX P w K mg base N qual scope f cd A outer s H E) [] (start N vs) H s1:=by
 have hpl:ps.length<=N.length:=by have:=congrArg List.length S.pre;rw[wG] at this;omega
 obtain ⟨h1,tk,rfl,hk⟩:=x.done
 have noA:∀b:Addr,b∉(jX CX P w K mg base N qual scope f cd A outer s H E).ex:=λb z=>absurd (show b∈([]:List Addr) from z) (by simp)
 refine ⟨⟨e0.mod,S.kind,rfl,rfl,wm _,λy z c h1 h2 =>?_,λy hy =>?_,λy c _ h =>?_,λ_=>hd,Around.frames_deeper e0.frames,.inr ⟨rfl,rfl⟩,λb z=>absurd z (noA b),e0.bs,e0.bsz,λb _ _=>noA b,λb z=>absurd z (noA b),e0.funs,e0.frf⟩,
  rfl,e0.bare,Un.kept hk,⟨_,x.toInCall.ns,λi y v h1 h2 h3 =>?_⟩,λy c h=>⟨_,x.cell y c h⟩,e0.hok.fresh (wm _),λy c h =>?_,λp hp=>absurd (show p∈([]:List (Addr×Obj)) from hp) (by simp),e0.hok.kept hk,?_⟩
 ·exact name_of_addr x.apart (xV h1) (xV h2)
 ·have hy:scope.names.lookup y=some .cell\/scope.names.lookup y=some .free:=hy
  rcases hy with hy | hy
  ·exact kP hy
  ·exact absurd rfl (S.nofree _ (xV hy))
 ·exact yJ (x.above y c (xV h))
 ·have hi:i<vs.length:=by
   unfold start at h2
   by_cases hi:i<vs.length
   ·exact hi
   ·rw[yC (by simpa using hi)] at h2
    rw[List.getElem?_replicate] at h2
    split at h2 <;> cases h2
  have ha:vs[i]? = some v:=by
   unfold start at h2
   rw[zM (by simpa using hi),w5] at h2
   cases e:vs[i]? with
   | none=>rw[e] at h2;cases h2
   | some a=>rw[e] at h2;cases h2;rfl
  obtain ⟨u,hu,rv⟩:=r.get ha
  have hp:ps[i]? = some y:=by
   rw[<- S.pre,yK (by omega)];exact h1
  have ndP:ps.Nodup:=by rw[<- S.pre];exact S.nd.sublist (List.take_sublist _ _)
  refine ⟨u,rv,?_⟩
  rcases S.par y (xb hp) with k | k
  ·exact .inl ⟨k,ju ndP hp hu k⟩
  ·obtain ⟨c,e⟩:=kP (n:=s.heap.objs.size+1) k
   refine .inr ⟨.inl k,c,e,?_⟩
   have q:=x.cell y c e
   rw[jv ndP hp hu (by show scope.names.lookup y≠_;rw[k];decide)] at q
   exact q
 ·exact e0.hok.fresh (yJ (x.above y c (xV h)))
 ·unfold start
  show _=N.length
  rw[wc,vZ,List.length_replicate]
  omega
theorem tZ {CX:CXT}{P:wx}{w:wZ}{K:v5}{mg:Str->Option v8}{base:Heap}{k:Nat}{f:Addr}{name qual:Str}{params:Arguments}{body:List Stmt}{scope:Scope}{dV kV doc pm cdv ct oc:v8}{an od:Option Addr}
  {osl:Array (Option v8)} {N ps:List Str} {sp:Sp} (lk:K.lookup f=some ⟨oc,od,.func (PySem.W.fnOf name qual params body scope dV kV doc pm an cdv ct),osl⟩) (hcd:PySem.W.codeIn K cdv qual=true) (S:aJ N ps scope)
  (len:∀vs H Q E,sp vs H Q E->vs.length=ps.length)
  (hbody:∀(A:xh) (outer:List Env) (s:v9) (H:Hp) (vs:List V) (Q:VK) (E:XK),bE k (A.deeper (envOfC qual scope s.heap.objs.size f cdv))->sp vs H Q E →
   ∃t,PSs (jX CX P w K mg base N qual scope f cdv A outer s H E) body t/\t { nx:=λ_ H'=>Q .non H',rt:=Q } (start N vs) H) :
  aW P w K mg base CX (k+1) f (PySem.W.fnOf name qual params body scope dV kV doc pm an cdv ct) ps sp:=by
 refine ⟨len,λA outer s H args us vs Q E hr e0 hb r hsp =>?_⟩
 have hl:=len _ _ _ _ hsp
 have KX:K.In s.heap:=e0.mod.kin.keeps λb o e=>(e0.bs b o e).1
 have lim:s.heap.NoLimit:=e0.mod.nolimit.keeps λb o e=>(e0.bs b o e).1
 have hkind:∀y∈ps.zip us,scope.names.lookup y.1=some .local\/(scope.names.lookup y.1=some .cell/\((cellsFrom (s.heap.objs.size+1) scope.names []).lookup y.1).isSome=true):=λ⟨n,v⟩ hy=>by
  rcases S.par n (Ao hy).1 with q | q
  ·exact .inl q
  ·exact .inr ⟨q,Ah _ _ _ (.inl q)⟩
 refine codeAny_call_function hr.depth (KX _ _ lk) rfl S.co S.gen rfl (PySem.W.codeRec_of KX hcd) (hb _ _ _ _ ?_)
 refine wpAny_newFunctionEnv_cells S.kind hkind λenv he s1 x =>?_
 subst he
 refine ⟨lim.keeps x.toInCall.keep,codeAny_func ?_⟩
 obtain ⟨t,ht,hq⟩:=hbody A outer s H vs Q E (hr.deeper _) hsp
 have I:Inv (jX CX P w K mg base N qual scope f cdv A outer s H E) [] (start N vs) H s1:=oz S hr.hd e0 hl r x
 refine xm (ht [] s1 (start N vs) H _ I hq) (λfl s' hs =>?_) λe s' hs=>hs
 have fin:∀{σ':St} {H':Hp} {v:V} {u:v8},Inv (jX CX P w K mg base N qual scope f cdv A outer s H E) [] σ' H' s'->RelV v u->Q v H'->CE outer P w H s Q u s' :=
  λ{σ' H' v u} J rv q=>⟨v,H',J.os,J.bare,J.base,J.hok,rv,q⟩
 cases fl with
 | ret u =>
  obtain ⟨v,σ',H',J,rv,q⟩:=hs
  exact fin J rv q
 | next =>
  obtain ⟨σ',H',J,q⟩:=hs
  exact fin (v:=V.non) (u:=yN) J rfl q
 | brk =>
  obtain ⟨_,_,_,q⟩:=hs
  exact False.elim q
 | cont =>
  obtain ⟨_,_,_,q⟩:=hs
  exact False.elim q
open PySem PySem.Spec PyProof.Rows
section
variable  {X:Cx}{x:Str}{p pos:Pos}{e:Expr}{es:List Expr}{t:TA}{id T:String}{r:List V->Hp->VK->Prop}
def tCB (r:List V->Hp->VK->Prop)(t:TA):TE:=λσ H Q=>t σ H λvs H1=>r vs H1 Q
theorem aD (hc:cS X (.builtin id) r)(hg:Gl X x)(hm:X.mg x=none)(hv:xu x=some (.builtin id))(ha:PA X (e :: es) t)(hn:x ≠ "__name__" := by decide)(hdb:(x == ("__debug__" : Str))=false:=by decide)
  (he:wX (e :: es) X.env=(false,eval e X.env) :: wX es X.env:=by rfl) (hpl:(yU pos (wX es X.env)).any (·.1)=false:=by rfl):PE X (.Call (.Name x p) (e :: es) [] pos) (tCB r t):=by
 intro pins s σ H Q I h
 refine ya (eZ I hg hm hv ?_ hn hdb)
 exact PyProof.Rows.callWith_builtin1 (thn (ha pos pins s σ H _ I h) λus s1 ⟨vs,H1,I1,r1,q1⟩=>hc pins s1 σ H1 vs us Q I1 r1 q1) he hpl
theorem aL (hc:cS X (.type T) r)(hg:Gl X x)(hm:X.mg x=none)(hv:xu x=some (.type T))(ha:PA X (e :: es) t)(hn:x ≠ "__name__" := by decide)(hdb:(x == ("__debug__" : Str))=false:=by decide)
  (he:wX (e :: es) X.env=(false,eval e X.env) :: wX es X.env:=by rfl) (hpl:(yU pos (wX es X.env)).any (·.1)=false:=by rfl):PE X (.Call (.Name x p) (e :: es) [] pos) (tCB r t):=by
 intro pins s σ H Q I h
 refine ya (eZ I hg hm hv ?_ hn hdb)
 exact xG (thn (ha pos pins s σ H _ I h) λus s1 ⟨vs,H1,I1,r1,q1⟩=>hc pins s1 σ H1 vs us Q I1 r1 q1) he hpl
end
end L2
namespace HT
open PySem PyProof.Rows
def lexLt:List Int->List Int->Bool
 | [],[]=>false
 | [],_ :: _=>true
 | _ :: _,[]=>false
 | x :: xs,y :: ys=>if x=y then lexLt xs ys else decide (x<y)
theorem cg (x y:Int)(xs ys:List Int):lexLt (x :: xs) (y :: ys)=if x=y then lexLt xs ys else decide (x<y):=rfl
theorem c9:lexLt [] []=false:=rfl
theorem ia (y:Int)(ys:List Int):lexLt [] (y :: ys)=true:=rfl
theorem ib (x:Int)(xs:List Int):lexLt (x :: xs) []=false:=rfl
theorem kQ (A:xh)(s:v9)(a:Int)(t:Tok)(c:Int)(u:Tok):∃e,zq A s (.int a t) (.int c u) e/\(e=true↔a=c) :=
 ⟨(a == c),xZ a t c u,by simp⟩
theorem p7 (A:xh)(s:v9)(a:Int)(t:Tok)(c:Int)(u:Tok)(prog:wx)(w:wZ)(E:v8->v9->Prop)(Q:v8->v9->Prop)(h:Q (.bool (decide (a<c))) s) :
  wL (wV prog w) A (richCompare .Lt (.int a t) (.int c u)) Q E s :=
 (PyProof.Rows.lt_int h:wL (wV prog w) A (xn .Lt (.int a t) (.int c u)) Q E s)
section
open PySem.SeqAt
open PySem.AutoSeq1 (wpAny_loadPart')
open PySem.MeetsSeq PySem.MeetsSeq2 PySem.MeetsSeq3
theorem i8 (l b:Addr)(items items2:Array v8)(n n2:Nat)(dd dd2:Option Addr)(sl sl2:Array (Option v8))(ns ms:List Int)(hi:yf items.toList ns)(hj:yf items2.toList ms) :
  Meets (Builtin.«tuple.__lt__» ⟨[.ref l,.ref b],[]⟩)
   (λ_ R s=>s.heap.get? l=some { cls :=.type "tuple",dict:=dd,data :=.seq items n,slots:=sl }/\s.heap.get? b=some { cls :=.type "tuple",dict:=dd2,data :=.seq items2 n2,slots:=sl2 } ∧
    R (.ok (.ret (.bool (lexLt ns ms)))) s) :=
 .of_wp λprog w A R s h=>by
  obtain ⟨hp,g,d,tk,os⟩:=s;obtain ⟨hl,hb,h⟩:=h
  have f2:=zO
  have z1:items.size=ns.length:=by rw[<- hi.length];simp
  have z2:items2.size=ms.length:=by rw[<- hj.length];simp
  wp_walk using wpAny_loadPart' hl,wpAny_loadPart' hb,wpAny_forIn_list _ (λrest b s'=>b.1=none/\s'=⟨hp,g,d,tk,os⟩/\∃(vs ws:List v8) (ns' ms':List Int),rest=vs.zip ws ∧
   yf vs ns'/\yf ws ms'/\ns'.length+items2.size=ms'.length+items.size/\R (.ok (.ret (.bool (lexLt ns' ms')))) ⟨hp,g,d,tk,os⟩) _
  case turn =>
   rintro ⟨y,x⟩ rest b s' ⟨hb',rfl,vs,ws,ns',ms',hz,hvi,hwi,hlen,hR⟩
   cases hvi with
   | nil=>rw[AY] at hz;cases hz
   | cons a t hvi' =>
    cases hwi with
    | nil=>rw[AN] at hz;cases hz
    | cons c u hwi' =>
     rw[yP] at hz
     injection hz with hyx hrest
     injection hyx with hy hx
     subst hy hx
     rw[cg] at hR
     simp only[wk] at hlen
     obtain ⟨e,he,hiff⟩:=kQ A.in1 ⟨hp,g,d,tk,os⟩ a t c u
     refine wb (he prog w _ _ ?_)
     cases e with
     | true =>
      rw[if_pos (hiff.mp rfl)] at hR
      wp_walk
      exact ⟨rfl,rfl,_,_,_,_,hrest,hvi',hwi',by omega,hR⟩
     | false =>
      rw[if_neg (λq=>absurd (hiff.mpr q) wz)] at hR
      have hri:=p7 A.in1 ⟨hp,g,d,tk,os⟩ a t c u prog w
      wp_walk using hri
      exact ⟨_,rfl,by simpa using hR⟩
  case fin =>
   rintro ⟨b1,b2⟩ s' ⟨hb',rfl,vs,ws,ns',ms',hz,hvi,hwi,hlen,hR⟩
   simp only at hb'
   subst hb'
   have hv:lexLt ns' ms'=decide (items.size<items2.size):=by
    cases hvi with
    | nil =>
     cases hwi with
     | nil =>
      simp only[w9] at hlen
      rw[c9]
      exact (decide_eq_false (by omega)).symm
     | cons c u hw =>
      simp only[w9,wk] at hlen
      rw[ia]
      exact (decide_eq_true (by omega)).symm
    | cons a t hv =>
     cases hwi with
     | nil =>
      simp only[w9,wk] at hlen
      rw[ib]
      exact (decide_eq_false (by omega)).symm
     | cons c u hw =>
      rw[yP] at hz
      cases hz
   rw[hv] at hR
   wp_walk
   exact ⟨_,rfl,by simpa [Builtin.Tuple.tupleCompareSizes] using hR⟩
  case h =>
   exact ⟨rfl,rfl,items.toList,items2.toList,ns,ms,rfl,hi,hj,by omega,h⟩
end
section
variable  {prog:wx}{w:wZ}{A:xh}{E:v8->v9->Prop}{s:v9}
theorem mz {l b:Addr}{items items2:Array v8}{ns ms:List Int}{Q:v8->v9->Prop}(hl:IsTup s.heap l items)(hb:IsTup s.heap b items2)(hi:yf items.toList ns)(hj:yf items2.toList ms)
  (hu:A.units<cLine) (h:Q (.bool (lexLt ns ms)) s):wL (wV prog w) A (xn .Lt (.ref l) (.ref b)) Q E s:=by
 obtain ⟨⟨cls,dd,data,sl⟩,ho,hc,n,hd⟩:=id hl
 obtain ⟨⟨cls2,dd2,data2,sl2⟩,ho2,hc2,n2,hd2⟩:=id hb
 simp only at hc hd hc2 hd2
 subst hc hd hc2 hd2
 exact xC (op :=.Lt) ⟨_,ho,rfl⟩ ⟨_,ho2,rfl⟩ PySem.F.slot_tuple_lt PySem.F.entry_tuple_lt (PySem.F.args_tuple_lt_2 _ _) (i8 l b items items2 n n2 dd dd2 sl sl2 ns ms hi hj)
  ⟨ho,ho2,show Value.bool (lexLt ns ms)≠Value.notImplemented/\Q (.bool (lexLt ns ms)) s from ⟨(λx=>nomatch x),h⟩⟩ hu
theorem rO {t b:Addr}{vs ws:List v8}{Q:v8->v9->Prop}(ht:IsTup s.heap t vs.toArray)(hb:IsTup s.heap b ws.toArray)(hv:vs≠[])
  (h1:ws=[]->Q (.ref t) s) (h2:ws≠[]->Q (.ref s.heap.objs.size) { s with heap:=s.heap.push { cls :=.type "tuple",data :=.seq (vs++ws).toArray } })
  (hsz:vs.length+ws.length<=wa):wL (wV prog w) A (binaryOp .Add (.ref t) (.ref b)) Q E s:=by
 obtain ⟨⟨cls,dd,data,sl⟩,ho,hc,n,hd⟩:=id ht
 obtain ⟨⟨cls2,dd2,data2,sl2⟩,ho2,hc2,n2,hd2⟩:=id hb
 simp only at hc hd hc2 hd2
 subst hc hd hc2 hd2
 have e:vs.toArray++ws.toArray=(vs++ws).toArray:=by simp
 by_cases hw:ws=[]
 ·exact Aw ⟨_,ho,rfl⟩ ⟨_,ho2,rfl⟩ Ag AS yW yQ (yL _ _)
   (tuple_addW1 t b vs.toArray ws.toArray n n2 dd dd2 sl sl2 (by simpa using hv) (by simp[hw])) ⟨ho,ho2,h1 hw⟩
 ·refine Aw ⟨_,ho,rfl⟩ ⟨_,ho2,rfl⟩ Ag AS yW yQ (yL _ _)
   (tuple_addW2 t b vs.toArray ws.toArray n n2 dd dd2 sl sl2 (by simpa using hv) (by simpa using hw) (by rw[wg,wg];exact hsz)) ⟨ho,ho2,?_⟩
  rw[e]
  exact h2 hw
def sIx (n d:Nat):Option Int->Nat
 | none=>d
 | some v=>if v<0 then (v+(n:Int)).toNat else min v.toNat n
theorem kR (n d:Nat):sIx n d none=d:=rfl
theorem gS (n d k:Nat):sIx n d (some (k:Int))=min k n:=by
 show (if (k:Int)<0 then ((k:Int)+(n:Int)).toNat else min (k:Int).toNat n)=min k n
 rw[if_neg (by omega),yy]
end
end HT
namespace L2
open PySem PySem.Spec PyProof.Rows
abbrev TO:=St->Hp->(Option Int->Hp->Prop)->Prop
def PO (X:Cx)(e:Option Expr)(t:TO):Prop :=
 ∀(pins:List (Addr×Obj)) (s:v9) (σ:St) (H:Hp) (Q:Option Int->Hp->Prop),Inv X pins σ H s->t σ H Q →
  wL (wV X.prog X.w) X.A (evalPart e X.env) (λu s'=>∃o H',Inv X pins σ H' s'/\IsPart u o/\Q o H') X.xe s
def rP:TO:=λ_ H Q=>Q none H
def vz (t:TE):TO:=λσ H Q=>t σ H λx H1=>∃i,x = .int i/\Q (some i) H1
theorem intsAre_of {ns:List Int}:∀{us:List v8},Vals (ns.map V.int) us->yf us ns:=by
 induction ns with
 | nil=>intro us r;rw[BL] at r;cases r;exact .nil
 | cons n ns ih =>
  intro us r
  rw[xM] at r
  cases r with
  | cons r1 r2 =>
   obtain ⟨t,e⟩:=r1
   subst e
   exact .cons n t (ih r2)
section
variable  {X:Cx}{e:Expr}{te:TE}{lo hi:Option Expr}{tl th:TO}{pos p2:Pos}
theorem bQ:PO X none rP:=by
 intro pins s σ H Q I h
 rw[evalPart_none]
 exact wQ ⟨none,H,I,.none,h⟩
theorem bC (h:PE X e te):PO X (some e) (vz te):=by
 intro pins s σ H Q I hw
 rw[evalPart_some]
 refine thn (h pins s σ H _ I hw) λu s1 ⟨x,H1,I1,r1,q1⟩ =>?_
 obtain ⟨i,rfl,q⟩:=q1
 obtain ⟨t,rfl⟩:=r1
 exact ⟨some i,H1,I1,.int i t,q⟩
def SlR (X:Cx)(r:V->Option Int->Option Int->Hp->VK->Prop):Prop :=
 ∀(pins:List (Addr×Obj)) (s:v9) (σ:St) (H:Hp) (x:V) (v vl vu:v8) (lo hi:Option Int) (sl:Addr) (Q:VK),Inv X pins σ H s->RelV x v->s.heap.IsSliceOf sl vl vu .none->IsPart vl lo->IsPart vu hi->r x lo hi H Q →
  ∃T id,typeLookup (.type T) "__getitem__" = pure (some (.builtin id))/\s.TypeIs v T/\wL (wV X.prog X.w) X.A (getItem v (.ref sl)) (EP X pins σ Q) X.xe s
def tSl (r:V->Option Int->Option Int->Hp->VK->Prop)(te:TE)(tl th:TO):TE:=λσ H Q=>te σ H λx H1=>tl σ H1 λl H2=>th σ H2 λu H3=>r x l u H3 Q
theorem bp {r:V->Option Int->Option Int->Hp->VK->Prop}(hr:SlR X r)(he:PE X e te)(hl:PO X lo tl)(hu:PO X hi th):PE X (.Subscript e (.Slice lo hi none p2) pos) (tSl r te tl th):=by
 intro pins s σ H Q I h
 refine Subscript_ (thn (he pins s σ H _ I h) λv s1 ⟨x,H1,I1,r1,q1⟩ =>?_)
 refine wpAny_Slice (thn (hl pins s1 σ H1 _ I1 q1) λvl s2 ⟨l,H2,I2,pl,q2⟩=>thn (hu pins s2 σ H2 _ I2 q2) λvu s3 ⟨u,H3,I3,pu,q3⟩ =>?_)
 rw[evalPart_none]
 refine wQ ?_
 have I4:Inv X pins σ H3 { s3 with heap:=s3.heap.push { cls :=.type "slice",data :=.fields #[vl,vu,.none] } }:=I3.kept (t':=s3.toks) λb ob q=>v7 _ q
 obtain ⟨T,id,hT,ht,hg⟩:=hr pins { s3 with heap:=s3.heap.push { cls :=.type "slice",data :=.fields #[vl,vu,.none] } } σ H3 x v vl vu l u s3.heap.objs.size Q I4 r1 (BN ..) pl pu q3
 show wL (wV X.prog X.w) X.A (subscriptTail e (.Slice lo hi none p2) v (.ref s3.heap.objs.size)) (EP X pins σ Q) X.xe { s3 with heap:=s3.heap.push { cls :=.type "slice",data :=.fields #[vl,vu,.none] } }
 exact tail_any (ops:=[.ref s3.heap.objs.size,v]) ht hT hg (by with_unfolding_all rfl)
def cu (xs:List V)(lo hi:Option Int):List V:=(xs.drop (HT.sIx xs.length 0 lo)).take (HT.sIx xs.length xs.length hi-HT.sIx xs.length 0 lo)
theorem kS (xs:List V)(lo hi:Option Int):(cu xs lo hi).length<=xs.length:=by
 unfold cu
 rw[wG,wW]
 omega
def rLtT (K:v5):R2:=λx y H Q=>∃a b ns ms,x = .ref a/\y = .ref b/\SqT K H a (ns.map V.int)/\SqT K H b (ms.map V.int)/\Q (.bl (HT.lexLt ns ms)) H
theorem p9 (hu:X.A.units<cLine):OpR X (xn .Lt) (rLtT X.K):=by
 intro pins s σ H x y v u Q I rx ry h
 obtain ⟨a,b,ns,ms,rfl,rfl,ha,hb,q⟩:=h
 cases rx
 cases ry
 obtain ⟨its,r1,p1,_⟩:=I.tuple ha
 obtain ⟨its2,r2,p2,_⟩:=I.tuple hb
 have i1:yf its.toArray.toList ns:=intsAre_of r1
 have i2:yf its2.toArray.toList ms:=intsAre_of r2
 exact HT.mz p1 p2 i1 i2 hu ⟨.bl (HT.lexLt ns ms),H,I,rfl,q⟩
def vA (K:v5):R2:=λx y H Q=>∃a b xs ys,x = .ref a/\y = .ref b/\SqT K H a xs/\SqT K H b ys/\xs≠[]/\xs.length+ys.length<=wa ∧
 (ys=[]->Q (.ref a) H)/\(ys≠[]->∀p,H p=none->Q (.ref p) (upd H p (.tup (xs++ys))))
theorem Vals.gU {xs:List V}{us:List v8}(r:Vals xs us):us=[]↔xs=[]:=by
 cases r with
 | nil=>simp
 | cons _ _=>simp
theorem rQ:OpR X (binaryOp .Add) (vA X.K):=by
 intro pins s σ H x y v u Q I rx ry h
 obtain ⟨a,b,xs,ys,rfl,rfl,ha,hb,hx,hz,q1,q2⟩:=h
 cases rx
 cases ry
 obtain ⟨its,r1,p1,_⟩:=I.tuple ha
 obtain ⟨its2,r2,p2,_⟩:=I.tuple hb
 refine HT.rO p1 p2 (λz=>hx (r1.gU.mp z)) (λz=>⟨.ref a,H,I,rfl,q1 (r2.gU.mp z)⟩) (λz =>?_) (by rw[<- r1.length, <- r2.length];exact hz)
 refine ⟨.ref s.heap.objs.size,_,I.laid (t':=s.toks) (o :=.tup (xs++ys)) (λb ob q=>v7 _ q) (wm _) ?_,rfl,q2 (λw=>z (r2.gU.mpr w)) _ (I.hok.fresh (wm _))⟩
 exact ⟨by rw[wc];exact hz,_,r1.append r2,dQ.new _ _⟩
end
open PySem PySem.Spec PyProof.Rows
def ixN (n:Nat)(i:Int):Option Nat:=if 0<=i then (if i<n then some i.toNat else none) else if -(n:Int)<=i then some (i+n).toNat else none
def atI {α:Type}(xs:List α)(i:Int):Option α:=(ixN xs.length i).bind λj=>xs[j]?
theorem nz {n:Nat}{i:Int}{j:Nat}(h:ixN n i=some j):seqIndex? i n=some j/\j<n /\ -(n:Int)<=i/\i<n:=by
 unfold ixN at h
 by_cases h0:0<=i
 ·rw[if_pos h0] at h
  by_cases h1:i<n
  ·rw[if_pos h1] at h
   have e:i.toNat=j:=wJ h
   exact ⟨by rw[Bp h0 h1,e],by omega,by omega,h1⟩
  ·rw[if_neg h1] at h;cases h
 ·rw[if_neg h0] at h
  by_cases h1 : -(n:Int)<=i
  ·rw[if_pos h1] at h
   have e:(i+n).toNat=j:=wJ h
   exact ⟨by rw[Ba (by omega) h1,e],by omega,h1,by omega⟩
  ·rw[if_neg h1] at h;cases h
theorem jY {α:Type}{xs:List α}{i:Int}{v:α}(h:atI xs i=some v):∃j,seqIndex? i xs.length=some j/\xs[j]? = some v/\j<xs.length /\ -(xs.length:Int)<=i/\i<xs.length:=by
 unfold atI at h
 cases e:ixN xs.length i with
 | none=>rw[e] at h;cases h
 | some j =>
  rw[e] at h
  obtain ⟨h1,h2,h3,h4⟩:=nz e
  exact ⟨j,h1,h,h2,h3,h4⟩
theorem bf {α:Type}{xs:List α}{j:Nat}{v:α}(h:xs[j]? = some v):atI xs (j:Int)=some v:=by
 have hj:j<xs.length:=(wF.mp h).1
 have e:ixN xs.length (j:Int)=some j:=by
  unfold ixN
  rw[if_pos (by omega),if_pos (by omega)];simp
 unfold atI;rw[e];exact h
theorem qa {α:Type}(xs:List α)(v:α):atI (xs++[v]) (-1)=some v:=by
 have hl:(xs++[v]).length=xs.length+1:=by simp
 have e:ixN (xs++[v]).length (-1)=some xs.length:=by
  unfold ixN
  rw[hl,if_neg (by decide),if_pos (by omega)]
  congr 1
  omega
 unfold atI
 rw[e]
 show (xs++[v])[xs.length]? = some v
 simp
def rR (b:Expr):Prop:=∀o i,subscripted b false o i=operate [o,i] (getItem o i)
def IxR (X:Cx)(r:R2):Prop :=
 ∀(value slice:Expr) (pins:List (Addr×Obj)) (s:v9) (σ:St) (H:Hp) (x y:V) (v u:v8) (Q:VK),Inv X pins σ H s->RelV x v->RelV y u->r x y H Q →
  subscripted slice false v u=operate [v,u] (getItem v u)->wL (wV X.prog X.w) X.A (subscriptTail value slice v u) (EP X pins σ Q) X.xe s
def MtR (X:Cx)(id:String)(r:V->List V->Hp->VK->Prop):Prop :=
 ∀(pins:List (Addr×Obj)) (s:v9) (σ:St) (H:Hp) (x:V) (xs:List V) (v:v8) (us:List v8) (Q:VK),Inv X pins σ H s->RelV x v->Vals xs us->r x xs H Q →
  wL (wV X.prog X.w) X.A (call (.builtin id) (v :: us)) (EP X pins σ Q) X.xe s
section
variable  {X:Cx}{a b:Expr}{ta tb:TE}{pos:Pos}
theorem aO {r:R2}(hr:IxR X r)(ha:PE X a ta)(hb:PE X b tb)(hs:rR b):PE X (.Subscript a b pos) (tOp r ta tb):=by
 intro pins s σ H Q I h
 exact Subscript_ (uC ha hb I h λv u s2 x y H2 I2 rx ry q=>hr a b pins s2 σ H2 x y v u Q I2 rx ry q (hs _ _))
def rIxL (K:v5):R2:=λx y H Q=>∃p xs i v,x = .ref p/\y = .int i/\SqL K H p xs/\atI xs i=some v/\Q v H
def rIxT (K:v5):R2:=λx y H Q=>∃p xs i v,x = .ref p/\y = .int i/\SqT K H p xs/\atI xs i=some v/\Q v H
def rIxS:R2:=λx y H Q=>∃z i c,x = .str z/\y = .int i/\z.length<=wa/\atI z.cps.toList i=some c/\Q (.str ⟨#[c]⟩) H
theorem aI:IxR X (rIxL X.K):=by
 intro value slice pins s σ H x y v u Q I rx ry h hs
 obtain ⟨p,xs,i,z,rfl,rfl,hq,he,q⟩:=h
 cases rx
 obtain ⟨t,rfl⟩:=ry
 obtain ⟨its,r,pl,hz⟩:=I.list hq
 obtain ⟨j,h1,h2,h3,h4,h5⟩:=jY he
 obtain ⟨w,ew,rw'⟩:=r.get h2
 have hl:=r.length
 have hn:=gj
 have fin:EP X pins σ Q w s:=⟨z,H,I,rw',q⟩
 by_cases h0:0<=i
 ·have hj:i.toNat=j:=by
   rw[Bp h0 h5] at h1
   exact wJ h1
  exact item_listR pl.isList h0 (by omega) (by rw[hj];simpa using ew) fin hs
 ·have hj:(i+(its.toArray.size:Int)).toNat=j:=by
   rw[Ba (by omega) h4] at h1
   rw[wg, <- hl]
   exact wJ h1
  exact Am (x:=w) pl.isList.typeIs slot_list_getitem.lookup
   (wpAny_getItem_list_neg (Q:=λr s'=>r=w/\EP X pins σ Q r s') pl.isList (by omega) (by rw[wg] <;> omega) (by omega) (by rw[hj];simpa using ew) ⟨rfl,fin⟩) hs
theorem da:IxR X (rIxT X.K):=by
 intro value slice pins s σ H x y v u Q I rx ry h hs
 obtain ⟨p,xs,i,z,rfl,rfl,hq,he,q⟩:=h
 cases rx
 obtain ⟨t,rfl⟩:=ry
 obtain ⟨its,r,pl,hz⟩:=I.tuple hq
 obtain ⟨j,h1,h2,h3,h4,h5⟩:=jY he
 obtain ⟨w,ew,rw'⟩:=r.get h2
 have hl:=r.length
 have hn:=gj
 have fin:EP X pins σ Q w s:=⟨z,H,I,rw',q⟩
 exact Am (x:=w) pl.typeIs slot_tuple_getitem.lookup
  (getItem_tuple (j:=j) (Q:=λr s'=>r=w/\EP X pins σ Q r s') pl (by omega) (by omega) (by rw[wg, <- hl];exact h1) (by simpa using ew) ⟨rfl,fin⟩) hs
theorem jZ:IxR X rIxS:=by
 intro value slice pins s σ H x y v u Q I rx ry h hs
 obtain ⟨z,i,c,rfl,rfl,hz,he,q⟩:=h
 obtain ⟨t,rfl⟩:=rx
 obtain ⟨t',rfl⟩:=ry
 obtain ⟨j,h1,h2,h3,h4,h5⟩:=jY he
 have hl:z.cps.toList.length=z.length:=by simp[Str.length]
 rw[hl] at h1 h4 h5
 have hn:=gj
 exact tail_any (y8 s z t) slot_str_getitem.lookup (getItem_str (c:=c) (by
  have e1:decide (i < -(2 ^ 63:Int))=false:=decide_eq_false (by omega)
  have e2:decide (i≥2 ^ 63)=false:=decide_eq_false (by omega)
  rw[e1,e2,BG]) (by rw[h1];simpa using h2) ⟨.str ⟨#[c]⟩,H,I.tok _,⟨_,rfl⟩,q⟩) hs
theorem mB (its:List v8)(n j:Nat)(u:v8):Ay (·.setIfInBounds j u) { cls :=.type "list",data :=.seq its.toArray n }={ cls :=.type "list",data :=.seq (its.set j u).toArray n }:=by
 simp[Ay]
theorem Inv.lst {pins:List (Addr×Obj)}{σ:St}{H:Hp}{s:v9}{p:Addr}{xs:List V}(I:Inv X pins σ H s)(h:H p=some (.lst xs)) :
  ∃(its:List v8) (n:Nat),Vals xs its/\s.heap.get? p=some { cls :=.type "list",data :=.seq its.toArray n }/\xs.length<=wa:=by
 obtain ⟨z,its,n,r,e⟩:=I.hok p _ h
 exact ⟨its,n,r,e,z⟩
theorem Inv.uH {pins:List (Addr×Obj)}{σ:St}{H:Hp}{s:v9}{p:Addr}{xs ys:List V}{its its':List v8}{n n':Nat}{f:Obj->Obj}(I:Inv X pins σ H s)(h:H p=some (.lst xs))
  (ho:s.heap.get? p=some { cls :=.type "list",data :=.seq its.toArray n }) (hf:f { cls :=.type "list",data :=.seq its.toArray n }={ cls :=.type "list",data :=.seq its'.toArray n' }) (r:Vals ys its') (hz:ys.length<=wa) (t:Nat) :
  Inv X pins σ (upd H p (.lst ys)) { s with heap:=s.heap.update p f,toks:=t }:=by
 have e:(s.heap.update p f).get? p=some { cls :=.type "list",data :=.seq its'.toArray n' }:=by
  rw[x6 f ho (by rw[hf] <;> rfl),hf]
 refine I.write (x:=p) (e:=p) (by rw[h];trivial) (.inl rfl) (λb u hb q=>(yX _ _ (yn hb)).trans q) ⟨_,e⟩ ?_
 exact ⟨hz,its',n',r,e⟩
def vB:V->V->V->Hp->(Hp->Prop)->Prop:=λo i v H Q=>∃p xs k j,o = .ref p/\i = .int k/\H p=some (.lst xs)/\ixN xs.length k=some j/\Q (upd H p (.lst (xs.set j v)))
theorem set_list:vk X vB:=by
 intro pins s σ H o i v ov iv u Q I ro ri rv h
 obtain ⟨p,xs,k,j,rfl,rfl,hp,hj,q⟩:=h
 cases ro
 obtain ⟨t,rfl⟩:=ri
 obtain ⟨its,n,r,ho,hz⟩:=I.lst hp
 obtain ⟨h1,h2,h3,h4⟩:=nz hj
 have hl:=r.length
 have hn:=gj
 have I':Inv X pins σ (upd H p (.lst (xs.set j v))) { s with heap:=s.heap.update p (Ay (·.setIfInBounds j u)) } :=
  I.uH hp ho (mB its n j u) (r.set rv j) (by rw[zt];exact hz) s.toks
 by_cases h0:0<=k
 ·have hk:k.toNat=j:=by
   rw[Bp h0 h4] at h1
   exact wJ h1
  exact PySem.W.ki_setAt ho h0 (by omega) (by rw[wg, <- hl];exact h4) (by rw[hk];exact ⟨_,I',q⟩)
 ·have hk:(k+(its.toArray.size:Int)).toNat=j:=by
   rw[Ba (by omega) h3] at h1
   rw[wg, <- hl]
   exact wJ h1
  exact PySem.W.ki_setBack ho (by omega) (by rw[wg, <- hl];exact h3) (by omega) (by rw[hk];exact ⟨_,I',q⟩)
theorem j4 (lo hi:Option Int)(n:Nat):(sliceBounds lo hi none n).1=((HT.sIx n 0 lo:Nat):Int)/\(sliceBounds lo hi none n).2.1=((HT.sIx n n hi:Nat):Int)/\(sliceBounds lo hi none n).2.2=1:=by
 refine ⟨?_,?_,rfl⟩
 ·cases lo with
  | none=>simp[sliceBounds,HT.sIx]
  | some i =>
   simp only[sliceBounds,HT.sIx,Bb,show (1:Int)>0 by decide,if_true]
   by_cases h:i<0
   ·simp only[h,if_true] <;> omega
   ·simp only[h,if_false] <;> omega
 ·cases hi with
  | none=>simp[sliceBounds,HT.sIx]
  | some i =>
   simp only[sliceBounds,HT.sIx,Bb,show (1:Int)>0 by decide,if_true]
   by_cases h:i<0
   ·simp only[h,if_true] <;> omega
   ·simp only[h,if_false] <;> omega
theorem i9 (its:List v8)(lo hi:Option Int):slicePick its.toArray lo hi none=((its.drop (HT.sIx its.length 0 lo)).take (HT.sIx its.length its.length hi-HT.sIx its.length 0 lo)).toArray:=by
 obtain ⟨h1,h2,h3⟩:=j4 lo hi its.toArray.size
 unfold slicePick
 rw[h1,h2,h3]
 simp only[sliceRange_one,pick_run,wg] <;> rfl
def rSlL (K:v5):V->Option Int->Option Int->Hp->VK->Prop:=λx lo hi H Q=>∃a xs,x = .ref a/\SqL K H a xs/\∀p,H p=none->Q (.ref p) (upd H p (.lst (cu xs lo hi)))
theorem bZ:SlR X (rSlL X.K):=by
 intro pins s σ H x v vl vu lo hi sl Q I rx hs pl pu h
 obtain ⟨a,xs,rfl,hx,q⟩:=h
 cases rx
 obtain ⟨its,r,ht,hz⟩:=I.list hx
 have hlen:=r.length
 refine ⟨"list",_,slot_list_getitem.lookup,ht.isList.typeIs,?_⟩
 refine wpAny_getItem_list_slice ht.isList hs pl pu .none (by simp) ?_ (by rw[wg] <;> omega)
 rw[i9, <- hlen]
 refine ⟨.ref s.heap.objs.size,_,I.laid (t':=s.toks) (o :=.lst (cu xs lo hi)) (λb ob q=>v7 _ q) (wm _) ?_,rfl,q _ (I.hok.fresh (wm _))⟩
 exact ⟨wy (kS xs lo hi) hz,_,0,(r.drop (HT.sIx xs.length 0 lo)).take (HT.sIx xs.length xs.length hi-HT.sIx xs.length 0 lo),wA _ rfl⟩
def fG:V->Bool
 | .non=>true
 | .bl _=>true
 | .int _=>true
 | .str _=>true
 | _=>false
def eqV:V->V->Bool
 | .non,.non=>true
 | .bl a,.bl b=>a == b
 | .bl a,.int b=>(if a then 1 else 0) == b
 | .int a,.bl b=>a == (if b then 1 else 0)
 | .int a,.int b=>a == b
 | .str a,.str b=>a == b
 | _,_=>false
theorem uI {A:xh}{s:v9}{y x:V}{u v:v8}(ry:RelV y u)(rx:RelV x v)(fy:fG y=true)(fx:fG x=true):zq A s u v (eqV y x):=by
 cases y with
 | non =>
  cases ry
  cases x with
  | non=>cases rx;exact zu _
  | bl b=>cases rx;exact SeqAt.EqAt.none_bool b
  | int b=>obtain ⟨t,rfl⟩:=rx;exact SeqAt.EqAt.none_int b t
  | str b=>obtain ⟨t,rfl⟩:=rx;exact SeqAt.EqAt.none_str b t
  | _=>exact absurd (show false=true from fx) wz
 | bl a =>
  cases ry
  cases x with
  | non=>cases rx;exact SeqAt.EqAt.bool_none a
  | bl b=>cases rx;exact SeqAt.EqAt.bool_bool a b
  | int b=>obtain ⟨t,rfl⟩:=rx;exact SeqAt.EqAt.bool_int a b t
  | str b=>obtain ⟨t,rfl⟩:=rx;exact SeqAt.EqAt.bool_str a b t
  | _=>exact absurd (show false=true from fx) wz
 | int a =>
  obtain ⟨t',rfl⟩:=ry
  cases x with
  | non=>cases rx;exact SeqAt.EqAt.int_none a t'
  | bl b=>cases rx;exact SeqAt.EqAt.int_bool a t' b
  | int b=>obtain ⟨t,rfl⟩:=rx;exact xZ a t' b t
  | str b=>obtain ⟨t,rfl⟩:=rx;exact AL a t' b t
  | _=>exact absurd (show false=true from fx) wz
 | str a =>
  obtain ⟨t',rfl⟩:=ry
  cases x with
  | non=>cases rx;exact SeqAt.EqAt.str_none a t'
  | bl b=>cases rx;exact SeqAt.EqAt.str_bool a t' b
  | int b=>obtain ⟨t,rfl⟩:=rx;exact AM a t' b t
  | str b=>obtain ⟨t,rfl⟩:=rx;exact SeqAt.EqAt.str_str a t' b t
  | _=>exact absurd (show false=true from fx) wz
 | _=>exact absurd (show false=true from fy) wz
def eqU (x:V)(u:v8):Bool:=match u with
 | .none=>eqV .non x
 | .bool b=>eqV (.bl b) x
 | .int i _=>eqV (.int i) x
 | .str z _=>eqV (.str z) x
 | _=>false
theorem qb {x y:V}{u:v8}(r:RelV y u)(f:fG y=true):eqU x u=eqV y x:=by
 cases y with
 | non=>cases r;rfl
 | bl b=>cases r;rfl
 | int i=>obtain ⟨t,rfl⟩:=r;rfl
 | str z=>obtain ⟨t,rfl⟩:=r;rfl
 | _=>exact absurd (show false=true from f) wz
theorem fH {x:V}:∀{xs:List V} {us:List v8},Vals xs us->xs.all fG=true->us.any (eqU x)=xs.any λy=>eqV y x
 | _,_,.nil,_=>rfl
 | y :: xs,u :: us,.cons r t,f=>by
  rw[BH,w6] at f
  rw[zV,zV,qb r f.1,fH t f.2]
theorem dY {A:xh}{s:v9}{x:V}{v:v8}(rx:RelV x v)(fx:fG x=true):∀{xs:List V} {us:List v8},Vals xs us->xs.all fG=true->∀u∈us,zq A s u v (eqU x u)
 | _,_,.nil,_=>λu hu=>by cases hu
 | y :: xs,u :: us,.cons r t,f=>λu' hu=>by
  rw[BH,w6] at f
  rcases wH.mp hu with rfl | hu
  ·rw[qb r f.1];exact uI r rx f.1 fx
  ·exact dY rx fx t f.2 u' hu
def inV (x:V)(xs:List V):Bool:=xs.any λy=>eqV y x
def rIn (K:v5)(neg:Bool):R2:=λx y H Q=>∃p xs,y = .ref p/\(SqL K H p xs\/SqT K H p xs)/\fG x=true/\xs.all fG=true/\Q (.bl (if neg then !inV x xs else inV x xs)) H
theorem oA:OpR X (xn .In) (rIn X.K false):=by
 intro pins s σ H x y v u Q I rx ry h
 obtain ⟨p,xs,rfl,hq,fx,fs,q⟩:=h
 cases ry
 rcases hq with hq | hq
 ·obtain ⟨its,r,pl,hz⟩:=I.list hq
  refine SeqAt.in_listAt (eqU x) pl.isList (λw hw=>dY rx fx r fs w (by simpa using hw)) ⟨.bl _,H,I,rfl,?_⟩
  rw[show its.toArray.any (eqU x)=its.any (eqU x) by simp,fH r fs]
  exact q
 ·obtain ⟨its,r,pl,hz⟩:=I.tuple hq
  refine SeqAt.in_tupleAt (eqU x) pl (λw hw=>dY rx fx r fs w (by simpa using hw)) ⟨.bl _,H,I,rfl,?_⟩
  rw[show its.toArray.any (eqU x)=its.any (eqU x) by simp,fH r fs]
  exact q
theorem j6:OpR X (xn .NotIn) (rIn X.K true):=by
 intro pins s σ H x y v u Q I rx ry h
 obtain ⟨p,xs,rfl,hq,fx,fs,q⟩:=h
 cases ry
 rcases hq with hq | hq
 ·obtain ⟨its,r,pl,hz⟩:=I.list hq
  refine SeqAt.notIn_listAt (eqU x) pl.isList (λw hw=>dY rx fx r fs w (by simpa using hw)) ⟨.bl _,H,I,rfl,?_⟩
  rw[show its.toArray.any (eqU x)=its.any (eqU x) by simp,fH r fs]
  exact q
 ·obtain ⟨its,r,pl,hz⟩:=I.tuple hq
  refine SeqAt.notIn_tupleAt (eqU x) pl (λw hw=>dY rx fx r fs w (by simpa using hw)) ⟨.bl _,H,I,rfl,?_⟩
  rw[show its.toArray.any (eqU x)=its.any (eqU x) by simp,fH r fs]
  exact q
theorem aw:cS X (.builtin "len") (λxs H Q=>∃p ys,xs=[.ref p]/\(SqL X.K H p ys\/SqT X.K H p ys)/\Q (.int ys.length) H):=by
 intro pins s σ H xs us Q I r h
 obtain ⟨p,ys,rfl,hq,q⟩:=h
 obtain ⟨u,rfl,rx⟩:=vals1 r
 cases rx
 have hn:=gj
 rcases hq with hq | hq
 ·obtain ⟨its,r',pl,hz⟩:=I.list hq
  have hlen:=r'.length
  exact Calls.call_len_list pl.isList (by simp only[wg] <;> omega) ⟨.int ys.length,H,I.tok _,⟨s.toks+1,by rw[wg,hlen]⟩,q⟩
 ·obtain ⟨its,r',pl,hz⟩:=I.tuple hq
  have hlen:=r'.length
  exact len_tuple pl (by simp only[wg] <;> omega) ⟨.int ys.length,H,I.tok _,⟨s.toks+1,by rw[wg,hlen]⟩,q⟩
theorem cC:cS X (.builtin "len") (λxs H Q=>∃z,xs=[.str z]/\z.length<=wa/\Q (.int z.length) H):=by
 intro pins s σ H xs us Q I r h
 obtain ⟨z,rfl,hz,q⟩:=h
 obtain ⟨u,rfl,t,rfl⟩:=vals1 r
 have hn:=gj
 exact len_str (by omega) ⟨.int z.length,H,I.tok _,⟨_,rfl⟩,q⟩
theorem j7:cS X (.type "list") (λxs H Q=>∃p ys,xs=[.ref p]/\(SqL X.K H p ys\/SqT X.K H p ys)/\∀l,H l=none->Q (.ref l) (upd H l (.lst ys))):=by
 intro pins s σ H xs us Q I r h
 obtain ⟨p,ys,rfl,hq,q⟩:=h
 obtain ⟨u,rfl,rx⟩:=vals1 r
 cases rx
 have fin:∀(its:List v8),Vals ys its->ys.length<=wa->∀(h':Heap) (c':Nat),(∀b o',s.heap.get? b=some o'->h'.get? b=some o') →
   h'.get? s.heap.objs.size=some { cls :=.type "list",dict:=none,data :=.seq its.toArray c',slots := #[] }->EP X pins σ Q (.ref s.heap.objs.size) { s with heap:=h' }:=λits r' hz h' c' kp e =>
  ⟨.ref s.heap.objs.size,_,I.laid (t':=s.toks) kp (wm _) (show bx X.prog X.w _ h' _ (.lst ys) from ⟨hz,its,c',r',e⟩),rfl,q _ (I.hok.fresh (wm _))⟩
 rcases hq with hq | hq
 ·obtain ⟨its,r',pl,hz⟩:=I.list hq
  have hlen:=r'.length
  obtain ⟨o,ho,hc,n,hd⟩:=pl.isList
  exact call_list_seq p (.inl rfl) ho hc hd (λh' c' kp e=>fin its r' hz h' c' kp e) (by simp only[wg] <;> omega)
 ·obtain ⟨its,r',pl,hz⟩:=I.tuple hq
  have hlen:=r'.length
  obtain ⟨o,ho,hc,n,hd⟩:=pl
  exact call_list_seq p (.inr rfl) ho hc hd (λh' c' kp e=>fin its r' hz h' c' kp e) (by simp only[wg] <;> omega)
theorem de:cS X (.type "tuple") (λxs H Q=>∃p ys,xs=[.ref p]/\((SqL X.K H p ys/\∀l,H l=none->Q (.ref l) (upd H l (.tup ys)))\/(SqT X.K H p ys/\Q (.ref p) H))):=by
 intro pins s σ H xs us Q I r h
 obtain ⟨p,ys,rfl,h⟩:=h
 obtain ⟨u,rfl,rx⟩:=vals1 r
 cases rx
 rcases h with ⟨hq,q⟩ | ⟨hq,q⟩
 ·obtain ⟨its,r',pl,hz⟩:=I.list hq
  have hlen:=r'.length
  refine call_tuple_list pl.isList (λh' kp =>?_) (by simp only[wg] <;> omega)
  have I1:Inv X pins σ H { s with heap:=h' }:=I.kept (t':=s.toks) kp
  have I2:Inv X pins σ (upd H h'.objs.size (.tup ys)) { s with heap:=h'.push { cls :=.type "tuple",data :=.seq its.toArray } } :=
   I1.laid (t':=s.toks) (λb o e=>v7 _ e) (wm _) (show bx X.prog X.w _ _ _ (.tup ys) from ⟨hz,its,r',dQ.new _ _⟩)
  exact ⟨.ref h'.objs.size,_,I2,rfl,q _ (I1.hok.fresh (wm _))⟩
 ·obtain ⟨its,r',pl,hz⟩:=I.tuple hq
  exact call_tuple_same pl ⟨.ref p,H,I,rfl,q⟩
def tyV (K:v5)(T:String)(x:V)(H:Hp):Prop:=match x with
 | .str _=>T = "str"
 | .int _=>T = "int"
 | .ref p=>(T = "list" /\ ∃xs,SqL K H p xs)\/(T = "tuple" /\ ∃o,K.lookup p=some o/\o.cls = .type "tuple" /\ o.dict=none) ∨
   (T = "dict" /\ ((∃kvs,H p=some (.dK kvs))\/∃kvs,H p=some (.dT kvs)))\/(T = "set" /\ ∃S n,H p=some (.set S n))
 | _=>False
theorem uJ {pins:List (Addr×Obj)}{σ:St}{H:Hp}{s:v9}{T:String}{x:V}{v:v8}(I:Inv X pins σ H s)(r:RelV x v)(ty:tyV X.K T x H) :
  s.TypeIs v T/\∀a,v = .ref a->∃ob,s.heap.get? a=some ob/\ob.dict=none:=by
 cases x with
 | str z =>
  obtain ⟨t,rfl⟩:=r
  cases (show T = "str" from ty)
  exact ⟨y8 s z t,λ_ e=>nomatch e⟩
 | int i =>
  obtain ⟨t,rfl⟩:=r
  cases (show T = "int" from ty)
  exact ⟨typeIs_int s i t,λ_ e=>nomatch e⟩
 | ref p =>
  cases r
  rcases ty with ⟨rfl,xs,hq⟩ | ⟨rfl,o,hk,hc,hd⟩ | ⟨rfl,hk⟩ | ⟨rfl,S,n,hk⟩
  ·obtain ⟨its,_,pl,_⟩:=I.list hq
   refine ⟨pl.isList.typeIs,λa e =>?_⟩
   cases e
   obtain ⟨o,n,e,c,hd,_⟩:=pl
   exact ⟨o,e,hd⟩
  ·refine ⟨⟨o,I.kIn p o hk,hc⟩,λa e =>?_⟩
   cases e
   exact ⟨o,I.kIn _ o hk,hd⟩
  ·have z:∃o,s.heap.get? p=some o/\o.ExactDict:=by
    rcases hk with ⟨kvs,hk⟩ | ⟨kvs,hk⟩
    ·obtain ⟨_,_,_,_,o,_,_,e,ex,_⟩:=I.hok p _ hk
     exact ⟨o,e,ex⟩
    ·obtain ⟨_,_,_,_,o,_,_,e,ex,_⟩:=I.hok p _ hk
     exact ⟨o,e,ex⟩
   obtain ⟨o,e,ex⟩:=z
   refine ⟨⟨o,e,ex.1⟩,λa e2 =>?_⟩
   cases e2
   exact ⟨o,e,ex.2.1⟩
  ·obtain ⟨o,_,_,_,e,ex,_⟩:=I.hok p _ hk
   refine ⟨⟨o,e,ex.1⟩,λa e2 =>?_⟩
   cases e2
   exact ⟨o,e,ex.2.1⟩
 | _=>exact False.elim ty
def tBM (K:v5)(T:String)(r:V->List V->Hp->VK->Prop)(to:TE)(t:TA):TE:=λσ H Q=>to σ H λx H1=>tyV K T x H1/\t σ H1 λxs H2=>r x xs H2 Q
variable  {o e:Expr}{es:List Expr}{to:TE}{t:TA}{name:Str}{apos cpos:Pos}{T id:String}{r:V->List V->Hp->VK->Prop}
theorem eU (pa:PlainAttrs T)(slot:Slot T name id)(hty:typeOf (.builtin id)=pure (.type "method_descriptor"))(hm:MtR X id r)(ho:PE X o to)(ha:PA X (e :: es) t)
  (hbase:attributeBase o name X.env (eval o X.env)=eval o X.env:=by rfl)
  (hfew:((yU cpos (wX (e :: es) X.env)).all (λx => !x.1) && (backToKw cpos (keywordEach [] X.env)).all (λx=>x.1.isSome)
   && decide ((e :: es).length+([]:List Keyword).length+(if ([]:List Keyword).isEmpty then 0 else 1)<30))=true:=by rfl)
  (hline:(apos.endLine == cpos.line)=true:=by rfl) (hs:wX (e :: es) X.env=(false,eval e X.env) :: wX es X.env:=by rfl) (hplain:(yU cpos (wX es X.env)).any (·.1)=false:=by rfl) :
  PE X (.Call (.Attribute o name apos) (e :: es) [] cpos) (tBM X.K T r to t):=by
 intro pins s σ H Q I h
 refine An hbase hfew hline rfl (thn (ho pins s σ H _ I h) λv s1 ⟨x,H1,I1,r1,ty,q1⟩ =>?_)
 obtain ⟨h1,h2⟩:=uJ I1 r1 ty
 refine ⟨T,id,pa,slot,hty,h1,h2,?_⟩
 have hA:=ha cpos pins s1 σ H1 _ I1 q1
 rw[hs] at hA ⊢
 refine yY (by show (false || (yU cpos (wX es X.env)).any (·.1))=false;rw[hplain] <;> rfl) (zf ?_)
 exact thn hA λus s2 ⟨vs,H2,I2,r2,q2⟩=>hm pins s2 σ H2 x vs v us Q I2 r1 r2 q2
end
open PySem PySem.Spec PyProof.Rows
def MtM (X:Cx)(id:String)(r:V->List V->Hp->VK->Prop):Prop :=
 ∀(pins:List (Addr×Obj)) (s:v9) (σ:St) (H:Hp) (x:V) (xs:List V) (v:v8) (us:List v8) (Q:VK),Inv X pins σ H s->RelV x v->Vals xs us->r x xs H Q →
  wL (wV X.prog X.w) X.A (call (.builtin id) (v :: us)) (EP X pins σ Q) X.xe s
theorem Vals.one:∀{x:V} {us:List v8},Vals [x] us->∃u,us=[u]/\RelV x u
 | _,_,.cons r .nil=>⟨_,rfl,r⟩
section
variable  {X:Cx}{pins:List (Addr×Obj)}{σ:St}{H:Hp}{s:v9}{l b:Addr}{xs ys zs:List V}
theorem Inv.vC {its its':List v8}{n:Nat}{f:Array v8->Array v8}{t':Nat}(I:Inv X pins σ H s)(hH:H l=some (.lst xs))
  (e:s.heap.get? l=some { cls :=.type "list",data :=.seq its.toArray n }) (hf:f its.toArray=its'.toArray) (hv:Vals ys its') (hz:ys.length<=wa) :
  Inv X pins σ (upd H l (.lst ys)) { s with heap:=s.heap.update l (Ay f),toks:=t' }:=by
 have q:=PySem.IsL.update e f
 rw[hf] at q
 refine I.write (x:=l) (e:=l) (by rw[hH];exact trivial) (.inl rfl) (λb' u hb hu=>(yX s.heap (Ay f) (yn hb)).trans hu) ⟨_,q⟩ ?_
 exact ⟨hz,its',_,hv,q⟩
theorem Inv.lnew {its:List v8}{t':Nat}(I:Inv X pins σ H s)(hv:Vals ys its)(hz:ys.length<=wa) :
  Inv X pins σ (upd H s.heap.objs.size (.lst ys)) { s with heap:=s.heap.push { cls :=.type "list",data :=.seq its.toArray },toks:=t' } :=
 I.laid (λ_ _ q=>v7 _ q) (wm _) ⟨hz,its,0,hv,wA _ rfl⟩
theorem Inv.fresh (I:Inv X pins σ H s):H s.heap.objs.size=none:=I.hok.fresh (wm _)
theorem Inv.uK (I:Inv X pins σ H s)(hH:H l=some (.lst xs)):xs.length<=wa/\∃(its:List v8) (n:Nat),Vals xs its/\xs.length=its.length/\s.heap.get? l=some { cls :=.type "list",data :=.seq its.toArray n }:=by
 obtain ⟨z,its,n,r,e⟩:=I.hok l _ hH
 exact ⟨z,its,n,r,r.length,e⟩
theorem qc {n:Nat}(h:n<=wa):Builtin.List.listTooLong n=false:=by
 unfold Builtin.List.listTooLong
 exact decide_eq_false (by omega)
end
section
variable  {X:Cx}
def rS:V->List V->Hp->VK->Prop:=λx vs H Q=>∃l xs y,x = .ref l/\vs=[y]/\H l=some (.lst xs)/\xs.length<wa/\Q .non (upd H l (.lst (xs++[y])))
theorem bT:MtM X "list.append" rS:=by
 intro pins s σ H x vs v us Q I rx rv h
 obtain ⟨l,xs,y,rfl,rfl,hH,hz,q⟩:=h
 cases rx
 obtain ⟨u,rfl,ru⟩:=rv.one
 obtain ⟨z,its,n,r,hl,e⟩:=I.uK hH
 refine zS F.slot_list_append ⟨_,e,rfl⟩ F.entry_list_append (F.args_list_append_2 _ _) (PySem.list_append l its.toArray n u (by rw[wg];omega)) ⟨e,?_⟩
 refine ⟨.non,_,I.vC (its':=its++[u]) hH e (by simp) (r.append (.cons ru .nil)) ?_,rfl,q⟩
 rw[wc,wj]
 omega
def rT:V->List V->Hp->VK->Prop:=λx vs H Q=>∃l b xs zs,x = .ref l/\vs=[.ref b]/\H l=some (.lst xs)/\H b=some (.lst zs)/\xs.length+zs.length<=wa/\Q .non (upd H l (.lst (xs++zs)))
theorem jw:MtM X "list.extend" rT:=by
 intro pins s σ H x vs v us Q I rx rv h
 obtain ⟨l,b,xs,zs,rfl,rfl,hH,hB,hz,q⟩:=h
 cases rx
 obtain ⟨u,rfl,ru⟩:=rv.one
 cases ru
 obtain ⟨z,its,n,r,hl,e⟩:=I.uK hH
 obtain ⟨z2,its2,n2,r2,hl2,e2⟩:=I.uK hB
 have hsz:its.toArray.size+its2.toArray.size<=wa:=by rw[wg,wg];omega
 have hlong:¬ (!its.toArray.isEmpty && Builtin.List.listTooLong (its.toArray.size+its2.toArray.size))=true:=by
  rw[qc hsz,AD]
  exact wz
 refine zS F.slot_list_extend ⟨_,e,rfl⟩ F.entry_list_extend (F.args_list_extend_2 _ _)
  (AutoSeq1.list_extend_list_list_0 l its.toArray n b its2.toArray n2 hlong (by rw[wg];omega) (by omega)) ⟨e,e2,?_⟩
 refine ⟨.non,_,I.vC (its':=its++its2) hH e (by simp) (r.append r2) ?_,rfl,q⟩
 rw[wc]
 omega
end
section
variable  {prog:wx}{w:wZ}{A:xh}{E:v8->v9->Prop}{s:v9}
end
section
variable  {X:Cx}
end
end L2
namespace Att
open PySem PySem.W PySem.Calls PyProof.Rows
theorem gM {P:Params}{h:Heap}:∀(ns:List Int) (vs:List v8),WellAll P h vs (ns.map WData.int)->yf vs ns:=by
 intro ns
 induction ns with
 | nil =>
  intro vs w
  rw[BL] at w
  cases w
  exact .nil
 | cons n ns ih =>
  intro vs w
  rw[xM] at w
  cases w with
  | cons a b =>
   cases a
   exact .cons _ _ (ih _ b)
theorem oB {l:OpenLaw}{n:Nat}(hn:l.most=some n){P:Params}{h:Heap}{args:List WData}{vals:List v8}
  (hpre:l.row.toRowW.claim.pre args=true) (hwl:WellAll P h vals args) :
  ∃a vs ns,vals=[wO a]/\args=[WData.list (ns.map WData.int)]/\h.get? a=some { cls :=.type "list",data :=.seq vs.toArray }/\yf vs ns/\ns.length<=n:=by
 have hsh:WShape.hasAll [] args [.list .int]=true:=(pre_splitW hpre).1
 have hc:l.pre.holds [] { args:=args }=true:=(pre_splitW hpre).2
 obtain ⟨d,r,rfl,h1,h2⟩:=hasAllW_cons hsh
 obtain rfl:=hasAllW_nil h2
 obtain ⟨xs,rfl,h3⟩:=hasW_list h1
 obtain ⟨ns,rfl⟩:=items_int h3
 have hlen:ns.length<=n:=by
  unfold OpenLaw.pre at hc
  have h4:(WTm.not (.lt (.lit (.int (n:Int))) (.len (.arg 0)))).holds [] { args:=[.list (ns.map .int)] }=true:=by
   have h4:=(holds_andW hc).1
   rw[hn] at h4
   exact h4
  have h5:=condW_of h4 (w_not (w_lt w_lit (w_len_list (w_arg rfl))))
  rw[vZ] at h5
  refine Nat.le_of_not_lt λq =>?_
  have q':(n:Int)<((ns.length:Nat):Int):=by omega
  first
   | (rw[decide_eq_true q'] at h5;exact absurd h5 (by decide))
   | (simp at h5;omega)
 cases hwl with
 | cons w1 w2 =>
  cases w2
  cases w1 with
  | list ho hall=>exact ⟨_,_,ns,rfl,rfl,ho,gM ns _ hall,hlen⟩
theorem oE (l:OpenLaw)(args:List WData):l.row.toRowW.claim.post args (.bool true) args=true :=
 postW_of (r:=l.row.toRowW) (X:=(true == true))
  (show WShape.has [] (.bool true) .bool=true by first | rfl | decide | simp[WShape.has,WShape.arms,WShape.armsAll])
  (show (WTm.eq .res (.lit (.bool true))).value [] { args:=args,res:=some (.bool true),after:=args }=some (.bool (true == true)) from w_eq_bool (w_res rfl) w_lit) rfl
theorem kT {l:OpenLaw}{n:Nat}{q:wx}{loose:List Str}{XP:(Str->Option v8)->Heap->Prop}{YP:wZ->Heap->Prop}{d:DefRec}
  (hn:l.most=some n) (hdf:d.params.defaults=[])
  (call:∀(w:wZ) (s₀ s₁:v9) (mg mb:Str->Option v8) (fa:Addr) (o:Obj) (pm cd doc:v8) (a:Addr) (vs:List v8) (ns:List Int),
   Ground q loose [] XP w s₀ mg mb s₁.heap->YP w s₁.heap →
   s₁.heap.get? fa=some o->o.data = .func (docDef d.name d.params d.body d.scope pm cd doc)->s₁.heap.CodeRec cd d.name->mg d.name=some (.ref fa) →
   s₁.heap.get? a=some { cls :=.type "list",data :=.seq vs.toArray }->yf vs ns->ns.length<=n->s₁.gens = #[] →
   A5 (wV l.prog w) callerA (.call (.ref fa) ⟨[.ref a],[]⟩) (λr s'=>r = .ok (.ret (.bool true))/\OldK s₁.heap s'.heap/\s'.os=s₁.os/\AllBare s'.gens) s₁) :
  WalkO q loose XP YP l.row.toRowW d [] (λf vs=>PySem.call f vs):=by
 intro w s₀ s₁ mg mb G Y fa o pm cd doc dV kV ho hd hcd hD hmg hg args vals as hpre hlay hrd hwl hlo
 obtain rfl:dV = .none:=Dflts.none hD hdf
 obtain rfl:kV = .none:=Dflts.noKw hD
 obtain ⟨a,vs,ns,rfl,rfl,hobj,hints,hlen⟩:=oB hn hpre hwl
 refine enter_call (zc (call w s₀ s₁ mg mb fa o pm cd doc a vs ns G Y ho (fd_plain hd) hcd hmg hobj hints hlen hg) λr s' hq =>?_)
 obtain ⟨rfl,h2,h3,h4⟩:=hq
 exact ⟨.inl ⟨.bool true,.bool true,[],rfl,λ_=>rfl,.bool true,oE l _,λ_=>⟨List.Pairwise.nil,λ_ hm=>(nomatch hm)⟩⟩,h2,h3,h4⟩
section
variable  {prog:wx}{w:wZ}{A:xh}{E:v8->v9->Prop}{s:v9}{K:Frag}
def ledger (h:Heap)(L d:Addr):List (Addr×Obj):=(yl h.objs.size).filterMap λa=>if a=L\/a=d then none else (h.get? a).map λo=>(a,o)
end
end Att
namespace L2
open PySem PySem.Spec PyProof.Rows
theorem jx:∀{vs:List v8} {ns:List Int},yf vs ns->Vals (ns.map V.int) vs
 | _,_,.nil =>.nil
 | _,_,.cons n t h =>.cons ⟨t,rfl⟩ (jx h)
def uL (H:Hp):Prop:=∀b,H b=none\/∃o xs,H b=some (.frz o (.lst xs))
theorem qd {P:wx}{w:wZ}{K:v5}{mg mb:Str->Option v8}{CX:CXT}{k:Nat}{fa a:Addr}{fd:wR}{x:Str}{sp:Sp}{s₁:v9}{vs:List v8}{ns:List Int}
  (KX:K.In s₁.heap) (hns:s₁.heap.Ns wM mg) (hb:s₁.heap.Ns builtinsNs mb) (hbb:∀x:Str,x ≠ "__name__" -> mb x=xu x) (hlim:s₁.heap.NoLimit) (hbm:∃bm ob,mg "__builtins__" = some (.ref bm)/\bm≠builtinsNs/\s₁.heap.get? bm=some ob/\ob.cls = .type "module" /\ ob.dict=some builtinsNs/\ob.data = .plain) (hg:s₁.gens = #[])
  (ha:s₁.heap.get? a=some { cls :=.type "list",data :=.seq vs.toArray }) (hi:yf vs ns) (hl:ns.length<=wa) (hr:bE k callerA)
  (F:∀base:Heap,K.In base->base.Ns wM mg->aW P w K mg base CX k fa fd [x] sp) (hbind:∀(s:v9) (u:v8),BindsTo s fd ⟨[u],[]⟩ [(x,u)])
  (hsp:∀H:Hp,uL H->SqL K H a (ns.map V.int)->sp [.ref a] H (λv _=>v = .bl true) λ_ _ _=>False)
  (hCX:∀H e s',CX [] H s₁ (λ_ _ _=>False) e s'->False) :
  A5 (wV P w) callerA (.call (.ref fa) ⟨[.ref a],[]⟩) (λr s'=>r = .ok (.ret (.bool true))/\OldK s₁.heap s'.heap/\s'.os=s₁.os/\AllBare s'.gens) s₁:=by
 have rv:=jx hi
 have lenV:=hi.length
 have core:∀H:Hp,uL H->SqL K H a (ns.map V.int)->HOk P w H s₁.heap->(∀b,H b≠none->b=a)->(H a≠none->K.lookup a=none) →
   A5 (wV P w) callerA (.call (.ref fa) ⟨[.ref a],[]⟩) (λr s'=>r = .ok (.ret (.bool true))/\OldK s₁.heap s'.heap/\s'.os=s₁.os/\AllBare s'.gens) s₁:=by
  intro H hO hS hok hA hK
  have base_of:∀{b:Addr} {o:Obj},s₁.heap.get? b=some o->H b=none->(jT s₁.heap H).get? b=some o:=λe n=>pS e n
  have noA:∀{b:Addr} {o:Obj} {es:Array DictEntry} {ep:Nat},s₁.heap.get? b=some o->o.data = .dict es ep->H b=none:=λ{b o es ep} e d=>by
   cases q:H b with
   | none=>rfl
   | some u =>
    have e':b=a:=hA b (by rw[q];simp)
    subst e'
    rw[ha] at e;cases e
    have d':Data.seq vs.toArray _=Data.dict es ep:=d
    cases d'
  have noP:∀{b:Addr} {o:Obj},s₁.heap.get? b=some o->o.data = .plain->H b=none:=λ{b o} e d=>by
   cases q:H b with
   | none=>rfl
   | some u =>
    have e':b=a:=hA b (by rw[q];simp)
    subst e'
    rw[ha] at e;cases e
    have d':Data.seq vs.toArray _=Data.plain:=d
    cases d'
  have nsK:∀{b:Addr} {m:Str->Option v8},s₁.heap.Ns b m->(jT s₁.heap H).Ns b m:=λ{b m} ⟨o,es,ep,e,d,r⟩=>⟨o,es,ep,base_of e (noA e d),d,r⟩
  have hKb:K.In (jT s₁.heap H):=λb o e=>base_of (KX b o e) (by
   cases q:H b with
   | none=>rfl
   | some u =>
    have e':b=a:=hA b (by rw[q];simp)
    subst e'
    rw[hK (by rw[q];simp)] at e;cases e)
  have hM:Mod K mg (jT s₁.heap H):=⟨hKb,nsK hns,⟨mb,nsK hb,hbb⟩,let ⟨mc,h1,h2⟩:=hlim;⟨mc,nsK h1,h2⟩,let ⟨bm,ob,b1,b2,b3,b4,b5,b6⟩:=hbm;⟨bm,ob,b1,b2,base_of b3 (noP b3 b6),b4,b5,b6⟩⟩
  have e0:mx P w K mg (jT s₁.heap H) callerA [] s₁ H:=⟨rfl,hM,λb o e=>rG e,Nat.le_of_eq (oq _ _),trivial,λb hb=>absurd (show b∈([]:List Addr) from hb) (by simp),hok,.of_eq hg⟩
  refine zc ((F _ hKb (nsK hns)).run callerA [] s₁ H ⟨[.ref a],[]⟩ [.ref a] [.ref a] _ _ hr e0 (hbind s₁ (.ref a)) (.cons rfl .nil) (hsp H hO hS)) λr s' h =>?_
  cases r with
  | error e=>exact (hCX H e s' h).elim
  | ok fl =>
   cases fl with
   | next=>exact False.elim h
   | brk=>exact False.elim h
   | cont=>exact False.elim h
   | ret u =>
    obtain ⟨v,H',os,bare,un,hok',r',q⟩:=h
    have q':v = .bl true:=q
    subst q'
    obtain rfl:u=Value.bool true:=r'
    refine ⟨rfl,OldK.of_keep λb o e =>?_,os,bare⟩
    cases q:H b with
    | none=>exact un.keep b o e q (by intro z;exact absurd (show b∈([]:List Addr) from z) (by simp)) (by simp)
    | some u =>
     rcases hO b with z | ⟨ob,xs,z⟩
     ·rw[q] at z;cases z
     ·have z2:=un.frzs b ob _ z
      obtain ⟨e1,_⟩:=hok b _ z
      obtain ⟨e2,_⟩:=hok' b _ z2
      rw[e] at e1;cases e1
      exact e2
 cases hk:K.lookup a with
 | some o =>
  have e:=KX a o hk
  rw[ha] at e
  cases e
  refine core (λ_=>none) (λ_ =>.inl rfl) (.inr ⟨_,vs.toArray,_,hk,rfl,rfl,rfl,by rw[wg,lenV];exact hl,by simpa using rv⟩) (λb u z=>by have z':(none:Option HO)=some u:=z;cases z') (λb z=>absurd rfl z) λz=>absurd rfl z
 | none =>
  refine core (λb=>if b=a then some (.frz { cls :=.type "list",data :=.seq vs.toArray } (.lst (ns.map V.int))) else none) (λb =>?_) (.inl (.inr ⟨{ cls :=.type "list",data :=.seq vs.toArray },if_pos rfl⟩)) (λb u z =>?_) (λb z =>?_) λ_=>hk
  ·by_cases hb:b=a
   ·exact .inr ⟨_,_,if_pos hb⟩
   ·exact .inl (if_neg hb)
  ·by_cases hb:b=a
   ·have z':=(if_pos hb).symm.trans z
    cases z'
    subst hb
    exact ⟨ha,by rw[vZ];exact hl,vs,_,rv,ha⟩
   ·have z':=(if_neg hb).symm.trans z
    cases z'
  ·by_cases hb:b=a
   ·exact hb
   ·exact absurd (if_neg hb) z
open PySem PySem.Spec PyProof.Rows
theorem rV {l:PySem.W.OpenLaw}{n k:Nat}{q:wx}{loose:List Str}{XP:(Str->Option v8)->Heap->Prop}{YP:wZ->Heap->Prop}{d:DefRec}{K:Params->v5}{CX:wZ->CXT}{sp:wZ->Sp}{x:Str}
  (hn:l.most=some n) (hn2:n<=wa) (hdf:d.params.defaults=[]) (hr:bE k callerA)
  (hY:∀(w:wZ) (h:Heap),YP w h->(K w.params).In h)
  (F:∀(w:wZ) (mg:Str->Option v8) (fa:Addr) (h:Heap),(K w.params).In h->h.Ns wM mg->mg d.name=some (.ref fa) →
   ∃fd:wR,(∀(s:v9) (u:v8),BindsTo s fd ⟨[u],[]⟩ [(x,u)]) ∧
    ∀base:Heap,(K w.params).In base->base.Ns wM mg->aW l.prog w (K w.params) mg base (CX w) k fa fd [x] (sp w))
  (hsp:∀(w:wZ) (H:Hp) (a:Addr) (ns:List Int),ns.length<=n->uL H->SqL (K w.params) H a (ns.map V.int)->sp w [.ref a] H (λv _=>v = .bl true) λ_ _ _=>False)
  (hCX:∀(w:wZ) (H:Hp) (s:v9) (e:v8) (s':v9),CX w [] H s (λ_ _ _=>False) e s'->False) :
  PySem.W.WalkO q loose XP YP l.row.toRowW d [] (λf vs=>PySem.call f vs):=by
 refine Att.kT hn hdf λw s₀ s₁ mg mb fa o pm cd doc a vs ns G Y ho hd hcd hmg hobj hints hlen hg =>?_
 have KX:=hY w _ Y
 obtain ⟨fd,hb,hF⟩:=F w mg fa _ KX G.T.g hmg
 exact qd KX G.T.g G.T.b G.T.builtins G.T.nolimit G.T.bmain hg hobj hints (wy hlen hn2) hr hF hb (λH hO hS=>hsp w H a ns hlen hO hS) λH e s'=>hCX w H s₁ e s'
open PySem PySem.Spec PyProof.Rows
def bR (s:Stmt):Arguments:=match s with
 | .FunctionDef _ a _ _ _ _ _ _ _ _=>a
 | _=>{ posonlyargs:=[],args:=[],vararg:=none,kwonlyargs:=[],kw_defaults:=[],kwarg:=none,defaults:=[] }
def bD (s:Stmt):List Stmt:=match s with
 | .FunctionDef _ _ b _ _ _ _ _ _ _=>b
 | _=>[]
def au (s:Stmt):Scope:=match s with
 | .FunctionDef _ _ _ _ _ _ sc _ _ _=>sc
 | _=>{ kind :=.function,names:=[],isGenerator:=false,isCoroutine:=false }
abbrev CX0:CXT:=λ_ _ _ _ _ _=>False
abbrev E0:XK:=λ_ _ _=>False
theorem t6 {X:Cx}:Passes CX0 X E0:=λ_ _ _ _ _ _ _ h=>h.elim
structure Fun (K:v5)(x qual:Str)(st:Stmt)(f:Addr)(fd:wR):Prop where
 ex:∃(oc:v8) (od:Option Addr) (kV doc pm:v8) (an:Option Addr) (cdv ct:v8) (osl:Array (Option v8)),
  fd=PySem.W.fnOf x qual (bR st) (bD st) (au st) .none kV doc pm an cdv ct/\K.lookup f=some ⟨oc,od,.func fd,osl⟩/\PySem.W.codeIn K cdv qual=true
 kp:PySem.W.keepIn K (.ref f)=true
section
variable  {P:wx}{w:wZ}{K:v5}{mg:Str->Option v8}{base:Heap}
theorem Fun.ok {x qual:Str}{st:Stmt}{f:Addr}{fd:wR}{N ps:List Str}{k:Nat}{sp:Sp}(F:Fun K x qual st f fd)(S:aJ N ps (au st))(len:∀vs H Q E,sp vs H Q E->vs.length=ps.length)
  (hbody:∀(cdv:v8) (A:xh) (outer:List Env) (s:v9) (H:Hp) (vs:List V) (Q:VK) (E:XK),bE k (A.deeper (envOfC qual (au st) s.heap.objs.size f cdv))->sp vs H Q E →
   ∃t,PSs (jX CX0 P w K mg base N qual (au st) f cdv A outer s H E).nox (bD st) t/\t { nx:=λ_ H'=>Q .non H',rt:=Q } (start N vs) H):aW P w K mg base CX0 (k+1) f fd ps sp:=by
 obtain ⟨oc,od,kV,doc,pm,an,cdv,ct,osl,rfl,lk,hcd⟩:=F.ex
 refine tZ lk hcd S len λA outer s H vs Q E hr hsp =>?_
 obtain ⟨t,h,q⟩:=hbody cdv A outer s H vs Q E hr hsp
 exact ⟨t,h.nox,q⟩
theorem Fun.binds {x qual:Str}{st:Stmt}{f:Addr}{fd:wR}{ps:List Str}(F:Fun K x qual st f fd)
  (h:∀(kV doc pm:v8) (an:Option Addr) (cdv ct:v8) (us:List v8),us.length=ps.length->bindArgs (PySem.W.fnOf x qual (bR st) (bD st) (au st) .none kV doc pm an cdv ct) ⟨us,[]⟩=pure (ps.zip us)):Binds K fd ps []:=by
 obtain ⟨oc,od,kV,doc,pm,an,cdv,ct,osl,rfl,lk,hcd⟩:=F.ex
 exact .all (h kV doc pm an cdv ct)
theorem j8 {x qual:Str}{st:Stmt}{f:Addr}{oc:v8}{od an:Option Addr}{osl:Array (Option v8)}{kV doc pm cdv ct:v8}(l:K.lookup f=some ⟨oc,od,.func (PySem.W.fnOf x qual (bR st) (bD st) (au st) .none kV doc pm an cdv ct),osl⟩)
  (c:PySem.W.codeIn K cdv qual=true) (k:PySem.W.keepIn K (.ref f)=true):Fun K x qual st f (PySem.W.fnOf x qual (bR st) (bD st) (au st) .none kV doc pm an cdv ct):=⟨⟨oc,od,kV,doc,pm,an,cdv,ct,osl,rfl,l,c⟩,k⟩
end
theorem oF {n:Nat}(h:n<=1000):n<wa:=xc h (by decide)
section
variable  {X:Cx}
theorem pv (i:Nat){x:Str}{pos:Pos}(hN:X.N[i]? = some x:=by rfl)(hv:Vis X.env.scope x:=by first | exact Or.inl rfl | exact Or.inr (Or.inl rfl) | exact Or.inr (Or.inr rfl))(hd:(x == ("__debug__" : Str))=false:=by decide)
  (hcd:(x == ("__classdict__" : Str))=false:=by decide):PE X (.Name x pos) (uv i):=uw hN hv hd hcd
end
theorem aK {A B:Prop}(h:B):if false=true then A else B:=by
 rw[if_neg wz]
 exact h
theorem aE {A B:Prop}(h:A):if true=true then A else B:=by
 rw[if_pos rfl]
 exact h
theorem eS {c A B:Prop}[Decidable c](h1:c->A)(h2:¬ c->B):if c then A else B:=by
 by_cases h:c
 ·rw[if_pos h]
  exact h1 h
 ·rw[if_neg h]
  exact h2 h
theorem gG {c A B:Prop}[Decidable c](hc:c)(h:B):if (!decide c)=true then A else B:=by
 rw[decide_eq_true hc]
 exact aK h
def aA (H H':Hp):Prop:=∀b o,H b=some o->H' b=some o
theorem aA.refl (H:Hp):aA H H:=λ_ _ h=>h
theorem aA.trans {H H1 H2:Hp}(a:aA H H1)(b:aA H1 H2):aA H H2:=λc o h=>b c o (a c o h)
theorem aA.free {H H':Hp}(e:aA H H'){l:Addr}(h:H' l=Option.none):H l=Option.none:=by
 cases q:H l with
 | none=>rfl
 | some o =>
  rw[e l o q] at h
  cases h
end L2
set_option maxHeartbeats 4000000
namespace L2
open PySem PySem.Spec PyProof.Rows
def kU (on:List (Str×NameKind))(N:List Str)(sc:Scope)(N':List Str)(ix:List (Option Nat)):Bool :=
 decide (sc.kind = .function) &&
 sc.names.all (λy=>match y.2 with
  | .local=>decide (sc.names.lookup y.1=some .local)
  | .cell=>false
  | .free=>decide (on.lookup y.1=some .cell) || decide (on.lookup y.1=some .free)
  | _=>true) &&
 decide (ix.length=N'.length) &&
 (ix.zip N').all (λp=>match p.1 with
  | none=>true
  | some j=>decide (N[j]? = some p.2) && decide (sc.names.lookup p.2=some .free))
theorem gH {ns:List (Str×NameKind)}{y:Str}{k:NameKind}(h:ns.lookup y=some k):(y,k)∈ns:=xV h
structure ic (on:List (Str×NameKind))(N:List Str)(sc:Scope)(N':List Str)(ix:List (Option Nat)):Prop where
 kind:sc.kind = .function
 locs:∀y∈sc.names,y.2 = .local->sc.names.lookup y.1=some .local
 nocell:∀y∈sc.names,y.2 ≠ .cell
 frees:∀y∈sc.names,y.2 = .free->on.lookup y.1=some .cell\/on.lookup y.1=some .free
 len:ix.length=N'.length
 slot:∀(i j:Nat) (y:Str),ix[i]? = some (some j)->N'[i]? = some y->N[j]? = some y/\sc.names.lookup y=some .free
theorem ic.of {on:List (Str×NameKind)}{N:List Str}{sc:Scope}{N':List Str}{ix:List (Option Nat)}(h:kU on N sc N' ix=true):ic on N sc N' ix:=by
 unfold kU at h
 rw[w6,w6,w6] at h
 obtain ⟨⟨⟨h1,h2⟩,h3⟩,h4⟩:=h
 rw[xv] at h2 h4
 refine ⟨of_decide_eq_true h1,λy hy e =>?_,λy hy e =>?_,λy hy e =>?_,of_decide_eq_true h3,λi j y e1 e2 =>?_⟩
 ·have q:=h2 y hy
  rw[e] at q
  exact of_decide_eq_true q
 ·have q:=h2 y hy
  rw[e] at q
  cases q
 ·have q:=h2 y hy
  rw[e] at q
  exact ((Ap _ _).mp q).imp of_decide_eq_true of_decide_eq_true
 ·have q:=h4 (some j,y) (xb (i:=i) (by rw[List.getElem?_zip_eq_some];exact ⟨e1,e2⟩))
  dsimp only at q
  rw[w6] at q
  exact ⟨of_decide_eq_true q.1,of_decide_eq_true q.2⟩
theorem gI {α β:Type}(f:α -> β -> β)(b:α -> β -> Sem (ForInStep β)):∀(l:List α) (c:β),(∀x∈l,∀d,b x d=pure (.yield (f x d)))->forIn l c b=pure (l.foldl (λd x=>f x d) c)
 | [],c,_=>rfl
 | x :: l,c,h=>by
  rw[Aq,h x wN,pure_bind]
  exact gI f b l (f x c) λy hy=>h y (wD _ hy)
def aT (env:Env)(l:List (Str×NameKind))(c:List (Str×Addr)):List (Str×Addr) :=
 l.foldl (λd y=>if y.2 = .free then (y.1,(env.cells.lookup y.1).getD 0) :: d else d) c
theorem mC {sc:Scope}{env:Env}(h:∀y∈sc.names,y.2 = .free->∃c,env.cells.lookup y.1=some c):closureFor sc env=pure (aT env sc.names []):=by
 simp only[closureFor]
 unfold aT
 rw[gI (λy d=>if y.2 = .free then (y.1,(env.cells.lookup y.1).getD 0) :: d else d)]
 ·rfl
 ·rintro ⟨n,k⟩ hy d
  by_cases hk:k = .free
  ·subst hk
   obtain ⟨c,e⟩:=h _ hy rfl
   have e':env.cells.lookup n=some c:=e
   simp only[beq_self_eq_true,if_true,cellOf,e',Option.getD_some]
   rfl
  ·have hb:(k == NameKind.free)=false:=by simpa using hk
   simp only[hb,Bool.false_eq_true,if_false,hk]
theorem cD {env:Env}{y:Str}{c:Addr}:∀(l:List (Str×NameKind)) (d:List (Str×Addr)),(∀z∈l,z.2 = .free->∃c,env.cells.lookup z.1=some c)->(aT env l d).lookup y=some c →
  d.lookup y=some c\/env.cells.lookup y=some c
 | [],d,_,h =>.inl h
 | (n,k) :: l,d,hf,h=>by
  have h':(aT env l (if k = .free then (n,(env.cells.lookup n).getD 0) :: d else d)).lookup y=some c:=h
  have ih:=cD l _ (λz hz=>hf z (wD _ hz)) h'
  by_cases hk:k = .free
  ·subst hk
   rw[if_pos rfl] at ih
   rcases ih with q | q
   ·rw[yH] at q
    cases hx:(y == n) with
    | true =>
     rw[hx] at q
     obtain ⟨c',e⟩:=hf (n,.free) wN rfl
     have e':env.cells.lookup n=some c':=e
     have q':some ((env.cells.lookup n).getD 0)=some c:=q
     rw[e'] at q'
     have en:y=n:=eq_of_beq hx
     rw[en,e']
     exact .inr q'
    | false =>
     rw[hx] at q
     exact .inl q
   ·exact .inr q
  ·rw[if_neg hk] at ih
   exact ih
theorem dw {env:Env}{y:Str}:∀(l:List (Str×NameKind)) (d:List (Str×Addr)),((y,NameKind.free)∈l\/∃c,d.lookup y=some c)->∃c,(aT env l d).lookup y=some c
 | [],d,h=>by
  rcases h with h | h
  ·cases h
  ·exact h
 | (n,k) :: l,d,h=>by
  show ∃c,(aT env l (if k = .free then (n,(env.cells.lookup n).getD 0) :: d else d)).lookup y=some c
  refine dw l _ ?_
  have old:(∃c,d.lookup y=some c)->∃c,(if k = .free then (n,(env.cells.lookup n).getD 0) :: d else d).lookup y=some c:=λ⟨c,e⟩=>by
   by_cases hk:k = .free
   ·rw[if_pos hk,yH]
    cases hx:(y == n) with
    | true=>exact ⟨_,rfl⟩
    | false=>exact ⟨c,e⟩
   ·rw[if_neg hk];exact ⟨c,e⟩
  rcases h with h | h
  ·rcases wH.mp h with q | q
   ·cases q
    rw[if_pos rfl,yH,beq_self_eq_true]
    exact .inr ⟨_,rfl⟩
   ·exact .inl q
  ·exact .inr (old h)
theorem ie {c:Str->NameKind->Bool}{y:Str}:∀l:List (Str×NameKind),(l.map λz=>if c z.1 z.2=true then (z.1,NameKind.cell) else (z.1,z.2)).lookup y=(l.lookup y).map λk=>if c y k=true then NameKind.cell else k
 | []=>rfl
 | (n,k) :: l=>by
  have ih:=ie (c:=c) (y:=y) l
  rw[xM]
  have e:(if c n k=true then (n,NameKind.cell) else (n,k))=(n,if c n k=true then NameKind.cell else k):=by split <;> rfl
  show List.lookup y ((if c n k=true then (n,NameKind.cell) else (n,k)) :: _)=_
  rw[e,yH,yH]
  cases hx:(y == n) with
  | true =>
   have en:y=n:=eq_of_beq hx
   subst en
   rfl
  | false=>exact ih
def blk (X:Cx)(sc:Scope)(cl:List (Str×Addr))(C:Addr)(N':List Str)(s:v9)(H:Hp)(fp:List Addr):Cx :=
 { X with N:=N',s₀:=s,H₀:=H,env:=compEnvC sc cl C X.env,outer:=X.stack,ex:=fp,fn:=λ_=>false,pn:=[],xe:=λ_ _=>False }
def PF (X:Cx)(ifs:List Expr)(t:TT):Prop :=
  ∀(pins:List (Addr×Obj)) (s:v9) (σ:St) (H:Hp) (Q:Bool->Hp->Prop),Inv X pins σ H s->t σ H Q →
    wL (wV X.prog X.w) X.A (forIn ifs true λc r=>if r=true then do let ok ← isTrue c X.env (eval c X.env);pure (ForInStep.yield ok) else pure (ForInStep.yield r)) (TP X pins σ Q) X.xe s
theorem gk {X:Cx}:PF X [] (λ_ H Q=>Q true H):=λ_ _ _ H _ I h=>wpAny_tests_nil ⟨H,I,h⟩
def inner (ix:List (Option Nat))(σ:St):St:=ix.map λo=>match o with | none=>none | some j=>(σ[j]?).join
def ig (J:It)(g:TG)(tc:TT)(te:TE)(τ:St)(Q:VK)(H1:Hp):Prop:=∃W:Nat->Nat->St->List V->Hp->Prop,(∃m,W 0 m τ [] H1)/\∀i m τ ys H,W i m τ ys H →
 (J.stop i H/\ys.length<=wa/\∀l,H l=none->Q (.ref l) (upd H l (.lst ys))) ∨
 (J.go i H/\∀x H',J.yld i H x H'->g x τ H' λτ2 H2=>tc τ2 H2 λb H3=>if b=true then te τ2 H3 λy H4=>ys.length<wa/\∃m',m'<m/\W (i+1) m' τ2 (ys++[y]) H4 else ∃m',m'<m/\W (i+1) m' τ2 ys H3)
def qe (ix:List (Option Nat))(wi:TI)(g:TG)(tc:TT)(te:TE):TE:=λσ H Q=>wi σ H λJ H1=>ig J g tc te (inner ix σ) Q H1
section
variable  {X:Cx}{sc:Scope}{N':List Str}{ix:List (Option Nat)}{pins:List (Addr×Obj)}{σ:St}{H:Hp}{s:v9}
theorem uM (I:Inv X pins σ H s)(K:ic X.env.scope.names X.N sc N' ix){C:Addr}{fp:List Addr}(hC:s.heap.objs.size<=C)(f:∀b∈fp,fD X pins H b)(fl:∀b∈fp,b<s.heap.objs.size) :
  (blk X sc (aT X.env sc.names []) C N' s H fp).Ok:=by
 have hcl:∀y∈sc.names,y.2 = .free->∃c,X.env.cells.lookup y.1=some c:=λy hy e=>I.ok.has y.1 (K.frees y hy e)
 have up:∀y c,(aT X.env sc.names []).lookup y=some c->X.env.cells.lookup y=some c:=λy c e=>by
  rcases cD sc.names [] hcl e with q | q
  ·cases q
  ·exact q
 have nfs:∀b∈fp,b∉frs X.stack:=λb hb z=>by
  rcases wH.mp (I.jU b z) with q | q
  ·exact (f b hb).2.1 q
  ·exact (f b hb).2.2.1 q
 refine ⟨I.ok.mod,K.kind,I.ok.glob,I.ok.blt,hC,λy z c h1 h2=>I.ok.inj y z c (up _ _ h1) (up _ _ h2),λy hy =>?_,(λy c h=>nomatch h),I.ok.hd,I.ok.frames,.inl rfl,λb hb =>?_,λb o e=>I.bs b o e,wy I.ok.bsz I.sz,λb o e hb =>?_,nfs,I.stack,I.jV⟩
 ·have hy':(relabel sc X.env).names.lookup y=some .cell\/(relabel sc X.env).names.lookup y=some .free:=hy
  have em:=ie (c:=λn k=>k == .free && X.env.scope.kind == .function && X.env.kindOf n == some .cell) (y:=y) sc.names
  have em':(relabel sc X.env).names.lookup y=_:=em
  rw[em'] at hy'
  cases hq:sc.names.lookup y with
  | none=>rw[hq] at hy';rcases hy' with q | q <;> cases q
  | some k =>
   have km:=gH hq
   have hk:k = .free:=by
    rw[hq] at hy'
    simp only[Ar,Option.some.injEq] at hy'
    by_cases hc:(k == .free && X.env.scope.kind == .function && X.env.kindOf y == some .cell)=true
    ·rw[w6,w6] at hc
     exact by simpa using hc.1.1
    ·rw[if_neg hc] at hy'
     rcases hy' with q | q
     ·exact absurd q (K.nocell _ km)
     ·exact q
   subst hk
   exact dw sc.names [] (.inl km)
 ·exact ⟨wU (wB (fl b hb) hC),λy c e=>(f b hb).2.2.2.2.1 y c (up y c e)⟩
 ·rcases (f b hb).2.2.2.1 with q | q
  ·exact I.ok.noex b o e q
  ·exact absurd (wB (wq e) (wy I.ok.bsz q)) (xp _)
theorem rW (I:Inv X pins σ H s)(K:ic X.env.scope.names X.N sc N' ix){C:Addr}{fp:List Addr}(hC:s.heap.objs.size<=C)(f:∀b∈fp,fD X pins H b)(fl:∀b∈fp,b<s.heap.objs.size)
  {h1:Heap} {t:Nat} {m:Str->Option v8} (k:∀b o,s.heap.get? b=some o->h1.get? b=some o) (ns:h1.Ns C m) :
  Inv (blk X sc (aT X.env sc.names []) C N' s H fp) [] (inner ix σ) H { s with heap:=h1,toks:=t }:=by
 have hcl:∀y∈sc.names,y.2 = .free->∃c,X.env.cells.lookup y.1=some c:=λy hy e=>I.ok.has y.1 (K.frees y hy e)
 have up:∀y c,(aT X.env sc.names []).lookup y=some c->X.env.cells.lookup y=some c:=λy c e=>by
  rcases cD sc.names [] hcl e with q | q
  ·cases q
  ·exact q
 refine ⟨uM I K hC f fl,rfl,I.bare,Un.kept k,⟨m,ns,λi y v e1 e2 e3 =>?_⟩,λy c e =>?_,I.hok.fresh hC,λy c e=>I.freeC y c (up y c e),(λp hp=>nomatch hp),I.hok.kept k,?_⟩
 ·have e2':(ix.map λo=>match o with | none=>none | some j=>(σ[j]?).join)[i]? = some (some v):=e2
  rw[w5] at e2'
  cases hi:ix[i]? with
  | none=>rw[hi] at e2';cases e2'
  | some o =>
   cases o with
   | none=>rw[hi] at e2';cases e2'
   | some j =>
    rw[hi] at e2'
    have e4:(σ[j]?).join=some v:=wJ e2'
    have e5:σ[j]? = some (some v):=by
     cases hj:σ[j]? with
     | none=>rw[hj] at e4;cases e4
     | some z=>rw[hj] at e4;rw[show z=some v from e4]
    obtain ⟨n1,n2⟩:=K.slot i j y hi e1
    have mem:=gH n2
    have kc:X.env.kindOf y=some .cell\/X.env.kindOf y=some .free:=K.frees _ mem rfl
    obtain ⟨m',_,hl⟩:=I.loc
    obtain ⟨u,r,l⟩:=hl j y v n1 e5 (.inr kc)
    refine ⟨u,r,?_⟩
    rcases l with ⟨q,_⟩ | ⟨_,c,q,z⟩
    ·rcases kc with kc | kc <;> (rw[kc] at q;cases q)
    ·obtain ⟨c',hc'⟩:=dw (env:=X.env) (y:=y) sc.names [] (.inl mem)
     have:=up y c' hc'
     rw[q] at this
     cases this
     refine .inr ⟨?_,c,hc',z.keeps k⟩
     have em:=ie (c:=λn k=>k == .free && X.env.scope.kind == .function && X.env.kindOf n == some .cell) (y:=y) sc.names
     have em':(relabel sc X.env).names.lookup y=_:=em
     rcases kc with kc | kc
     ·left
      show (relabel sc X.env).names.lookup y=some .cell
      rw[em',n2]
      simp only[Ar,kc,I.ok.kind]
      rfl
     ·right
      show (relabel sc X.env).names.lookup y=some .free
      rw[em',n2]
      simp only[Ar,kc,I.ok.kind]
      rfl
 ·obtain ⟨v,z⟩:=I.cell y c (up y c e)
  exact ⟨v,z.keeps k⟩
 ·show (ix.map _).length=N'.length
  rw[vZ]
  exact K.len
end
open PySem PySem.Spec PyProof.Rows
theorem mD {prog:wx}{w:wZ}{A:xh}{R:Result->v9->Prop}{s:v9}{elt target iter:Expr}{ifs:List Expr}{sc:Scope}{pos:Pos}{it acc:v8}{env:Env}(J:Nat->v9->Prop)
    (turn:∀n s,J n s->wL (wV prog w) A (pyNext it) (λr s1=>match r with
      | none=>R (.ok .next) s1
      | some v=>wL (wV prog w) A (letOwnedTupleGo target it v) (λ_ s2=>wL (wV prog w) A (assign target env v) (λ_ s3 =>
          wL (wV prog w) A (forIn ifs true λc r=>if r=true then do let ok ← isTrue c env (eval c env);pure (ForInStep.yield ok) else pure (ForInStep.yield r)) (λok s4 =>
            if ok=true then wL (wV prog w) A (eval elt env) (λx s5=>wL (wV prog w) A (call (.builtin "list.append") [acc,x]) (λ_ s6=>∃m,m<n/\J m s6) (λ_ _=>False) s5) (λ_ _=>False) s4
            else ∃m,m<n/\J m s4) (λ_ _=>False) s3) (λ_ _=>False) s2) (λ_ _=>False) s1) (λ_ _=>False) s)
    (n:Nat) (h:J n s):A5 (wV prog w) A (.compLoop (.ListComp elt [⟨target,iter,ifs,0⟩] sc pos) 0 it acc env) R s:=by
  refine codeAny_loop rfl J (λk t q =>?_) n h
  show wL _ A (Sem.onRaise (compTurn (.ListComp elt [⟨target,iter,ifs,0⟩] sc pos) 0 it acc env) (λx=>do noteFrame x env;theTreesLotGoes x)) _ _ t
  refine wpAny_noted ?_
  rw[compTurn_list]
  have no:∀{E:v8->v9->Prop} (x:v8) (t:v9),False->E x t:=λ_ _ z=>z.elim
  refine wb (zp (wb (xm (turn k t q) (λr s1 h1 =>?_) no)))
  cases r with
  | none=>exact wQ h1
  | some v =>
    refine wb (xm h1 (λ_ s2 h2=>wb (xm h2 (λ_ s3 h3=>wb (xm h3 (λok s4 h4 =>?_) no)) no)) no)
    cases ok with
    | false=>exact wQ ⟨rfl,h4⟩
    | true=>exact wb (wb (xm h4 (λx s5 h5=>wb (xm h5 (λ_ s6 h6=>wQ (wQ ⟨rfl,h6⟩)) no)) no))
section
variable  {X:Cx}
def rX (X:Cx)(pins:List (Addr×Obj))(σ:St)(Q:VK)(use:Option (v8->Sem Unit))(Q2:v8->v9->Prop):Prop :=
 ∀(s4:v9) (H3:Hp) (acc C:Addr) (ys:List V) (oC:Obj),Inv X (pins++[(C,oC)]) σ (upd H3 acc (.lst ys)) s4->(∃m,s4.heap.Ns C m)->X.s₀.heap.objs.size<=C->(∀x c,X.env.cells.lookup x=some c->c≠C)->(∀p∈X.pn++pins,p.1≠C)->Q (.ref acc) (upd H3 acc (.lst ys)) →
  compPost (wV X.prog X.w) X.A X.xe use Q2 (.ref acc) C (.ok .next) s4
theorem jy {elt target iter:Expr}{ifs:List Expr}{sc:Scope}{pos ps:Pos}{wi:TI}{g:TG}{tc:TT}{te:TE}{N':List Str}{ix:List (Option Nat)}{use:Option (v8->Sem Unit)}{Q2:v8->v9->Prop}
  {pins:List (Addr×Obj)} {s:v9} {σ:St} {H:Hp} {Q:VK}
  (hcalm:X.calm=true) (hi:PI X target iter wi) (hk:kU X.env.scope.names X.N sc N' ix=true)
  (hg:∀cl C s H fp,PG (blk X sc cl C N' s H fp) target g) (hc:∀cl C s H fp,PF (blk X sc cl C N' s H fp) ifs tc) (he:∀cl C s H fp,PE (blk X sc cl C N' s H fp) elt te)
  (hs:∀x,foldedSetIterable iter X.env x=pure x) (fin:rX X pins σ Q use Q2) (I:Inv X pins σ H s) (h:qe ix wi g tc te σ H Q) :
  wL (wV X.prog X.w) X.A (comprehension (.ListComp elt [⟨target,iter,ifs,0⟩] sc pos) sc X.env ps (newList []) false (eval iter X.env) use) Q2 X.xe s:=by
 have K:=ic.of hk
 have hcl:∀y∈sc.names,y.2 = .free->∃c,X.env.cells.lookup y.1=some c:=λy hy e=>I.ok.has y.1 (K.frees y hy e)
 refine wpAny_comprehension_free rfl hs (mC hcl) K.kind K.locs (thn (hi pins s σ H _ I h) λv s1 h1=>thn h1 λitv s2 h2 =>?_)
 obtain ⟨it,fp,tn,J,H2,e,I2,T,st2,f2,W,⟨m0,w0⟩,turn⟩:=h2
 subst e
 refine zT (wpAny_newFunctionEnv K.nocell (by intro y hy;simp at hy) (λh1 ns1 sb1 =>?_) K.kind)
 dsimp only at ns1 sb1 ⊢
 generalize hP:s2.heap.push { cls :=.type "list",dict:=none,data :=.seq ([]:List v8).toArray }=G at ns1 sb1 ⊢
 have sG:G.objs.size=s2.heap.objs.size+1:=by rw[<- hP,yc]
 have fl:∀b∈fp,b<s2.heap.objs.size:=λb hb=>by
  obtain ⟨o,e,_⟩:=T.obj _ _ st2 b hb
  exact wq e
 have hC:s2.heap.objs.size<=G.objs.size:=by rw[sG];exact zW _
 have aC:s2.heap.objs.size≠G.objs.size:=by rw[sG];exact wU (Bc _)
 have old:∀b o,s2.heap.get? b=some o->h1.get? b=some o:=λb o e=>by
  have lt:=wq e
  have ne:b≠G.objs.size:=wU (wB lt hC)
  rw[sb1.2 b ne]
  exact v7 _ (hP ▸ v7 _ e)
 have accO:h1.PlainList s2.heap.objs.size #[]:=⟨_,by
  rw[sb1.2 _ aC]
  exact v7 _ (hP ▸ wA _ rfl)⟩
 have IB:=rW (t:=s2.toks+([]:List (Str×v8)).length) I2 K hC f2 fl old ns1
 have up:∀y c,(aT X.env sc.names []).lookup y=some c->X.env.cells.lookup y=some c:=λy c e=>by
  rcases cD sc.names [] hcl e with q | q
  ·cases q
  ·exact q
 have accNotCell:∀y c,(aT X.env sc.names []).lookup y=some c->c≠s2.heap.objs.size:=λy c e z=>by
  obtain ⟨v,q⟩:=I2.cell y c (up y c e)
  exact absurd q.lt (by rw[z];exact xp _)
 have accFs:s2.heap.objs.size∉frs X.stack:=λz=>by
  rcases wH.mp (I2.jU _ z) with q | q
  ·exact absurd I2.lt (by rw[<- q];exact xp _)
  ·exact I2.uu (wm _) q
 have accFp:s2.heap.objs.size∉fp:=λz=>absurd (fl _ z) (xp _)
 have stat:∀{H':Hp} {ob:Obj},(∀b∈fp,H' b=none)->∀b∈fp,fD (blk X sc (aT X.env sc.names []) G.objs.size N' s2 H2 fp) [(s2.heap.objs.size,ob)] H' b:=λ{H' ob} hn b hb=>by
  refine ⟨hn b hb,wU (wB (fl b hb) hC),IB.ok.exfs b hb,.inl hb,λy c e=>(f2 b hb).2.2.2.2.1 y c (up y c e),λp hp z =>?_⟩
  have ep:p=(s2.heap.objs.size,ob):=by simpa [blk] using hp
  subst ep
  exact accFp (by rw[show s2.heap.objs.size=b from z];exact hb)
 have accPin:∀{pl:List (Addr×Obj)} {σ':St} {H':Hp} {s':v9} {its:Array v8} {n:Nat},Inv (blk X sc (aT X.env sc.names []) G.objs.size N' s2 H2 fp) pl σ' H' s'->s'.heap.get? s2.heap.objs.size=some { cls :=.type "list",data :=.seq its n } →
   H' s2.heap.objs.size=none->Inv (blk X sc (aT X.env sc.names []) G.objs.size N' s2 H2 fp) [(s2.heap.objs.size,{ cls :=.type "list",data :=.seq its n })] σ' H' s':=λ{pl σ' H' s' its n} J' e nn=>J'.fA λp hp=>by
  have ep:p=(s2.heap.objs.size,({ cls :=.type "list",data :=.seq its n }:Obj)):=by simpa [blk] using hp
  subst ep
  exact ⟨e,nn,aC,accFs,λv z=>nomatch z⟩
 have loop:A5 (wV X.prog X.w) X.A (.compLoop (.ListComp elt [⟨target,iter,ifs,0⟩] sc pos) 0 (.ref it) (.ref s2.heap.objs.size) (compEnvC sc (aT X.env sc.names []) G.objs.size X.env))
   (compPost (wV X.prog X.w) X.A X.xe use Q2 (.ref s2.heap.objs.size) G.objs.size) { s2 with heap:=h1,toks:=s2.toks+([]:List (Str×v8)).length }:=by
  refine mD (λn s'=>∃i ys its nn σ' H',Inv (blk X sc (aT X.env sc.names []) G.objs.size N' s2 H2 fp) [(s2.heap.objs.size,{ cls :=.type "list",data :=.seq its nn })] σ' H' s'/\Vals ys its.toList/\tn i s'.heap/\(∀b∈fp,H' b=none)/\W i n σ' ys H')
   (λn s3 h3 =>?_) m0 ?_
  ·obtain ⟨i,ys,its,nn,σ3,H3,I3,r3,st3,fr3,w3⟩:=h3
   obtain ⟨e3,a3,_,_,_⟩:=I3.pin (s2.heap.objs.size,{ cls :=.type "list",data :=.seq its nn }) (by simp[blk])
   rcases turn i n σ3 ys H3 w3 with ⟨stop,zl,q3⟩ | ⟨go,step⟩
   ·refine thn (T.done (blk X sc (aT X.env sc.names []) G.objs.size N' s2 H2 fp) rfl rfl rfl hcalm i _ s3 σ3 H3 _ I3 (stat fr3) st3 stop) λr s4 ⟨hr,I4⟩ =>?_
    subst hr
    obtain ⟨e4,a4,_,_,_⟩:=I4.pin (s2.heap.objs.size,{ cls :=.type "list",data :=.seq its nn }) (by simp[blk])
    obtain ⟨m4,n4,_⟩:=I4.loc
    obtain ⟨oC,es4,ep4,c4,d4,r4⟩:=id n4
    have ltA:∀b o,s2.heap.get? b=some o->b≠s2.heap.objs.size:=λb o e=>wU (wq e)
    have B:=I4.base
    have hok:HOk X.prog X.w (upd H3 s2.heap.objs.size (.lst ys)) s4.heap:=λb o e=>by
     by_cases hb:b=s2.heap.objs.size
     ·subst hb
      rw[ae] at e
      cases e
      exact ⟨zl,its.toList,nn,r3,e4⟩
     ·rw[ax hb] at e
      refine (I4.hok b o e).eR (λc u hc q=>q) (λc q =>?_) (λc xs q =>?_)
      ·rw[ax (av q a4)];exact q
      ·rw[ax (av q a4)];exact q
    have I5:Inv X pins σ (upd H3 s2.heap.objs.size (.lst ys)) s4:=by
     refine I2.tV (ch:=fp) I4.os ⟨λb o e n hb hx=>B.keep b o e n hb hx,λb o e n hb hx=>B.slot b o e n hb hx,λb o e n hx =>?_,λb o e hx=>B.there b o e hx,λb xs e =>?_,λb o u e =>?_,λb ps e =>?_⟩ hok I4.bare (λb hb =>?_)
     ·rw[ax (ltA b o e)];exact B.free b o e n hx
     ·have q:=B.tups b xs e
      rw[ax (av q a4)];exact q
     ·have q:=B.frzs b o u e
      rw[ax (av q a4)];exact q
     ·obtain ⟨more,q⟩:=B.tbls b ps e
      exact ⟨more,by rw[ax (av q a4)];exact q⟩
     ·obtain ⟨g0,g1,g2,g3,g4,g5⟩:=f2 b hb
      exact ⟨g3,g1,g4,g5⟩
    have cL:G.objs.size≠X.env.locals:=za (wB I2.lt hC)
    have I6:Inv X (pins++[(G.objs.size,oC)]) σ (upd H3 s2.heap.objs.size (.lst ys)) s4:=I5.fA λp hp=>by
     rcases wK.mp hp with q | q
     ·exact I5.pin p (wI _ q)
     ·have ep:p=(G.objs.size,oC):=by simpa using q
      subst ep
      exact ⟨c4,by rw[ax (yn aC)];exact I4.free,cL,I2.uu hC,λv z=>by rw[d4] at z;cases z⟩
    refine fin s4 H3 s2.heap.objs.size G.objs.size ys oC I6 ⟨m4,n4⟩ (wy I2.sz hC) (λy c e z =>?_) (λp hp z =>?_) (q3 _ a4)
    ·obtain ⟨v,q⟩:=I2.cell y c e
     exact absurd (wB q.lt hC) (by rw[z];exact xp _)
    ·exact absurd (wB (wq (I2.pin p hp).1) hC) (by rw[z];exact xp _)
   ·refine thn (T.item (blk X sc (aT X.env sc.names []) G.objs.size N' s2 H2 fp) rfl rfl rfl hcalm i _ s3 σ3 H3 _ I3 (stat fr3) st3 go) λr s4 ⟨u,hr,h4⟩ =>?_
    subst hr
    refine thn h4 λ_ s5 ⟨x,H5,I5,r5,y5,st5,fr5⟩ =>?_
    have I5':=I5.pinned (stat fr5) (T.obj _ _ st5)
    refine thn (hg _ _ _ _ _ _ s5 σ3 H5 x u _ I5' r5 (step x H5 y5)) λ_ s6 ⟨σ6,H6,I6,q6⟩ =>?_
    refine thn (hc _ _ _ _ _ _ s6 σ6 H6 _ I6 q6) λok s7 ⟨H7,I7,q7⟩ =>?_
    have back:∀{σ7:St} {H7:Hp} {s7:v9},Inv (blk X sc (aT X.env sc.names []) G.objs.size N' s2 H2 fp) ([(s2.heap.objs.size,{ cls :=.type "list",data :=.seq its nn })]++fb fp s5.heap) σ7 H7 s7->tn (i+1) s7.heap/\∀b∈fp,H7 b=none:=λJ7 =>
     ⟨T.keep _ _ _ st5 λb hb o e=>(J7.pin (b,o) (wI _ (wI _ (cI hb e)))).1,λb hb=>by
      obtain ⟨o,e,d⟩:=T.obj _ _ st5 b hb
      exact (J7.pin (b,o) (wI _ (wI _ (cI hb e)))).2.1⟩
    cases ok with
    | false =>
     rw[if_neg (by decide)] at q7
     obtain ⟨m',lm,w7⟩:=q7
     show ∃m,m<n/\_
     exact ⟨m',lm,i+1,ys,its,nn,σ6,H7,I7.di,r3,(back I7).1,(back I7).2,w7⟩
    | true =>
     rw[if_pos rfl] at q7
     refine thn (he _ _ _ _ _ _ s7 σ6 H7 _ I7 q7) λz s8 ⟨y,H8,I8,r8,lz,m',lm,w8⟩ =>?_
     obtain ⟨e8,a8,_,_,_⟩:=I8.pin (s2.heap.objs.size,{ cls :=.type "list",data :=.seq its nn }) (by simp[blk])
     have sz:its.size<=wa:=by
      have l:ys.length=its.size:=r3.length.trans xi
      rw[<- l]
      exact yJ lz
     refine wpAny_list_append_plain ⟨nn,e8⟩ (λh' pl' sb' =>?_) sz
     obtain ⟨n9,e9⟩:=pl'
     have I8p:Inv (blk X sc (aT X.env sc.names []) G.objs.size N' s2 H2 fp) (fb fp s5.heap) σ6 H8 s8:=I8.fA λp hp=>I8.pin p (wI _ (wI _ hp))
     have I9:=I8p.turned (it:=s2.heap.objs.size) (h':=h') (t':=s8.toks) (λb o ne e=>by rw[sb'.2 b ne];exact e) a8 aC (.inr (wm _)) (λy c e=>accNotCell y c e) (λp hp z=>by
      have hp':p∈fb fp s5.heap:=by simpa [blk] using hp
      exact accFp (by rw[<- z];exact (jr hp').1))
     have b9:tn (i+1) h'/\∀b∈fp,H8 b=none :=
      ⟨T.keep _ _ _ st5 λb hb o e=>(I9.pin (b,o) (wI _ (cI hb e))).1,(back I8).2⟩
     exact ⟨m',lm,i+1,ys++[y],its.push z,n9,σ6,H8,accPin I9 e9 a8,by rw[Array.toList_push];exact r3.append (.cons r8 .nil),b9.1,b9.2,w8⟩
  ·obtain ⟨n0,e0⟩:=accO
   exact ⟨0,[], #[],n0,_,H2,accPin IB e0 (I2.hok.fresh (wm _)),.nil,T.keep _ _ _ st2 λb hb o e=>old b o e,λb hb=>(f2 b hb).1,w0⟩
 exact codeAny_compStart_list loop (T.self _ 0 _ _ _ (T.keep _ _ _ st2 λb hb o e=>old b o e) loop)
theorem fJ {elt target iter:Expr}{ifs:List Expr}{sc:Scope}{pos:Pos}{wi:TI}{g:TG}{tc:TT}{te:TE}(N':List Str)(ix:List (Option Nat))
  (hcalm:X.calm=true) (hi:PI X target iter wi) (hk:kU X.env.scope.names X.N sc N' ix=true)
  (hg:∀cl C s H fp,PG (blk X sc cl C N' s H fp) target g) (hc:∀cl C s H fp,PF (blk X sc cl C N' s H fp) ifs tc) (he:∀cl C s H fp,PE (blk X sc cl C N' s H fp) elt te)
  (hs:∀x,foldedSetIterable iter X.env x=pure x:=by intro _;rfl):PE X (.ListComp elt [⟨target,iter,ifs,0⟩] sc pos) (qe ix wi g tc te):=by
 intro pins s σ H Q I h
 rw[eval_ListComp]
 refine jy hcalm hi hk hg hc he hs (λs4 H3 acc C ys oC I4 ns hC hc hp q =>?_) I h
 obtain ⟨m,ns⟩:=ns
 refine ⟨m,ns,λh' sb=>⟨.ref acc,_,?_,rfl,q⟩⟩
 obtain ⟨_,n0,n1,n2,_⟩:=I4.pin (C,oC) (by simp)
 exact (I4.di).turned (it:=C) (h':=h') (t':=s4.toks) (λb o ne e=>by rw[sb.2 b ne];exact e) n0 n1 (.inr hC) hc hp
theorem mE {elt target iter:Expr}{ifs:List Expr}{sc:Scope}{pos pos' spos:Pos}{wi:TI}{g:TG}{tc:TT}{te:TE}{i:Nat}{x:Str}(N':List Str)(ix:List (Option Nat))
    (hcalm:X.calm=true) (hN:X.N.Nodup) (hx:X.N[i]? = some x) (hl:X.env.scope.names.lookup x=some .local)
    (hi:PI X target iter wi) (hk:kU X.env.scope.names X.N sc N' ix=true)
    (hg:∀cl C s H fp,PG (blk X sc cl C N' s H fp) target g) (hc:∀cl C s H fp,PF (blk X sc cl C N' s H fp) ifs tc) (he:∀cl C s H fp,PE (blk X sc cl C N' s H fp) elt te)
    (hsw:swapsWith (.ListComp elt [⟨target,iter,ifs,0⟩] sc pos) (some (.Name x pos')) spos.line X.env=pure true:=by rfl)
    (hs:∀x,foldedSetIterable iter X.env x=pure x:=by intro _;rfl):PS X (.Assign [.Name x pos'] (.ListComp elt [⟨target,iter,ifs,0⟩] sc pos) spos) (uz (qe ix wi g tc te) (dS i)):=by
  intro pins s σ H D I h
  rw[exec_Assign_Name_used _ _ _ _ hsw]
  refine wb (zp (wb ?_))
  show wL _ X.A (do let _ ← comprehension (.ListComp elt [⟨target,iter,ifs,0⟩] sc pos) sc X.env _ (newList []) false (eval iter X.env) (some (assign (.Name x pos') X.env))) _ _ s
  refine wb (xm (jy (Q:=λv H1=>D.nx (σ.set i (some v)) H1) (Q2:=λ_ s'=>SP X pins D .next s') hcalm hi hk hg hc he hs (λs4 H3 acc C ys oC I4 ns hC hc hp q =>?_) I h) (λ_ s' q=>wQ (wQ q)) λ_ _ e=>e)
  obtain ⟨m,ns⟩:=ns
  obtain ⟨e0,n0,n1,n2,_⟩:=I4.pin (C,oC) (by simp)
  show wL _ X.A (assign (.Name x pos') X.env (.ref acc)) _ _ s4
  refine thn ((aV (i:=i) hN hx (.inl hl) (.inr hl)) (pins++[(C,oC)]) s4 σ _ (.ref acc) (.ref acc) _ I4 rfl q) λ_ s5 ⟨σ5,H5,I5,q5⟩ =>?_
  obtain ⟨e5,k0,k1,k2,_⟩:=I5.pin (C,oC) (by simp)
  obtain ⟨o',es',ep',c',r'⟩:=ns
  have e':=e0.symm.trans c'
  cases e'
  refine ⟨m,⟨_,es',ep',e5,r'⟩,λh' sb=>⟨σ5,H5,?_,q5⟩⟩
  exact (I5.di).turned (it:=C) (h':=h') (t':=s5.toks) (λb o ne e=>by rw[sb.2 b ne];exact e) k0 k1 (.inr hC) hc hp
end
open PySem PySem.Spec PyProof.Rows
section
variable  {X:Cx}
def vD (K:v5):R2:=λx y H Q=>∃l b xs zs,x = .ref l/\y = .ref b/\SqL K H l xs/\SqL K H b zs/\xs.length+zs.length<=wa/\∀p,H p=none->Q (.ref p) (upd H p (.lst (xs++zs)))
theorem cE:OpR X (binaryOp .Add) (vD X.K):=by
 intro pins s σ H x y v u Q I rx ry h
 obtain ⟨l,b,xs,zs,rfl,rfl,hH,hB,hz,q⟩:=h
 cases rx
 cases ry
 obtain ⟨its,r,e,z⟩:=I.list hH
 obtain ⟨its2,r2,e2,z2⟩:=I.list hB
 obtain ⟨⟨c1,d1,da1,sl1⟩,n,e,k1,k2,k3⟩:=e
 obtain ⟨⟨c2,d2,da2,sl2⟩,n2,e2,g1,g2,g3⟩:=e2
 simp only at k1 k3 g1 g3
 subst k1 k3 g1 g3
 have l1:=r.length
 have l2:=r2.length
 have ea:its.toArray++its2.toArray=(its++its2).toArray:=by simp
 refine Aw ⟨_,e,rfl⟩ ⟨_,e2,rfl⟩ noFill_list_add seq_list_add PySem.F.slot_list_add PySem.F.entry_list_add
  (PySem.F.args_list_add_2 _ _) (list_addW l b its.toArray its2.toArray n n2 d1 d2 sl1 sl2 (by rw[wg,wg];omega)) ⟨e,e2,?_⟩
 rw[ea]
 exact ⟨.ref _,_,I.lnew (t':=s.toks) (r.append r2) (by rw[wc];omega),rfl,q _ I.fresh⟩
theorem gJ:cS X (.builtin "isinstance") (λxs H Q=>∃x T t b,xs=[x,.ty T]/\fF X.K H x t/\PySem.W.kitOne X.K t (.type T)=some b/\Q (.bl b) H):=by
 intro pins s σ H xs us Q I r h
 obtain ⟨x,T,t,b,rfl,ty,e,q⟩:=h
 obtain ⟨u,w',rfl,ru,rw'⟩:=vals2 r
 cases (show w'=A6 T from rw')
 exact oy I ru ty e λtk=>⟨.bl b,H,I.tok tk,rfl,q⟩
end
def nA (k:Nat)(tc:TT)(te:TE)(τ:St)(Pv:Nat->List V->Hp->Prop)(i:Nat)(x:V)(ys:List V)(H:Hp):Prop :=
 ∀(R1:V->Hp->Prop) (R0:Hp->Prop),(∀y H4,Pv (i+1) (ys++[y]) H4->R1 y H4)->(∀H3,Pv (i+1) ys H3->R0 H3)->tc (τ.set k (some x)) H λb H3=>if b=true then te (τ.set k (some x)) H3 R1 else R0 H3
theorem ik {K:v5}{a:Addr}{xs:List V}{k:Nat}{tc:TT}{te:TE}{τ:St}{H:Hp}{Q:VK}(Pv:Nat->List V->Hp->Prop)(h0:Pv 0 [] H)(hz:xs.length<=wa)
  (hl:∀i ys H,i<=xs.length->Pv i ys H->SqL K H a xs) (hs:∀i x ys H,xs[i]? = some x->ys.length<=i->Pv i ys H->nA k tc te τ Pv i x ys H)
  (hd:∀ys H,ys.length<=xs.length->Pv xs.length ys H->∀l,H l=none->Q (.ref l) (upd H l (.lst ys))) :
  ig (Itl K a) (dS k) tc te τ Q H:=by
 refine ⟨λi m σ ys H=>m=xs.length-i/\i<=xs.length/\(∀x,σ.set k (some x)=τ.set k (some x))/\ys.length<=i/\Pv i ys H,⟨xs.length,by simp,xj _,λ_=>rfl,wm _,h0⟩,?_⟩
 rintro i m σ ys H ⟨rfl,hi,hτ,hy,p⟩
 have q:=hl i ys H hi p
 by_cases hlt:i<xs.length
 ·refine .inr ⟨⟨xs,xs[i],q,by simp[hlt]⟩,λx H' y =>?_⟩
  obtain ⟨e,y⟩:=y
  subst e
  show tc (σ.set k (some x)) _ _
  rw[hτ x]
  have hσ:∀z,(τ.set k (some x)).set k (some z)=τ.set k (some z):=λz=>by rw[zI]
  refine hs i x ys _ (y xs q) hy p _ _ (λy4 H4 p4=>⟨by omega,xs.length-(i+1),by omega,rfl,hlt,hσ,by rw[wc,wj];omega,p4⟩) λH3 p3=>⟨xs.length-(i+1),by omega,rfl,hlt,hσ,by omega,p3⟩
 ·have e:i=xs.length:=by omega
  subst e
  exact .inl ⟨⟨xs,q,wm _⟩,by omega,hd ys H hy p⟩
theorem jz {K:v5}{a:Addr}{xs:List V}{k:Nat}{tc:TT}{te:TE}{τ:St}{H:Hp}{Q:VK}(Pv:Nat->List V->Hp->Prop)(h0:Pv 0 [] H)(hz:xs.length<=wa)
  (hl:∀i ys H,i<=xs.length->Pv i ys H->SqT K H a xs) (hs:∀i x ys H,xs[i]? = some x->ys.length<=i->Pv i ys H->nA k tc te τ Pv i x ys H)
  (hd:∀ys H,ys.length<=xs.length->Pv xs.length ys H->∀l,H l=none->Q (.ref l) (upd H l (.lst ys))) :
  ig (Itt K a) (dS k) tc te τ Q H:=by
 refine ⟨λi m σ ys H=>m=xs.length-i/\i<=xs.length/\(∀x,σ.set k (some x)=τ.set k (some x))/\ys.length<=i/\Pv i ys H,⟨xs.length,by simp,xj _,λ_=>rfl,wm _,h0⟩,?_⟩
 rintro i m σ ys H ⟨rfl,hi,hτ,hy,p⟩
 have q:=hl i ys H hi p
 by_cases hlt:i<xs.length
 ·refine .inr ⟨⟨xs,xs[i],q,by simp[hlt]⟩,λx H' y =>?_⟩
  obtain ⟨e,y⟩:=y
  subst e
  show tc (σ.set k (some x)) _ _
  rw[hτ x]
  have hσ:∀z,(τ.set k (some x)).set k (some z)=τ.set k (some z):=λz=>by rw[zI]
  refine hs i x ys _ (y xs q) hy p _ _ (λy4 H4 p4=>⟨by omega,xs.length-(i+1),by omega,rfl,hlt,hσ,by rw[wc,wj];omega,p4⟩) λH3 p3=>⟨xs.length-(i+1),by omega,rfl,hlt,hσ,by omega,p3⟩
 ·have e:i=xs.length:=by omega
  subst e
  exact .inl ⟨⟨xs,q,wm _⟩,by omega,hd ys H hy p⟩
structure Cal (P:wx)(w:wZ)(K:v5)(mg:Str->Option v8)(base:Heap)(k:Nat)(x:Str)(ps:List Str)(sp:Sp):Prop where
 ex:∃f fd,aW P w K mg base CX0 k f fd ps sp/\mg x=some (.ref f)/\PySem.W.keepIn K (.ref f)=true/\Binds K fd ps []
theorem aG {X:Cx}{j k:Nat}{x:Str}{ps:List Str}{sp:Sp}{e:Expr}{es:List Expr}{t:TA}{p pos:Pos}(C:Cal X.prog X.w X.K X.mg X.base k x ps sp)(hr:bE j X.A)(hj:k<=j)(hg:Gl X x)(ha:PA X (e :: es) t)
  (hdb:(x == ("__debug__" : Str))=false:=by decide) (he:wX (e :: es) X.env=(false,eval e X.env) :: wX es X.env:=by rfl) (hpl:(yU pos (wX es X.env)).any (·.1)=false:=by rfl) :
  PE X (.Call (.Name x p) (e :: es) [] pos) (p5 sp [] E0 t):=by
 obtain ⟨f,fd,F,m,kp,b⟩:=C.ex
 exact ny F (hr.mono hj) hg m kp b .nil t6 ha hdb he hpl
theorem ah {H:Hp}{p:Addr}(h:H p=none)(o:HO):aA H (upd H p o):=λb u q=>by rw[ax (av q h)];exact q
theorem small {n:Nat}(h:n<=1000):n<=wa:=yJ (oF h)
open PySem PySem.Spec PyProof.Rows
section
variable  {X:Cx}
theorem kW {its:List v8}{bs:List Bool}(h:Vals (bs.map V.bl) its){prog:wx}{w:wZ}{A:xh}:TruthOf prog w A (λi v=>its.toArray[i]? = some v) (λi=>bs.getD i false):=by
 intro i v s Q E hv q
 have l:=h.length
 rw[vZ] at l
 have hi:i<its.length:=by
  rw[xf] at hv
  exact (wF.mp hv).1
 have e:(bs.map V.bl)[i]? = some (.bl (bs.getD i false)):=by
  rw[w5,wY,wt (by omega)]
  rfl
 obtain ⟨u,e1,e2⟩:=h.get e
 rw[xf,e1] at hv
 have ev:u=v:=wJ hv
 subst ev
 cases (show u=Value.bool _ from e2)
 exact xK q
theorem all_range (bs:List Bool):((yl bs.length).all λi=>bs.getD i false)=bs.all id:=by
 rw[yh,xv,xv]
 constructor
 ·intro h x hx
  obtain ⟨i,e⟩:=List.mem_iff_getElem?.mp hx
  have hi:i<bs.length:=(wF.mp e).1
  have q:=h i (y9.mpr hi)
  rw[wY,e] at q
  exact q
 ·intro h i hi
  have hi':=y9.mp hi
  rw[wY,wt hi']
  exact h _ (xX hi')
theorem kX (hc:X.calm=true):cS X (.builtin "all") (λxs H Q=>∃(p:Addr) (bs:List Bool),xs=[.ref p]/\SqL X.K H p (bs.map V.bl)/\Q (.bl (bs.all id)) H):=by
 intro pins s σ H xs us Q I r h
 obtain ⟨p,bs,rfl,hs,q⟩:=h
 obtain ⟨u,rfl,ru⟩:=vals1 r
 cases (show u=wO p from ru)
 obtain ⟨its,rv,pl,hz⟩:=I.list hs
 have l:=rv.length
 rw[vZ] at l
 have hpl:p<s.heap.objs.size:=by obtain ⟨o,_,e,_⟩:=pl;exact wq e
 refine call_all_walk (y7 pl.isList ?_)
 have hd:X.A.in1.handled=none:=I.ok.hd hc
 refine ⟨s.heap.objs.size,_,_,_,_,_,_,rfl,Walks.list hd s.heap.objs.size p (wU hpl) its.toArray,⟨⟨_,wA _ rfl,rfl,rfl⟩,?_⟩,kW rv,λh' tk k =>?_⟩
 ·exact pl.isList.at λo e=>v7 _ e
 ·have e:((yl its.toArray.size).all λi=>bs.getD i false)=bs.all id:=by rw[wg, <- l,all_range]
  rw[e]
  refine ⟨.bl (bs.all id),H,I.kept (t':=tk) (λb o eb=>k b o ?_ (v7 _ eb)),rfl,q⟩
  intro hb
  have:b=s.heap.objs.size:=by simpa using hb
  exact absurd (wq eb) (by rw[this];exact xp _)
def dy (K:v5)(H:Hp):Nat->V->V->Prop
 | 0,x,y=>(∃i,x = .int i/\y = .int i)\/∃a,x = .ref a/\y = .ref a
 | n+1,x,y=>(∃i,x = .int i/\y = .int i)\/(∃a,x = .ref a/\y = .ref a)\/∃a b xs ys,x = .ref a/\y = .ref b/\((SqT K H a xs/\SqT K H b ys)\/(SqL K H a xs/\SqL K H b ys))/\Paired (dy K H n) xs ys
theorem jA {α β:Type}{F:α -> β -> Prop}:∀{l:List α} {m:List β} {i:Nat} {x:α} {y:β},Paired F l m->l[i]? = some x->m[i]? = some y->F x y
 | _,_,0,_,_,.cons h _,e1,e2=>by simp at e1 e2;subst e1 e2;exact h
 | _,_,i+1,_,_,.cons _ t,e1,e2=>jA (i:=i) t (by simpa using e1) (by simpa using e2)
 | _,_,_,_,_,.nil,e1,_=>by simp at e1
theorem all_true (n:Nat):((yl n).all λ_=>true)=true:=by simp
theorem cb {K:v5}{H:Hp}{n:Nat}{s:v9}{A:xh}{xs ys:List V}{us vs:List v8}(p:Paired (dy K H n) xs ys)(r1:Vals xs us)(r2:Vals ys vs)
  (ih:∀x y u v,dy K H n x y->RelV x u->RelV y v->zq A s u v true):∀j (h1:j<us.toArray.size) (h2:j<vs.toArray.size),zq A s us.toArray[j] vs.toArray[j] true:=λj h1 h2=>by
 rw[wg] at h1 h2
 have l1:=r1.length
 have l2:=r2.length
 have e1:xs[j]? = some xs[j]:=wt (by omega)
 have e2:ys[j]? = some ys[j]:=wt (by omega)
 obtain ⟨u,g1,q1⟩:=r1.get e1
 obtain ⟨v,g2,q2⟩:=r2.get e2
 have f1:us.toArray[j]=u:=by simp[wF] at g1;obtain ⟨_,g⟩:=g1;simpa using g
 have f2:vs.toArray[j]=v:=by simp[wF] at g2;obtain ⟨_,g⟩:=g2;simpa using g
 rw[f1,f2]
 exact ih _ _ u v (jA p e1 e2) q1 q2
theorem eI {pins:List (Addr×Obj)}{σ:St}{H:Hp}{s:v9}(I:Inv X pins σ H s):∀(n:Nat) (A:xh) (x y:V) (u v:v8),A.units+n<cLine->dy X.K H n x y->RelV x u->RelV y v->zq A s u v true
 | 0,A,x,y,u,v,_,h,ru,rv=>by
  rcases h with ⟨i,rfl,rfl⟩ | ⟨a,rfl,rfl⟩
  ·obtain ⟨t,rfl⟩:=(show ∃t,u=zC i t from ru)
   obtain ⟨t',rfl⟩:=(show ∃t,v=zC i t from rv)
   have:=xZ (A:=A) (s:=s) i t i t'
   rw[beq_self_eq_true] at this
   exact this
  ·cases (show u=wO a from ru)
   cases (show v=wO a from rv)
   exact zu _
 | n+1,A,x,y,u,v,hA,h,ru,rv=>by
  rcases h with ⟨i,rfl,rfl⟩ | ⟨a,rfl,rfl⟩ | ⟨a,b,xs,ys,rfl,rfl,hs,p⟩
  ·obtain ⟨t,rfl⟩:=(show ∃t,u=zC i t from ru)
   obtain ⟨t',rfl⟩:=(show ∃t,v=zC i t from rv)
   have:=xZ (A:=A) (s:=s) i t i t'
   rw[beq_self_eq_true] at this
   exact this
  ·cases (show u=wO a from ru)
   cases (show v=wO a from rv)
   exact zu _
  ·cases (show u=wO a from ru)
   cases (show v=wO b from rv)
   by_cases hab:a=b
   ·subst hab;exact zu _
   refine SeqAt.EqAt.of_refs hab ?_
   have ih:∀x y u v,dy X.K H n x y->RelV x u->RelV y v->zq A.in1 s u v true:=λx y u v h1 h2 h3=>eI I n A.in1 x y u v (by show A.units+1+n<cLine;omega) h1 h2 h3
   have pl:=zk p
   rcases hs with ⟨h1,h2⟩ | ⟨h1,h2⟩
   ·obtain ⟨its,r1,p1,_⟩:=I.tuple h1
    obtain ⟨its2,r2,p2,_⟩:=I.tuple h2
    have q:=AZ (e:=λ_=>true) (show s.heap.IsTuple a its.toArray from p1) (show s.heap.IsTuple b its2.toArray from p2) (by omega) (cb p r1 r2 ih)
    have ez:its.toArray.size=its2.toArray.size:=by rw[wg,wg, <- r1.length, <- r2.length,pl]
    rw[all_true,ez,beq_self_eq_true] at q
    exact q
   ·obtain ⟨its,r1,p1,_⟩:=I.list h1
    obtain ⟨its2,r2,p2,_⟩:=I.list h2
    have q:=Bd (e:=λ_=>true) p1.isList p2.isList (by rw[wg,wg, <- r1.length, <- r2.length,pl]) (by omega) (cb p r1 r2 ih)
    rw[all_true] at q
    exact q
theorem uN {k:Nat}(hr:bE k X.A):OpR X (xn .NotEq) (λx y H Q=>∃a b xs ys,x = .ref a/\y = .ref b/\SqL X.K H a xs/\SqL X.K H b ys/\((xs.length≠ys.length/\Q (.bl true) H)\/(Paired (dy X.K H 20) xs ys/\Q (.bl false) H))):=by
 intro pins s σ H x y v u Q I rx ry h
 obtain ⟨a,b,xs,ys,rfl,rfl,h1,h2,h3⟩:=h
 cases (show v=wO a from rx)
 cases (show u=wO b from ry)
 obtain ⟨its,r1,⟨⟨c1,d1,da1,sl1⟩,n1,e1,k1,_,k3⟩,_⟩:=I.list h1
 obtain ⟨its2,r2,⟨⟨c2,d2,da2,sl2⟩,n2,e2,g1,_,g3⟩,_⟩:=I.list h2
 simp only at k1 k3 g1 g3
 subst k1 k3 g1 g3
 have l1:=r1.length
 have l2:=r2.length
 have hu:=hr.un
 have hu1:X.A.units<cLine:=by omega
 rcases h3 with ⟨ne,q⟩ | ⟨p,q⟩
 ·refine xC (op :=.NotEq) ⟨_,e1,rfl⟩ ⟨_,e2,rfl⟩ F.slot_list_ne Bl (Be _ _) (SeqAt.list_ne_lengthsAt a b its.toArray its2.toArray n1 n2 d1 d2 sl1 sl2 (by simp;omega)) ⟨e1,e2,?_⟩ hu1
  exact ⟨(λz=>nomatch z),⟨.bl true,H,I,rfl,q⟩⟩
 ·have pl:=zk p
  refine xC (op :=.NotEq) ⟨_,e1,rfl⟩ ⟨_,e2,rfl⟩ F.slot_list_ne Bl (Be _ _) (SeqAt.list_neAt a b its.toArray its2.toArray n1 n2 d1 d2 sl1 sl2 (by rw[wg,wg];omega) (λ_=>true)) ⟨e1,e2,?_,?_⟩ hu1
  ·exact cb p r1 r2 λx y u v h1 h2 h3=>eI I 20 _ x y u v (by show X.A.units+1+_<cLine;omega) h1 h2 h3
  ·rw[all_true]
   exact ⟨(λz=>nomatch z),⟨.bl false,H,I,rfl,q⟩⟩
end
open PySem PySem.Spec PyProof.Rows
def t7 (K:v5)(k l:Nat):TG:=vn K 2 (pU (dS k) (pU (dS l) vm))
def vE (k l:Nat)(tc:TT)(te:TE)(τ:St)(Pv:Nat->List V->Hp->Prop)(i:Nat)(a b:V)(ys:List V)(H:Hp):Prop :=
 ∀(R1:V->Hp->Prop) (R0:Hp->Prop),(∀y H4,Pv (i+1) (ys++[y]) H4->R1 y H4)->(∀H3,Pv (i+1) ys H3->R0 H3)->tc ((τ.set k (some a)).set l (some b)) H λc H3=>if c=true then te ((τ.set k (some a)).set l (some b)) H3 R1 else R0 H3
open PySem PySem.Spec PyProof.Rows
section
variable  {X:Cx}{K:v5}
end
open PySem PySem.Spec PyProof.Rows
theorem Inv.fe {X:Cx}{pins:List (Addr×Obj)}{σ:St}{H:Hp}{s:v9}{h':Heap}{t':Nat}{ch:List Addr}{T:Addr}{o:HO}(I:Inv X pins σ H s)(f:∀b∈ch,fD X pins H b)
  (k:∀b ob,b∉ch->s.heap.get? b=some ob->h'.get? b=some ob) (th:∀b∈ch,∃ob,h'.get? b=some ob) (hT:s.heap.objs.size<=T) (new:bx X.prog X.w (upd H T o) h' T o):Inv X pins σ (upd H T o) { s with heap:=h',toks:=t' }:=by
 have hn:H T=none:=I.hok.fresh hT
 have nT:∀b ob,s.heap.get? b=some ob->b≠T:=λb ob e=>wU (wB (wq e) hT)
 refine I.step (g':=s.gens) (d':=s.drawn) (ch:=ch) (λb hb =>?_) (λb ob _ _ hc e _=>k b ob hc e) (λb ob _ _ hc e _=>⟨ob.slots,k b ob hc e⟩) (λb ob _ e n=>by rw[ax (nT b ob e)];exact n)
  (λb ob hc e=>⟨ob,k b ob hc e⟩) (λb xs e=>by rw[ax (av e hn)];exact e) (λb ob u e=>by rw[ax (av e hn)];exact e) (λb ps e=>⟨#[],by rw[ax (av e hn),e];simp⟩) (λm hm =>?_) (λb u e =>?_) I.bare
 ·obtain ⟨g0,g1,g2,g3,g4,g5⟩:=f b hb
  exact ⟨g3,g1,g4,g5⟩
 ·obtain ⟨ob,es,ep,ho,r⟩:=hm
  exact ⟨ob,es,ep,k _ ob (λz=>(f _ z).2.1 rfl) ho,r⟩
 ·by_cases hb:b=T
  ·subst hb
   rw[ae] at e
   cases e
   exact new
  ·rw[ax hb] at e
   refine (I.hok b u e).eR (λc v hc q=>k c v ?_ q) (λc q=>by rw[ax (av q hn)];exact q) λc xs q=>by rw[ax (av q hn)];exact q
   intro z
   have n0:=(f c z).1
   rcases hc with hc | hc
   ·rw[hc,e] at n0;cases n0
   ·rw[hc] at n0;cases n0
def Ite (K:v5)(a:Addr):It :=
 ⟨λi H=>∃xs v,SqL K H a xs/\xs[i]? = some v,λi H x H'=>∃T v,H T=none/\x = .ref T/\H'=upd H T (.tup [.int i,v])/\∀xs,SqL K H a xs->xs[i]? = some v,λi H=>∃xs,SqL K H a xs/\xs.length<=i⟩
theorem oG {P:wx}{w:wZ}{K:v5}{elts:List Expr}{k:Nat}{pos:Pos}(a e it:Addr)(hne:e≠it):Turn P w K (.Tuple elts k pos) (Ite K a) [e,it] e (λi h=>(∃old,IsEnum h e it i old)/\h.IsListIter it a i) where
 mem:=by simp
 obj:=λi h ⟨⟨old,h1⟩,h2⟩ b hb=>by
  rcases wH.mp hb with q | q
  ·subst q
   exact ⟨_,h1,λv z=>nomatch z⟩
  ·have q':b=it:=by simpa using q
   subst q'
   obtain ⟨o,ho,_,hd⟩:=h2
   exact ⟨o,ho,λv z=>by rw[hd] at z;cases z⟩
 keep:=λi h h' ⟨⟨old,h1⟩,h2⟩ kp=>⟨⟨old,kp e (by simp) _ h1⟩,h2.at λo x=>kp it (by simp) o x⟩
 item:=λX eP eW eK hcalm i pins s σ H E I f ⟨⟨old,h1⟩,h2⟩ go=>by
  subst eP eW eK
  obtain ⟨xs,v,hs,hv⟩:=go
  obtain ⟨its,r,pl,hz⟩:=I.list hs
  obtain ⟨u,eu,ru⟩:=r.get hv
  refine wpAny_pyNext_enum_item h1 h2 pl.isList (x:=u) (by rw[xf];exact eu) hne λh' o1 o2 o3 o4 kp =>?_
  refine ⟨_,rfl,?_⟩
  refine zF o1 λh2' e2 sb =>?_
  have eT:e≠s.heap.objs.size:=wU (wq h1)
  have kp2:∀b ob,b∉[e,it]->s.heap.get? b=some ob->h2'.get? b=some ob:=λb ob hb eb=>by
   have n1:b≠e:=λz=>hb (by simp[z])
   have n2:b≠it:=λz=>hb (by simp[z])
   rw[sb.2 b n1]
   exact kp b ob n1 n2 eb
  have li:h2'.IsListIter it a (i+1):=o2.at λob eb=>by rw[sb.2 it (yn hne)];exact eb
  have tp:h2'.get? s.heap.objs.size=some { cls :=.type "tuple",data :=.seq #[.int i s.toks,u] }:=by rw[sb.2 _ (yn eT)];exact o3
  refine ⟨.ref s.heap.objs.size,upd H s.heap.objs.size (.tup [.int i,v]),I.fe (ch:=[e,it]) f kp2 (λb hb =>?_) (wm _) ?_,rfl,⟨s.heap.objs.size,v,I.hok.fresh (wm _),rfl,rfl,λys hy =>?_⟩,⟨⟨_,e2⟩,li⟩,λb hb =>?_⟩
  ·rcases wH.mp hb with q | q
   ·subst q;exact ⟨_,e2⟩
   ·have q':b=it:=by simpa using q
    subst q'
    obtain ⟨ob,ho,_⟩:=li
    exact ⟨ob,ho⟩
  ·refine ⟨(by show 2<=wa;decide),[.int i s.toks,u],.cons ⟨_,rfl⟩ (.cons ru .nil),_,tp,⟨rfl,rfl⟩,_,rfl⟩
  ·rw[I.hU hy hs];exact hv
  ·have ne:b≠s.heap.objs.size:=by
    rcases wH.mp hb with q | q
    ·rw[q];exact eT
    ·have q':b=it:=by simpa using q
     rw[q']
     obtain ⟨ob,ho,_⟩:=h2
     exact wU (wq ho)
   rw[ax ne]
   exact (f b hb).1
 done:=λX eP eW eK hcalm i pins s σ H E I f ⟨⟨old,h1⟩,h2⟩ stop=>by
  subst eP eW eK
  obtain ⟨xs,hs,hl⟩:=stop
  obtain ⟨its,r,pl,hz⟩:=I.list hs
  have l:=r.length
  refine wpAny_pyNext_enum_end (I.ok.hd hcalm) h1 h2 pl.isList (by rw[xf];exact yd.mpr (by omega)) λh' ex=>⟨rfl,?_⟩
  obtain ⟨g0,g1,g2,g3,g4,g5⟩:=f it (by simp)
  exact I.turned (it:=it) (h':=h') (t':=s.toks) (λb o ne eb=>ex b o ne eb) g0 g1 g3 g4 g5
 self:=λA i s Q E ⟨⟨old,h1⟩,_⟩ q=>by
  refine A4 ⟨_,h1,rfl⟩ yo (xY yo ⟨_,h1,rfl⟩ Ai ?_ (zX _))
  show wL _ _ (ret (.ref e)) _ _ s
  exact wQ ⟨_,rfl, "enumerate",_,⟨_,h1,rfl⟩,yp.lookup,q⟩
open PySem PySem.Spec PyProof.Rows
open PySem.AutoSeq1 (wpAny_loadPart')
section
variable  {prog:wx}{w:wZ}{A:xh}{E:v8->v9->Prop}{s:v9}
theorem il {it t:Addr}{i:Nat}{items:Array v8}{x:v8}{Q:v8->v9->Prop}(hi:s.heap.IsTupleIter it t i)(hl:s.heap.IsTuple t items)(hx:items[i]? = some x)
  (q:∀h',h'.IsTupleIter it t (i+1)->Heap.SameBut it s.heap h'->Q x { s with heap:=h' }):wL (wV prog w) A (Builtin.SmallTypes.nextOf (.ref it)) Q E s:=by
 obtain ⟨o,eo,oc,od⟩:=id hi
 obtain ⟨ol,el,_,nl,dl⟩:=hl
 unfold Builtin.SmallTypes.nextOf
 refine wb (xT (name:=Str.ofString "__next__") hi.typeIs xW (xY xW hi.typeIs zw ?_ (zm _)))
 show wL _ _ (field (.ref it) 0 >>= _) _ _ s;refine wb (xQ eo od (x :=.ref t) rfl ?_)
 show wL _ _ (if (wO t == yN)=true then _ else _) _ _ s;rw[if_neg (show ¬ ((wO t == yN)=true) from wz)]
 show wL _ _ (field (.ref it) 1 >>= _) _ _ s;refine wb (xQ eo od (x :=.int i 0) rfl ?_)
 show wL _ _ (seqItems? (.ref t) >>= _) _ _ s;refine wb (ye el dl ?_)
 simp only[yy,hx];refine wb (AG eo od (by simp) (wQ ⟨x,rfl,wQ (q _ ?_ (AH ..))⟩))
 exact ⟨_,x6 _ eo (Obj.isFreed_of_fields (zJ od _)),(Obj.cls_mapFields ..).trans oc,by rw[zJ od];simp[zU]⟩
theorem cJ {it t:Addr}{i:Nat}{items:Array v8}{Q:v8->v9->Prop}(hh:A.handled=none)(hi:s.heap.IsTupleIter it t i)(hl:s.heap.IsTuple t items)(hx:items[i]? = none)
  (q:∀h' e,Heap.ExtBut it s.heap h'->(∃o,h'.get? e=some o/\o.cls = .type "StopIteration")->E (.ref e) { s with heap:=h' }):wL (wV prog w) A (Builtin.SmallTypes.nextOf (.ref it)) Q E s:=by
 obtain ⟨o,eo,oc,od⟩:=id hi
 obtain ⟨ol,el,_,nl,dl⟩:=hl
 unfold Builtin.SmallTypes.nextOf
 refine wb (xT (name:=Str.ofString "__next__") hi.typeIs xW (xY xW hi.typeIs zw ?_ (zm _)))
 show wL _ _ (field (.ref it) 0 >>= _) _ _ s;refine wb (xQ eo od (x :=.ref t) rfl ?_)
 show wL _ _ (if (wO t == yN)=true then _ else _) _ _ s;rw[if_neg (show ¬ ((wO t == yN)=true) from wz)]
 show wL _ _ (field (.ref it) 1 >>= _) _ _ s;refine wb (xQ eo od (x :=.int i 0) rfl ?_)
 show wL _ _ (seqItems? (.ref t) >>= _) _ _ s;refine wb (ye el dl ?_)
 simp only[yy,hx];refine wb (BE (wb (AG eo od (by simp) ?_)))
 show wL _ _ (newExc (.type "StopIteration") [] >>= _) _ _ _;refine wb ?_
 simp only[newExc,newTuple];refine wb (zT ?_ (by size_fits))
 refine wb (m:=firstArgMember _ _) (wpAny_of_eq (a:=yN) (by first | rfl | (simp only[firstArgMember];rfl)) ?_);refine zT ?_ (by size_fits)
 simp only[raiseNew];refine wb (wpAny_handled ?_)
 first | (rw[show A.in1.handled=none from hh]) | (rw[hh])
 refine wb (wQ (wpAny_throw ?_));exact q _ _ (((AH ..).extBut.push _).push _) ⟨_,wA _ rfl,rfl⟩
theorem oH (hh:A.handled=none)(it l:Addr)(hne:l≠it)(items:Array v8) :
  Draws prog w A it [it,l] items.size (λi v=>items[i]? = some v) (λi h=>h.IsTupleIter it l i/\h.IsTuple l items) where
 live:=λ_ _ st=>by obtain ⟨o,ho,_⟩:=st.1;exact ⟨o,ho⟩
 frame:=λ_ _ _ st hk=>⟨st.1.at λo e=>hk it (by simp) o e,by obtain ⟨o,e,r⟩:=st.2;exact ⟨o,hk l (by simp) o e,r⟩⟩
 item:=λi s Q E hi st hQ=>by
  refine il st.1 st.2 (x:=items[i]) (by simp[hi]) λh' hit' hs' =>?_
  obtain ⟨o,e,r⟩:=st.2
  exact hQ _ h' s.toks (by simp[hi]) ⟨hit',o,by rw[hs'.2 l hne];exact e,r⟩ hs'
 done:=λs Q E st hE=>cJ hh st.1 st.2 (by simp) hE
theorem j9 (l:Addr)(items:Array v8)(n:Nat)(dct:Option Addr)(sl:Array (Option v8)) :
  Meets (Builtin.«enumerate.__new__» ⟨[.type "enumerate",.ref l],[]⟩) (λ_ R s=>s.heap.get? l=some { cls :=.type "tuple",dict:=dct,data :=.seq items n,slots:=sl } ∧
   R (.ok (.ret (.ref (s.heap.push { cls :=.type "tuple_iterator",data :=.fields #[.ref l,.int 0 0] }).objs.size)))
    { s with heap:=(s.heap.push { cls :=.type "tuple_iterator",data :=.fields #[.ref l,.int 0 0] }).push { cls :=.type "enumerate",data :=.fields #[.none,.bool false,.ref s.heap.objs.size,zU 0,.none,.none] } }) :=
 .of_wp λprog w A R s h=>by
  obtain ⟨hp,g,d,tk,os⟩:=s;obtain ⟨hl,h⟩:=h
  have hsub:=sub_enumerate
  have hT:Heap.IsTuple (Shared.heap ⟨hp,g,d,tk,os⟩) l items:=⟨_,hl,rfl,n,rfl⟩
  wp_walk using wpAny_loadPart' hl
  refine wpAny_stack_any λst=>wQ ?_
  split
  ·rename_i c _ _ _ _ _
   cases (c == A6 "enumerate") <;> (wp_walk using wpAny_loadPart' hl,ym hT;exact ⟨_,rfl,h⟩)
  ·wp_walk using wpAny_loadPart' hl,ym hT;exact ⟨_,rfl,h⟩
theorem ja {l:Addr}{items:Array v8}{Q:v8->v9->Prop}(hL:s.heap.IsTuple l items)
  (h:∀h',IsEnum h' (s.heap.objs.size+1) s.heap.objs.size 0 .none->h'.IsTupleIter s.heap.objs.size l 0->h'.objs.size=s.heap.objs.size+2->(∀b o,s.heap.get? b=some o->h'.get? b=some o)->Q (.ref (s.heap.objs.size+1)) { s with heap:=h' }) :
  wL (wV prog w) A (call (.type "enumerate") [.ref l]) Q E s:=by
 obtain ⟨⟨c,dct,dt,sl⟩,hl,hc,n,hd⟩:=hL
 replace hc:c = .type "tuple" := hc
 replace hd:dt = .seq items n:=hd
 subst hc hd
 refine callType_new F.called_enumerate (by decide) (F.typeCall_enumerate_1 _) (F.newCall_enumerate_1 _) (λobj=>F.args_object_init_2 obj _) F.entry_enumerate_new (j9 l items n dct sl) ⟨hl,?_⟩
 have hz:(s.heap.push { cls :=.type "tuple_iterator",data :=.fields #[.ref l,.int 0 0] }).objs.size=s.heap.objs.size+1:=yc ..
 show _/\_
 rw[hz]
 have he:IsEnum ((s.heap.push { cls :=.type "tuple_iterator",data :=.fields #[.ref l,.int 0 0] }).push { cls :=.type "enumerate",data :=.fields #[.none,.bool false,.ref s.heap.objs.size,zU 0,.none,.none] }) (s.heap.objs.size+1) s.heap.objs.size 0 .none:=by
  have:=wA (s.heap.push { cls :=.type "tuple_iterator",data :=.fields #[.ref l,.int 0 0] }) (o:={ cls :=.type "enumerate",data :=.fields #[.none,.bool false,.ref s.heap.objs.size,zU 0,.none,.none] }) rfl
  rw[hz] at this;exact this
 exact ⟨⟨_,he,rfl⟩,h _ he ⟨_,v7 _ (wA _ rfl),rfl,rfl⟩ (by rw[yc,hz]) λb o x=>v7 _ (v7 _ x)⟩
end
theorem dz {prog:wx}{w:wZ}{A:xh}{E:v8->v9->Prop}{s:v9}{e it t:Addr}{i:Nat}{items:Array v8}{old:v8}{Q:Option v8->v9->Prop}(hh:A.in1.handled=none)(he:IsEnum s.heap e it i old)(hi:s.heap.IsTupleIter it t i)
  (hl:s.heap.IsTuple t items) (hx:items[i]? = none) (q:∀h',Heap.ExtBut it s.heap h'->Q none { s with heap:=h' }):wL (wV prog w) A (pyNext (.ref e)) Q E s:=by
 have hT:s.TypeIs (.ref e) "enumerate" :=⟨_,he,rfl⟩
 unfold pyNext
 refine wb (AU (xT (name:=Str.ofString "__next__") hT yp (xY yp hT F.entry_enumerate_next ?_ (F.args_enumerate_next_1 _))))
 show wL _ _ (field (.ref e) 2 >>= _) _ _ _;refine wb (xQ he rfl (x :=.ref it) rfl ?_)
 refine wb (cJ hh hi hl hx λh' x he' hx' =>?_)
 obtain ⟨o,ho,hc⟩:=hx'
 refine wb (wpAny_isInstance (T := "StopIteration") (b:=true) ⟨o,ho,hc⟩ isSubtype_stop ?_);exact wQ (q _ he')
def ItE (K:v5)(a:Addr):It :=
 ⟨λi H=>∃xs v,SqT K H a xs/\xs[i]? = some v,λi H x H'=>∃T v,H T=none/\x = .ref T/\H'=upd H T (.tup [.int i,v])/\∀xs,SqT K H a xs->xs[i]? = some v,λi H=>∃xs,SqT K H a xs/\xs.length<=i⟩
theorem mF {P:wx}{w:wZ}{K:v5}{elts:List Expr}{k:Nat}{pos:Pos}(a e it:Addr)(hne:e≠it)(hai:a≠it)(hae:a≠e):Turn P w K (.Tuple elts k pos) (ItE K a) [e,it] e (λi h=>(∃old,IsEnum h e it i old)/\h.IsTupleIter it a i) where
 mem:=by simp
 obj:=λi h ⟨⟨old,h1⟩,h2⟩ b hb=>by
  rcases wH.mp hb with q | q
  ·subst q
   exact ⟨_,h1,λv z=>nomatch z⟩
  ·have q':b=it:=by simpa using q
   subst q'
   obtain ⟨o,ho,_,hd⟩:=h2
   exact ⟨o,ho,λv z=>by rw[hd] at z;cases z⟩
 keep:=λi h h' ⟨⟨old,h1⟩,h2⟩ kp=>⟨⟨old,kp e (by simp) _ h1⟩,h2.at λo x=>kp it (by simp) o x⟩
 item:=λX eP eW eK hcalm i pins s σ H E I f ⟨⟨old,h1⟩,h2⟩ go=>by
  subst eP eW eK
  obtain ⟨xs,v,hs,hv⟩:=go
  obtain ⟨its,r,pl,hz⟩:=I.tuple hs
  obtain ⟨u,eu,ru⟩:=r.get hv
  have hi:i<its.toArray.size:=by rw[wg];exact (wF.mp eu).1
  have hd:X.A.in1.handled=none:=I.ok.hd hcalm
  refine wpAny_pyNext_enum_itemD (oH hd it a hai its.toArray) h1 ⟨h2,(show s.heap.IsTuple a its.toArray from pl)⟩ hi hne (by simp[hne,yn hae]) λx h' tk px o1 o2 o3 o4 kp =>?_
  rw[xf,eu] at px
  have px':u=x:=wJ px
  subst px'
  refine ⟨_,rfl,?_⟩
  refine zF o1 λh2' e2 sb =>?_
  have eT:e≠s.heap.objs.size:=wU (wq h1)
  have kp2:∀b ob,b∉[e,it]->s.heap.get? b=some ob->h2'.get? b=some ob:=λb ob hb eb=>by
   have n1:b≠e:=λz=>hb (by simp[z])
   have n2:b≠it:=λz=>hb (by simp[z])
   rw[sb.2 b n1]
   exact kp b ob n1 n2 eb
  have li:h2'.IsTupleIter it a (i+1):=o2.1.at λob eb=>by rw[sb.2 it (yn hne)];exact eb
  have tp:h2'.get? s.heap.objs.size=some { cls :=.type "tuple",data :=.seq #[.int i tk,u] }:=by rw[sb.2 _ (yn eT)];exact o3
  refine ⟨.ref s.heap.objs.size,upd H s.heap.objs.size (.tup [.int i,v]),I.fe (ch:=[e,it]) f kp2 (λb hb =>?_) (wm _) ?_,rfl,⟨s.heap.objs.size,v,I.hok.fresh (wm _),rfl,rfl,λys hy =>?_⟩,⟨⟨_,e2⟩,li⟩,λb hb =>?_⟩
  ·rcases wH.mp hb with q | q
   ·subst q;exact ⟨_,e2⟩
   ·have q':b=it:=by simpa using q
    subst q'
    obtain ⟨ob,ho,_⟩:=li
    exact ⟨ob,ho⟩
  ·refine ⟨(by show 2<=wa;decide),[.int i tk,u],.cons ⟨_,rfl⟩ (.cons ru .nil),_,tp,⟨rfl,rfl⟩,_,rfl⟩
  ·rw[I.gg hy hs];exact hv
  ·have ne:b≠s.heap.objs.size:=by
    rcases wH.mp hb with q | q
    ·rw[q];exact eT
    ·have q':b=it:=by simpa using q
     rw[q']
     obtain ⟨ob,ho,_⟩:=h2
     exact wU (wq ho)
   rw[ax ne]
   exact (f b hb).1
 done:=λX eP eW eK hcalm i pins s σ H E I f ⟨⟨old,h1⟩,h2⟩ stop=>by
  subst eP eW eK
  obtain ⟨xs,hs,hl⟩:=stop
  obtain ⟨its,r,pl,hz⟩:=I.tuple hs
  have l:=r.length
  have hd:X.A.in1.handled=none:=I.ok.hd hcalm
  refine dz (A:=X.A) hd h1 h2 (show s.heap.IsTuple a its.toArray from pl) (by rw[xf];exact yd.mpr (by omega)) λh' ex=>⟨rfl,?_⟩
  obtain ⟨g0,g1,g2,g3,g4,g5⟩:=f it (by simp)
  exact I.turned (it:=it) (h':=h') (t':=s.toks) (λb o ne eb=>ex b o ne eb) g0 g1 g3 g4 g5
 self:=λA i s Q E ⟨⟨old,h1⟩,_⟩ q=>by
  refine A4 ⟨_,h1,rfl⟩ yo (xY yo ⟨_,h1,rfl⟩ Ai ?_ (zX _))
  show wL _ _ (ret (.ref e)) _ _ s
  exact wQ ⟨_,rfl, "enumerate",_,⟨_,h1,rfl⟩,yp.lookup,q⟩
open PySem PySem.Spec PyProof.Rows
def vF (K:v5)(ta:TA):TI:=λσ H R=>ta σ H λvs H1=>∃a,vs=[.ref a]/\(((∃xs,SqL K H1 a xs)/\R (Ite K a) H1)\/((∃xs,SqT K H1 a xs)/\R (ItE K a) H1))
section
variable  {X:Cx}
theorem rY {a:Expr}{ta:TA}{p pos pos':Pos}{elts:List Expr}{k:Nat}(hg:Gl X "enumerate")(hm:X.mg "enumerate" = none)(ha:PA X [a] ta)(hs:wX [a] X.env=[(false,eval a X.env)]:=by rfl) :
  PI X (.Tuple elts k pos') (.Call (.Name "enumerate" p) [a] [] pos) (vF X.K ta):=by
 intro pins s σ H R I h
 refine Call_ (eZ I hg hm boot_enumerate (xG (thn (ha pos pins s σ H _ I h) λus s1 ⟨vs,H1,I1,r1,q1⟩ =>?_) hs rfl))
 obtain ⟨l,e,q1⟩:=q1
 subst e
 obtain ⟨u,rfl,ru⟩:=vals1 r1
 cases (show u=wO l from ru)
 have fp:∀b∈[s1.heap.objs.size+1,s1.heap.objs.size],fD X pins H1 b:=λb hb=>by
  have ge:s1.heap.objs.size<=b:=by
   rcases wH.mp hb with q | q
   ·rw[q];exact zW _
   ·have q':b=s1.heap.objs.size:=by simpa using q
    rw[q'];exact wm _
  exact I1.mq ge (I1.hok.fresh ge)
 have ne:s1.heap.objs.size+1≠s1.heap.objs.size:=za (Bc _)
 rcases q1 with ⟨⟨xs,hq⟩,q⟩ | ⟨⟨xs,hq⟩,q⟩
 ·obtain ⟨its,rv,pl,hz⟩:=I1.list hq
  refine call_enumerate_list pl.isList λh' he li _ kp =>?_
  have T:=oG (P:=X.prog) (w:=X.w) (K:=X.K) (elts:=elts) (k:=k) (pos:=pos') l _ _ ne
  refine T.self _ 0 _ _ _ ⟨⟨_,he⟩,li⟩ ?_
  exact ⟨_,_,_,_,H1,rfl,I1.kept (t':=s1.toks) kp,T,⟨⟨_,he⟩,li⟩,fp,q⟩
 ·obtain ⟨its,rv,pl,hz⟩:=I1.tuple hq
  have lt:l<s1.heap.objs.size:=by obtain ⟨o,e,_⟩:=pl;exact wq e
  refine ja (show s1.heap.IsTuple l its.toArray from pl) λh' he li _ kp =>?_
  have T:=mF (P:=X.prog) (w:=X.w) (K:=X.K) (elts:=elts) (k:=k) (pos:=pos') l _ _ ne (wU lt) (wU (Nat.lt_succ_of_lt lt))
  refine T.self _ 0 _ _ _ ⟨⟨_,he⟩,li⟩ ?_
  exact ⟨_,_,_,_,H1,rfl,I1.kept (t':=s1.toks) kp,T,⟨⟨_,he⟩,li⟩,fp,q⟩
end
def ForW (J:It)(g:TG)(tb:TS)(D:Ends)(σ:St)(H:Hp):Prop:=∃W:Nat->Nat->St->Hp->Prop,(∃m,W 0 m σ H)/\∀i m σ H,W i m σ H →
 (J.stop i H/\D.nx σ H)\/(J.go i H/\∃N:St->Hp->Prop,(∀σ' H',N σ' H'->∃m',m'<m/\W (i+1) m' σ' H')/\∀x H',J.yld i H x H'->g x σ H' λσ2 H2=>tb { D with nx:=N,ct:=N,bk:=D.nx } σ2 H2)
theorem oI {K:v5}{a:Addr}{xs:List V}{g:TG}{tb:TS}{D:Ends}{σ:St}{H:Hp}(Pv:Nat->St->Hp->Prop)(h0:Pv 0 σ H)(hl:∀i σ H,i<=xs.length->Pv i σ H->SqL K H a xs)
  (hs:∀i x σ H T,xs[i]? = some x->H T=none->Pv i σ H->g (.ref T) σ (upd H T (.tup [.int i,x])) λσ2 H2=>tb { D with nx:=Pv (i+1),ct:=Pv (i+1),bk:=D.nx } σ2 H2) (hd:∀σ H,Pv xs.length σ H->D.nx σ H):ForW (Ite K a) g tb D σ H:=by
 refine ⟨λi m σ H=>m=xs.length-i/\i<=xs.length/\Pv i σ H,⟨xs.length,by simp,xj _,h0⟩,?_⟩
 rintro i m σ H ⟨rfl,hi,p⟩
 have q:=hl i σ H hi p
 by_cases hlt:i<xs.length
 ·refine .inr ⟨⟨xs,xs[i],q,by simp[hlt]⟩,Pv (i+1),λσ' H' p'=>⟨xs.length-(i+1),by omega,rfl,hlt,p'⟩,λx H' y =>?_⟩
  obtain ⟨T,v,hT,ex,eH,hv⟩:=y
  subst ex eH
  exact hs i v σ H T (hv xs q) hT p
 ·have e:i=xs.length:=by omega
  subst e
  exact .inl ⟨⟨xs,q,wm _⟩,hd σ H p⟩
open PySem PySem.Spec PyProof.Rows
section
variable  {X:Cx}{tg:Expr}
def iSeq (K:v5)(tl:TE):TI:=λσ H R=>tl σ H λx H1=>∃a,x = .ref a/\(((∃xs,SqL K H1 a xs)/\R (Itl K a) H1)\/((∃xs,SqT K H1 a xs)/\R (Itt K a) H1))
theorem qf {l:Expr}{tl:TE}(hl:PE X l tl):PI X tg l (iSeq X.K tl):=by
 intro pins s σ H R I h;refine thn (hl pins s σ H _ I h) λv s1 ⟨x,H1,I1,r1,q1⟩ =>?_
 obtain ⟨a,e,q1⟩:=q1
 subst e
 cases r1
 have fp:∀b∈[s1.heap.objs.size],fD X pins H1 b:=λb hb=>by
  have e:b=s1.heap.objs.size:=by simpa using hb
  rw[e];exact I1.mq (wm _) (I1.hok.fresh (wm _))
 rcases q1 with ⟨⟨xs,hq⟩,q⟩ | ⟨⟨xs,hq⟩,q⟩
 ·obtain ⟨its,rv,p,hz⟩:=I1.list hq;refine y7 p.isList ?_
  exact ⟨s1.heap.objs.size,_,_,_,H1,rfl,I1.kept (t':=s1.toks) (λb o e=>v7 _ e),jn a _,⟨_,wA _ rfl,rfl,rfl⟩,fp,q⟩
 ·obtain ⟨its,rv,p,hz⟩:=I1.tuple hq;refine ym (show s1.heap.IsTuple a its.toArray from p) ?_
  exact ⟨s1.heap.objs.size,_,_,_,H1,rfl,I1.kept (t':=s1.toks) (λb o e=>v7 _ e),hW a _,⟨_,wA _ rfl,rfl,rfl⟩,fp,q⟩
end
theorem jB {K:v5}{a:Addr}{xs:List V}{k:Nat}{tc:TT}{te:TE}{τ:St}{H:Hp}{Q:VK}(Pv:Nat->List V->Hp->Prop)(hp:H a=some (.lst xs)\/H a=some (.tup xs))(h0:Pv 0 [] H)(hz:xs.length<=wa)
  (hl:∀i ys H',Pv i ys H'->H' a=H a) (hs:∀i x ys H,xs[i]? = some x->ys.length<=i->Pv i ys H->nA k tc te τ Pv i x ys H)
  (hd:∀ys H,ys.length<=xs.length->Pv xs.length ys H->∀l,H l=none->Q (.ref l) (upd H l (.lst ys))) :
  ((∃xs,SqL K H a xs)/\ig (Itl K a) (dS k) tc te τ Q H)\/((∃xs,SqT K H a xs)/\ig (Itt K a) (dS k) tc te τ Q H):=by
 rcases hp with hp | hp
 ·exact .inl ⟨⟨_,SqL.of hp⟩,ik Pv h0 hz (λi ys H' _ z=>SqL.of ((hl i ys H' z).trans hp)) hs hd⟩
 ·exact .inr ⟨⟨_,SqT.of hp⟩,jz Pv h0 hz (λi ys H' _ z=>SqT.of ((hl i ys H' z).trans hp)) hs hd⟩
theorem aA.at {H H':Hp}{a:Addr}{o:HO}(s:aA H H')(h:H a=some o):H' a=H a:=by rw[s _ _ h,h]
theorem qg {X:Cx}{K:v5}{x y:Str}{i j k:Nat}{p p' pos:Pos}(hN:X.N.Nodup)(hi:X.N[i]? = some x)(hj:X.N[j]? = some y)(hx:Loc X.env.scope x)(hy:Loc X.env.scope y)(hc:X.calm=true:=by rfl)(h:X.K=K:=by rfl)
  (hf:X.fn x=true\/X.env.scope.names.lookup x=some .local:=by first | exact .inl rfl | exact .inr rfl) (hg:X.fn y=true\/X.env.scope.names.lookup y=some .local:=by first | exact .inl rfl | exact .inr rfl):PG X (.Tuple [.Name x p,.Name y p'] k pos) (t7 K i j):=by
 subst h
 exact pV hc (fC (aV hN hi hx hf) (fC (aV hN hj hy hg) nc))
open PySem PySem.Spec PyProof.Rows
section
variable  {κ:Type}[DecidableEq κ]
end
section
variable  {P:wx}{w:wZ}{H:Hp}{h:Heap}{a:Addr}
end
section
variable  {X:Cx}{pins:List (Addr×Obj)}{σ:St}{H:Hp}{s:v9}{a:Addr}{y v:V}{u r:v8}{o:Option V}{A:xh}{E:v8->v9->Prop}
theorem Inv.big (I:Inv X pins σ H s):sysModules<s.heap.objs.size:=by
 have h:wM<s.heap.objs.size:=(I.mod.glob.keeps I.bk).lt
 exact Nat.lt_trans (by decide) h
end
section
variable  {X:Cx}{pins:List (Addr×Obj)}{σ:St}{H:Hp}{s:v9}{a:Addr}{kvs:List (Key×V)}{k:Key}{u:v8}{A:xh}{E:v8->v9->Prop}
end
def vG (i:Expr):Prop:=∀ov iv,subscripted i false ov iv=operate [ov,iv] (getItem ov iv)
theorem rZ {prog:wx}{w:wZ}{A:xh}{E:v8->v9->Prop}{s:v9}{env:Env}{value slice:Expr}{pos:Pos}{T id:String}{Q:v8->v9->Prop}
  (hl:typeLookup (.type T) "__getitem__" = pure (some (.builtin id))) (hs:vG slice)
  (h:wL (wV prog w) A (eval value env) (λo s₁=>wL (wV prog w) A (eval slice env) (λi s₂=>s₂.TypeIs o T/\wL (wV prog w) A (getItem o i) Q E s₂) E s₁) E s) :
  wL (wV prog w) A (eval (.Subscript value slice pos) env) Q E s:=by
 refine Subscript_ (xm h (λo s₁ h₁=>xm h₁ (λi s₂ h₂ =>?_) λ_ _ x=>x) λ_ _ x=>x)
 obtain ⟨hT,h₂⟩:=h₂
 unfold subscriptTail
 refine wb ?_
 rw[getitemInPython_of_ne hT.not_modules]
 refine wb (wpAny_specialOf hT hl ?_)
 have fin:wL (wV prog w) A (subscripted slice false o i) (λr s₃=>wL (wV prog w) A (letTemporaryGo value o r >>= λ_=>pure r) Q E s₃) E s₂:=by
  rw[hs o i]
  exact wpAny_operating (xm h₂ (λr s₃ h₃=>wb (wpAny_letTemporaryGo (wQ h₃))) λ_ _ x=>x)
 first
  | exact wQ (wb fin)
  | exact wb (wQ (wb fin))
  | exact wb fin
section
variable  {X:Cx}{o i e value:Expr}{pos pos' tpos:Pos}{td ty tv:TE}
end
theorem qh {P:wx}{w:wZ}{H:Hp}(h:Heap)(hb:sysModules<h.objs.size):bx P w H (h.push { cls :=.type "dict",data :=.dict #[] }) h.objs.size (.dK []) :=
 ⟨xj _,beq_eq_false_iff_ne.mpr (yn (wU hb)),[],.nil,Heap.DictOf.new h⟩
def uO:TE:=λ_ H Q=>∀p,H p=none->Q (.ref p) (upd H p (.dK []))
section
variable  {X:Cx}{pos:Pos}
theorem qi:PE X (.Dict [] [] pos) uO:=λpins s σ H Q I h =>
 wpAny_Dict_empty ⟨.ref s.heap.objs.size,_,I.laid (a:=s.heap.objs.size) (o :=.dK []) (t':=s.toks) (λ_ _ q=>v7 _ q) (wm _) (qh s.heap I.big),rfl,h _ (I.hok.fresh (wm _))⟩
end
section
variable  {X:Cx}{pins:List (Addr×Obj)}{σ:St}{H:Hp}{s:v9}{a:Addr}{y d:V}{u r:v8}{o:Option V}{A:xh}{E:v8->v9->Prop}
end
section
variable  {X:Cx}{o e f:Expr}{apos cpos:Pos}{td ty tx:TE}
end
section
variable  {X:Cx}{pins:List (Addr×Obj)}{σ:St}{H:Hp}{s:v9}{a:Addr}{kvs:List (Key×V)}{A:xh}{E:v8->v9->Prop}
end
section
variable  {X:Cx}{pins:List (Addr×Obj)}{σ:St}{H:Hp}{s:v9}{a:Addr}{y:V}{u:v8}{A:xh}{E:v8->v9->Prop}
end
open PySem PySem.Spec PyProof.Rows
section
variable  {X:Cx}
end
section
variable  {κ:Type}[DecidableEq κ]
end
open PySem PyProof.Rows
section
variable  {X:Cx}
def uP (ns ms:List Int)(j:Nat):Bool:=ns.getD j 0 == ms.getD j 0
theorem qj {ns ms:List Int}(h:ns.length=ms.length):((yl ns.length).all λj=>uP ns ms j)=decide (ns=ms):=by
 rw[yh,decide_eq_true_iff,xv]
 constructor
 ·intro hh
  refine Bf h λj h1 h2 =>?_
  have:=hh j (y9.mpr h1)
  unfold uP at this
  rw[wY,wY,wt h1,wt h2] at this
  exact of_decide_eq_true (by simpa using this)
 ·rintro rfl j _
  exact beq_self_eq_true _
theorem intAt {ns:List Int}{us:List v8}(r:Vals (ns.map V.int) us){j:Nat}(h:j<us.toArray.size):∃t,us.toArray[j] = .int (ns.getD j 0) t:=by
 have l:=r.length
 rw[vZ] at l
 rw[wg] at h
 have e1:(ns.map V.int)[j]? = some (.int (ns.getD j 0)):=by
  rw[w5,wY,wt (by omega)]
  rfl
 obtain ⟨u,g1,q1⟩:=r.get e1
 have f1:us.toArray[j]=u:=by simp[wF] at g1;obtain ⟨_,g⟩:=g1;simpa using g
 rw[f1]
 exact q1
end
open PySem PyProof.Rows
section
variable  {X:Cx}
def nB (ns ms:List Int)(j:Nat):Bool:=ns.getD j 0 == ms.getD j 0
theorem oJ {ns ms:List Int}(h:ns.length=ms.length):((yl ns.length).all λj=>nB ns ms j)=decide (ns=ms):=by
 rw[yh,decide_eq_true_iff,xv]
 constructor
 ·intro hh
  refine Bf h λj h1 h2 =>?_
  have:=hh j (y9.mpr h1)
  unfold nB at this
  rw[wY,wY,wt h1,wt h2] at this
  exact of_decide_eq_true (by simpa using this)
 ·rintro rfl j _
  exact beq_self_eq_true _
theorem oK {ns ms:List Int}:((yl (min ns.length ms.length)).all (nB ns ms) && ns.length == ms.length)=decide (ns=ms):=by
 by_cases h:ns.length=ms.length
 ·rw[<- h,Nat.min_self,show (ns.length == ns.length)=true from beq_self_eq_true _,Bool.and_true]
  exact oJ h
 ·have ne:ns≠ms:=λz=>h (by rw[z])
  rw[decide_eq_false ne,show (ns.length == ms.length)=false from by simpa using h,AD]
theorem qk {ns:List Int}{us:List v8}(r:Vals (ns.map V.int) us){j:Nat}(h:j<us.toArray.size):∃t,us.toArray[j] = .int (ns.getD j 0) t:=by
 have l:=r.length
 rw[vZ] at l
 rw[wg] at h
 have e1:(ns.map V.int)[j]? = some (.int (ns.getD j 0)):=by
  rw[w5,wY,wt (by omega)]
  rfl
 obtain ⟨u,g1,q1⟩:=r.get e1
 have f1:us.toArray[j]=u:=by simp[wF] at g1;obtain ⟨_,g⟩:=g1;simpa using g
 rw[f1]
 exact q1
theorem r6 {k:Nat}(hr:bE k X.A):OpR X (xn .Eq) (λx y H Q=>∃(a b:Addr) (ns ms:List Int),x = .ref a/\y = .ref b/\SqT X.K H a (ns.map V.int)/\SqT X.K H b (ms.map V.int)/\Q (.bl (decide (ns=ms))) H):=by
 intro pins s σ H x y v u Q I rx ry h
 obtain ⟨a,b,ns,ms,rfl,rfl,h1,h2,q⟩:=h
 cases (show v=wO a from rx)
 cases (show u=wO b from ry)
 obtain ⟨its,r1,p1,_⟩:=I.tuple h1
 obtain ⟨its2,r2,p2,_⟩:=I.tuple h2
 have l1:=r1.length
 have l2:=r2.length
 rw[vZ] at l1 l2
 have hu:=hr.un
 have hu1:X.A.units<cLine:=by omega
 have R:=AZ (A:=X.A) (e:=nB ns ms) (show s.heap.IsTuple a its.toArray from p1) (show s.heap.IsTuple b its2.toArray from p2) hu1 (by
  intro j h1 h2
  obtain ⟨t1,g1⟩:=qk r1 h1
  obtain ⟨t2,g2⟩:=qk r2 h2
  rw[g1,g2]
  exact xZ _ t1 _ t2)
 rw[wg,wg, <- l1, <- l2,oK] at R
 exact R _ _ _ _ ⟨.bl _,H,I,rfl,q⟩
def Wd (i:Int):Prop:=i.natAbs<2 ^ 4000
def vH (_ j:Int):Prop:=0<j/\Wd j
theorem ql:OpR X (binaryOp .FloorDiv) (rI vH λi j =>.int (i/j)):=opI λi j _ _ _ _ _ hc q=>by
 have h1:(0:Int)<j:=hc.1
 have h2:j.natAbs.log2<9000:=by
  have:j.natAbs.log2<4000:=(Nat.log2_lt (by omega)).mpr hc.2
  omega
 refine floordiv_int (by omega) ?_ (.inl (PyProof.noPylong_of_log2 h2))
 rw[zE i (by omega)]
 exact q
end
section
variable  {P:wx}{w:wZ}{K:v5}{mg:Str->Option v8}{base:Heap}
end
end L2
namespace L2.Rem
open PySem PySem.SeqAt PySem.MeetsSeq
open AutoSeq1 (wpAny_loadPart')
end L2.Rem
namespace L2
open PySem PySem.Spec PyProof.Rows
section
variable  {X:Cx}
theorem op_neTE {k:Nat}(hr:bE k X.A):OpR X (xn .NotEq) (λx y H Q=>∃a b xs ys,x = .ref a/\y = .ref b/\SqT X.K H a xs/\SqT X.K H b ys/\Paired (dy X.K H 20) xs ys/\Q (.bl false) H):=by
 intro pins s σ H x y v u Q I rx ry h
 obtain ⟨a,b,xs,ys,rfl,rfl,h1,h2,p,q⟩:=h
 cases (show v=wO a from rx)
 cases (show u=wO b from ry)
 obtain ⟨its,r1,p1,_⟩:=I.tuple h1
 obtain ⟨its2,r2,p2,_⟩:=I.tuple h2
 have l1:=r1.length
 have l2:=r2.length
 have pl:=zk p
 have hu:=hr.un
 have hu1:X.A.units<cLine:=by omega
 have R:=SeqAt.RcNeAt.tuples (A:=X.A) (e:=λ_=>true) (show s.heap.IsTuple a its.toArray from p1) (show s.heap.IsTuple b its2.toArray from p2) hu1 (cb p r1 r2 λx y u v h1 h2 h3=>eI I 20 _ x y u v (by show X.A.units+1+_<cLine;omega) h1 h2 h3)
 rw[wg,wg, <- l1, <- l2,pl,Nat.min_self,beq_self_eq_true,all_true] at R
 exact R _ _ _ _ ⟨.bl false,H,I,rfl,q⟩
theorem r9 {k:Nat}(hr:bE k X.A):OpR X (xn .Eq) (λx y H Q=>∃a b xs ys,x = .ref a/\y = .ref b/\SqL X.K H a xs/\SqL X.K H b ys/\Paired (dy X.K H 20) xs ys/\Q (.bl true) H):=by
 intro pins s σ H x y v u Q I rx ry h
 obtain ⟨a,b,xs,ys,rfl,rfl,h1,h2,p,q⟩:=h
 cases (show v=wO a from rx)
 cases (show u=wO b from ry)
 obtain ⟨its,r1,p1,_⟩:=I.list h1
 obtain ⟨its2,r2,p2,_⟩:=I.list h2
 have l1:=r1.length
 have l2:=r2.length
 have pl:=zk p
 have hu:=hr.un
 have hu1:X.A.units<cLine:=by omega
 have R:=Bd (A:=X.A) (e:=λ_=>true) p1.isList p2.isList (by rw[wg,wg, <- l1, <- l2,pl]) hu1 (cb p r1 r2 λx y u v h1 h2 h3=>eI I 20 _ x y u v (by show X.A.units+1+_<cLine;omega) h1 h2 h3)
 rw[all_true] at R
 exact R _ _ _ _ ⟨.bl true,H,I,rfl,q⟩
end
open PySem PySem.Spec PyProof.Rows
section
variable  {X:Cx}
def vI (K:v5):R2:=λx y H Q=>∃a b xs ys,x = .ref a/\y = .ref b/\SqT K H a xs/\SqT K H b ys/\ys≠[]/\xs.length+ys.length<=wa/\(xs=[]->Q (.ref b) H)/\(xs≠[]->∀p,H p=none->Q (.ref p) (upd H p (.tup (xs++ys))))
theorem qm:OpR X (binaryOp .Add) (vI X.K):=by
 intro pins s σ H x y v u Q I rx ry h
 obtain ⟨a,b,xs,ys,rfl,rfl,ha,hb,hy,hz,q1,q2⟩:=h
 by_cases hx:xs=[]
 ·cases rx
  cases ry
  obtain ⟨its,r1,p1,_⟩:=I.tuple ha
  obtain ⟨its2,r2,p2,_⟩:=I.tuple hb
  obtain ⟨⟨c1,d1,da1,s1⟩,o1,k1,n1,g1⟩:=id p1
  obtain ⟨⟨c2,d2,da2,s2⟩,o2,k2,n2,g2⟩:=id p2
  simp only at k1 g1 k2 g2
  subst k1 g1 k2 g2
  have e0:its=[]:=r1.gU.mpr hx
  exact Aw ⟨_,o1,rfl⟩ ⟨_,o2,rfl⟩ Ag AS yW yQ (yL _ _)
   (tuple_addW0 a b its.toArray its2.toArray n1 n2 d1 d2 s1 s2 (by simp[e0])) ⟨o1,o2,⟨.ref b,H,I,rfl,q1 hx⟩⟩
 ·exact rQ pins s σ H _ _ v u Q I rx ry ⟨a,b,xs,ys,rfl,rfl,ha,hb,hx,hz,λz=>absurd z hy,λ_=>q2 hx⟩
end
open PySem PySem.Spec PyProof.Rows
theorem Inv.oM {X:Cx}{pins:List (Addr×Obj)}{σ:St}{H:Hp}{s:v9}{h':Heap}{t':Nat}{ch:List Addr}(I:Inv X pins σ H s)(f:∀b∈ch,fD X pins H b)
  (k:∀b ob,b∉ch->s.heap.get? b=some ob->h'.get? b=some ob):Inv X pins σ H { s with heap:=h',toks:=t' }:=by
 have nit:∀b u,H b=some u->b∉ch:=λb u e z=>by have:=(f b z).1;rw[this] at e;cases e
 refine I.step (g':=s.gens) (d':=s.drawn) (ch:=ch) (λb hb =>?_) (λb o _ _ hc e _=>k b o hc e) (λb o _ _ hc e _=>⟨o.slots,k b o hc e⟩) (λ_ _ _ _ n=>n)
  (λb o hc e=>⟨o,k b o hc e⟩) (λ_ _ e=>e) (λ_ _ _ e=>e) (λb ps e=>⟨#[],by rw[e];simp⟩) (λm hm =>?_) (λb u e =>?_) I.bare
 ·obtain ⟨g0,g1,g2,g3,g4,g5⟩:=f b hb
  exact ⟨g3,g1,g4,g5⟩
 ·obtain ⟨o,es,ep,ho,r⟩:=hm
  exact ⟨o,es,ep,k _ o (λz=>(f _ z).2.1 rfl) ho,r⟩
 ·refine (I.hok b u e).eR (λc v hc q=>k c v ?_ q) (λ_ q=>q) λ_ _ q=>q
  rcases hc with z | z
  ·rw[z];exact nit b u e
  ·exact nit c _ z
theorem uQ (n a b:Nat)(h1:a<n)(h2:b<n):ZipApart (n+4) (n+2) (n+3) n (n+1) a b :=
  ⟨λz=>absurd (show n+2=n+4 from z) (by omega),λz=>absurd (show n+3=n+4 from z) (by omega),λz=>absurd (show n=n+4 from z) (by omega),λz=>absurd (show n+1=n+4 from z) (by omega),λz=>absurd (show n+2=n+3 from z) (by omega),λz=>absurd (show n+2=n from z) (by omega),λz=>absurd (show n+2=n+1 from z) (by omega),λz=>absurd (show n+3=n from z) (by omega),λz=>absurd (show n+3=n+1 from z) (by omega),λz=>absurd (show n=n+1 from z) (by omega),
   λz=>absurd (show a=n+4 from z) (by omega),λz=>absurd (show a=n+3 from z) (by omega),λz=>absurd (show a=n from z) (by omega),λz=>absurd (show a=n+1 from z) (by omega),λz=>absurd (show b=n+4 from z) (by omega),λz=>absurd (show b=n+3 from z) (by omega),λz=>absurd (show b=n from z) (by omega),λz=>absurd (show b=n+1 from z) (by omega)⟩
theorem boot_zip:xu "zip" = some (.type "zip"):=by decide +kernel
section
variable  {X:Cx}
end
open PySem PySem.Spec PyProof.Rows
theorem vJ (ps:List Int):(ps.map V.int).all fG=true:=by
 rw[xv]
 intro x hx
 obtain ⟨i,_,rfl⟩:=x9.mp hx
 rfl
theorem vK (k:Int):∀ps:List Int,inV (.int k) (ps.map V.int)=decide (k∈ps)
 | []=>by simp[inV]
 | p :: ps=>by
  have ih:=vK k ps
  unfold inV at ih ⊢
  rw[xM,zV,ih]
  have e:eqV (.int p) (.int k)=(p == k):=rfl
  rw[e]
  by_cases h:p=k
  ·subst h;simp
  ·rw[beq_eq_false_iff_ne.mpr h,Bool.false_or]
   apply decide_eq_decide.mpr
   rw[wH]
   exact ⟨.inr,λx=>x.elim (λy=>absurd y.symm h) id⟩
theorem oN (ns:List Int)(lo hi:Option Int):∃ms:List Int,cu (ns.map V.int) lo hi=ms.map V.int/\ms.length<=ns.length/\∀v∈ms,v∈ns:=by
 refine ⟨(ns.drop (HT.sIx (ns.map V.int).length 0 lo)).take (HT.sIx (ns.map V.int).length (ns.map V.int).length hi-HT.sIx (ns.map V.int).length 0 lo),?_,?_,λv hv=>xR (xA hv)⟩
 ·unfold cu
  rw[yk,zo]
 ·rw[wG,wW]
  omega
def Pt (n:Nat)(H:Hp)(p:Addr):Prop:=∃xs:List Int,xs.length=n/\H p=some (.lst (xs.map V.int))
structure Bu (n:Nat)(p:Addr)(H H':Hp):Prop where
 pot:Pt n H' p
 st:∀q o,q≠p->H q=some o->H' q=some o
theorem Pt.same {n:Nat}{p:Addr}{H H1:Hp}(a:Pt n H p)(s:aA H H1):Pt n H1 p:=by obtain ⟨xs,l,e⟩:=a;exact ⟨xs,l,s _ _ e⟩
theorem Pt.ne {n:Nat}{p b:Addr}{H:Hp}(a:Pt n H p)(h:H b=none):b≠p:=by
 obtain ⟨xs,_,e⟩:=a
 exact yn (av e h)
theorem Bu.refl {n:Nat}{p:Addr}{H:Hp}(h:Pt n H p):Bu n p H H:=⟨h,λ_ _ _ z=>z⟩
theorem Bu.trans {n:Nat}{p:Addr}{H H1 H2:Hp}(a:Bu n p H H1)(b:Bu n p H1 H2):Bu n p H H2:=⟨b.pot,λq o m z=>b.st q o m (a.st q o m z)⟩
theorem Bu.same {n:Nat}{p:Addr}{H H1 H2:Hp}(a:Bu n p H H1)(b:aA H1 H2):Bu n p H H2:=⟨a.pot.same b,λq o m z=>b _ _ (a.st q o m z)⟩
theorem Bu.put {n:Nat}{p:Addr}{H H1:Hp}(a:Bu n p H H1){ys:List Int}(l:ys.length=n):Bu n p H (upd H1 p (.lst (ys.map V.int))):=⟨⟨ys,l,ae⟩,λq o m z=>by rw[ax m];exact a.st q o m z⟩
theorem Bu.fg {n:Nat}{p l:Addr}{H H1:Hp}(a:Bu n p H H1)(hl:H l=none)(np:l≠p)(o:HO):Bu n p H (upd H1 l o):=⟨by obtain ⟨xs,z,e⟩:=a.pot;exact ⟨xs,z,by rw[ax np.symm];exact e⟩,λq u m z=>by rw[ax (av z hl)];exact a.st q u m z⟩
theorem Bu.fresh {n:Nat}{p:Addr}{H H':Hp}{o:HO}(h:H p=none)(b:Bu n p (upd H p o) H'):aA H H':=λq u e=>by
 have m:q≠p:=av e h
 refine b.st q u m ?_
 rw[ax m]
 exact e
variable  {X:Cx}
open PySem PySem.Spec PyProof.Rows
def ItB:Bool->Heap->Addr->Addr->Nat->Prop
 | true,h,it,l,i=>h.IsListIter it l i
 | false,h,it,l,i=>h.IsTupleIter it l i
def SB':Bool->Heap->Addr->Array v8->Prop
 | true,h,l,xs=>h.IsList l xs
 | false,h,l,xs=>h.IsTuple l xs
theorem ItB.to {b:Bool}{h h':Heap}{it l:Addr}{i:Nat}(x:ItB b h it l i)(k:∀o,h.get? it=some o->h'.get? it=some o):ItB b h' it l i:=by
 cases b
 ·exact Heap.IsTupleIter.at (show h.IsTupleIter it l i from x) k
 ·exact Heap.IsListIter.at (show h.IsListIter it l i from x) k
theorem SB'.to {b:Bool}{h h':Heap}{l:Addr}{xs:Array v8}(x:SB' b h l xs)(k:∀o,h.get? l=some o->h'.get? l=some o):SB' b h' l xs:=by
 cases b
 ·obtain ⟨o,e,r⟩:=(show h.IsTuple l xs from x);exact ⟨o,k o e,r⟩
 ·obtain ⟨o,e,r⟩:=(show h.IsList l xs from x);exact ⟨o,k o e,r⟩
theorem ItB.lt {b:Bool}{h:Heap}{it l:Addr}{i:Nat}(x:ItB b h it l i):it<h.objs.size:=by
 cases b
 ·obtain ⟨o,e,_⟩:=(show h.IsTupleIter it l i from x);exact wq e
 ·obtain ⟨o,e,_⟩:=(show h.IsListIter it l i from x);exact wq e
theorem ItB.obj {b:Bool}{h:Heap}{it l:Addr}{i:Nat}(x:ItB b h it l i):∃o,h.get? it=some o/\∀v,o.data ≠ .cell v:=by
 cases b
 ·obtain ⟨o,e,_,d⟩:=(show h.IsTupleIter it l i from x);exact ⟨o,e,λv z=>by rw[d] at z;cases z⟩
 ·obtain ⟨o,e,_,d⟩:=(show h.IsListIter it l i from x);exact ⟨o,e,λv z=>by rw[d] at z;cases z⟩
section
variable  {prog:wx}{w:wZ}{A:xh}{E:v8->v9->Prop}{s:v9}
theorem qo {b:Bool}{it l:Addr}{i:Nat}{xs:Array v8}{x:v8}{Q:v8->v9->Prop}(hi:ItB b s.heap it l i)(hl:SB' b s.heap l xs)(hx:xs[i]? = some x)
  (q:∀h',ItB b h' it l (i+1)->Heap.SameBut it s.heap h'->Q x { s with heap:=h' }):wL (wV prog w) A (Builtin.SmallTypes.nextOf (.ref it)) Q E s:=by
 cases b
 ·exact il hi hl hx q
 ·exact wpAny_nextOf_list_item hi hl hx q
theorem jC {b:Bool}{it l:Addr}{i:Nat}{xs:Array v8}{Q:v8->v9->Prop}(hh:A.handled=none)(hi:ItB b s.heap it l i)(hl:SB' b s.heap l xs)(hx:xs[i]? = none)
  (q:∀h' e,Heap.ExtBut it s.heap h'->(∃o,h'.get? e=some o/\o.cls = .type "StopIteration")->E (.ref e) { s with heap:=h' }):wL (wV prog w) A (Builtin.SmallTypes.nextOf (.ref it)) Q E s:=by
 cases b
 ·exact cJ hh hi hl hx q
 ·exact wpAny_nextOf_list_end hh hi hl hx q
theorem oO {c d:Bool}{z TI TO i1 i2 l1 l2:Addr}{k1 k2:Nat}{xs ys:Array v8}{x y a b:v8}{Q:v8->v9->Prop}(D:ZipApart z TI TO i1 i2 l1 l2)
  (hz:IsZip s.heap z TI TO .none) (hTI:IsPair s.heap TI (.ref i1) (.ref i2)) (hTO:IsPair s.heap TO a b)
  (j1:ItB c s.heap i1 l1 k1) (j2:ItB d s.heap i2 l2 k2) (m1:SB' c s.heap l1 xs) (m2:SB' d s.heap l2 ys) (hx:xs[k1]? = some x) (hy:ys[k2]? = some y)
  (hQ:∀h',IsZip h' z TI TO (zU s.heap.objs.size)->IsPair h' TO x y->ItB c h' i1 l1 (k1+1)->ItB d h' i2 l2 (k2+1)->IsPair h' s.heap.objs.size x y->h'.objs.size=s.heap.objs.size+1 →
   (∀c o,c≠z->c≠TO->c≠i1->c≠i2->s.heap.get? c=some o->h'.get? c=some o)->Q (.ref s.heap.objs.size) { s with heap:=h' }) :
  wL (wV prog w) A (Builtin.«zip.__next__» ⟨[.ref z],[]⟩) (λfin s'=>∃v,fin = .done (.ret v)/\Q v s') E s:=by
 show wL _ _ (field (.ref z) 2 >>= _) _ _ _;refine wb (xQ hz rfl (x :=.bool false) rfl ?_)
 show wL _ _ (field (.ref z) 3 >>= _) _ _ _;refine wb (xQ hz rfl (x :=.ref TI) rfl ?_)
 refine wb (ye hTI rfl ?_);show wL _ _ (Builtin.SmallTypes.ownedTupleIsFree (.ref z) >>= _) _ _ _
 refine wb ?_;unfold Builtin.SmallTypes.ownedTupleIsFree
 refine wb (xQ hz rfl (x :=.none) rfl (wQ ?_));simp only[if_true]
 refine wb (BE ?_);refine wb (xQ hz rfl (x :=.ref TO) rfl ?_)
 refine wb (yb hz (by simp) λg1 hz1 s1 =>?_);replace hz1:IsZip g1 z TI TO .ellipsis:=hz1
 refine wb ?_;simp only[Bg,Bm,Aq,Bw]
 refine wb (wb (Aa ?_));show wL _ _ (Builtin.SmallTypes.nextOf (.ref i1) >>= _) _ _ _
 refine wb (qo (j1.to λo e=>s1.extBut _ _ D.i1z e) (m1.to λo e=>s1.extBut _ _ D.l1z e) hx λg2 j1' s2=>wQ ?_)
 have t2:IsPair g2 TO a b:=s2.extBut _ _ D.TOi1 (s1.extBut _ _ D.TOz hTO)
 refine wb (ye t2 rfl ?_);refine wb (zi t2 λg3 t3 s3 =>?_)
 replace t3:IsPair g3 TO x b:=t3;refine wb (Bq (wQ ?_))
 refine wb (wb (Aa ?_));show wL _ _ (Builtin.SmallTypes.nextOf (.ref i2) >>= _) _ _ _
 refine wb (qo (((j2.to λo e=>s1.extBut _ _ D.i2z e).to λo e=>s2.extBut _ _ D.i12.symm e).to λo e=>s3.extBut _ _ D.TOi2.symm e) (((m2.to λo e=>s1.extBut _ _ D.l2z e).to λo e=>s2.extBut _ _ D.l2i1 e).to λo e=>s3.extBut _ _ D.l2TO e) hy λg4 j2' s4=>wQ ?_)
 have t4:IsPair g4 TO x b:=s4.extBut _ _ D.TOi2 t3
 refine wb (ye t4 rfl ?_);refine wb (zi t4 λg5 t5 s5 =>?_)
 replace t5:IsPair g5 TO x y:=t5;refine wb (Bq (wQ (wQ ?_)))
 refine wb (ye t5 rfl ?_);refine wb (wpAny_newTuple ?_)
 have sz:g5.objs.size=s.heap.objs.size:=by rw[s5.1,s4.1,s3.1,s2.1,s1.1]
 have z5:IsZip g5 z TI TO .ellipsis:=s5.extBut _ _ D.TOz.symm (s4.extBut _ _ D.i2z.symm (s3.extBut _ _ D.TOz.symm (s2.extBut _ _ D.i1z.symm hz1)))
 have k5:∀c o,c≠z->c≠TO->c≠i1->c≠i2->s.heap.get? c=some o->g5.get? c=some o:=λc o c1 c2 c3 c4 e=>s5.extBut _ _ c2 (s4.extBut _ _ c4 (s3.extBut _ _ c2 (s2.extBut _ _ c3 (s1.extBut _ _ c1 e))))
 have n1:ItB c g5 i1 l1 (k1+1):=((j1'.to λo e=>s3.extBut _ _ D.TOi1.symm e).to λo e=>s4.extBut _ _ D.i12 e).to λo e=>s5.extBut _ _ D.TOi1.symm e
 have n2:ItB d g5 i2 l2 (k2+1):=j2'.to λo e=>s5.extBut _ _ D.TOi2.symm e
 have zl:z<g5.objs.size:=wq z5
 show wL _ _ (Builtin.SmallTypes.ownedTupleHandOut (.ref z) (.ref g5.objs.size) >>= _) _ _ _;refine wb ?_
 unfold Builtin.SmallTypes.ownedTupleHandOut
 have z6:IsZip (g5.push { cls :=.type "tuple",data :=.seq #[x,y] }) z TI TO .ellipsis:=v7 _ z5
 refine wb (yb z6 (by simp) λg7 z7 s7 =>?_);replace z7:IsZip g7 z TI TO (zU g5.objs.size):=z7
 refine yb z7 (by simp) λg8 z8 s8 =>?_;replace z8:IsZip g8 z TI TO (zU g5.objs.size):=z8
 have up:∀c o,c≠z->g5.get? c=some o->g8.get? c=some o:=λc o c1 e=>s8.extBut _ _ c1 (s7.extBut _ _ c1 (v7 _ e))
 have p8:IsPair g8 g5.objs.size x y:=s8.extBut _ _ (za zl) (s7.extBut _ _ (za zl) (wA _ rfl))
 have e8:g8.objs.size=g5.objs.size+1:=by rw[s8.1,s7.1,yc]
 rw[sz] at z8 p8 e8
 refine wQ ⟨_,rfl,?_⟩;show Q (.ref g5.objs.size) _;rw[sz]
 exact hQ g8 z8 (up _ _ D.TOz t5) (n1.to λo e=>up _ o D.i1z e) (n2.to λo e=>up _ o D.i2z e) p8 e8 λc o c1 c2 c3 c4 e=>up c o c1 (k5 c o c1 c2 c3 c4 e)
theorem qp {c d:Bool}{z TI TO i1 i2 l1 l2:Addr}{k1 k2:Nat}{xs ys:Array v8}{a b:v8}{Q:Fin->v9->Prop}(hh:A.handled=none)(D:ZipApart z TI TO i1 i2 l1 l2)
  (hz:IsZip s.heap z TI TO .none) (hTI:IsPair s.heap TI (.ref i1) (.ref i2)) (hTO:IsPair s.heap TO a b)
  (j1:ItB c s.heap i1 l1 k1) (j2:ItB d s.heap i2 l2 k2) (m1:SB' c s.heap l1 xs) (m2:SB' d s.heap l2 ys) (hend:xs[k1]? = none\/ys[k2]? = none)
  (hE:∀h' e,(∀c o,c≠z->c≠TO->c≠i1->c≠i2->s.heap.get? c=some o->h'.get? c=some o)->(∃o,h'.get? e=some o/\o.cls = .type "StopIteration")->E (.ref e) { s with heap:=h' }) :
  wL (wV prog w) A (Builtin.«zip.__next__» ⟨[.ref z],[]⟩) Q E s:=by
 show wL _ _ (field (.ref z) 2 >>= _) _ _ _;refine wb (xQ hz rfl (x :=.bool false) rfl ?_)
 show wL _ _ (field (.ref z) 3 >>= _) _ _ _;refine wb (xQ hz rfl (x :=.ref TI) rfl ?_)
 refine wb (ye hTI rfl ?_);show wL _ _ (Builtin.SmallTypes.ownedTupleIsFree (.ref z) >>= _) _ _ _
 refine wb ?_;unfold Builtin.SmallTypes.ownedTupleIsFree
 refine wb (xQ hz rfl (x :=.none) rfl (wQ ?_));simp only[if_true]
 refine wb (BE ?_);refine wb (xQ hz rfl (x :=.ref TO) rfl ?_)
 refine wb (yb hz (by simp) λg1 hz1 s1 =>?_);replace hz1:IsZip g1 z TI TO .ellipsis:=hz1
 refine wb ?_;simp only[Bg,Bm,Aq,Bw]
 refine wb (wb (Aa ?_));show wL _ _ (Builtin.SmallTypes.nextOf (.ref i1) >>= _) _ _ _
 cases hx:xs[k1]? with
 | none =>
  refine wb (jC hh (j1.to λo e=>s1.extBut _ _ D.i1z e) (m1.to λo e=>s1.extBut _ _ D.l1z e) hx λg2 e s2 he =>?_)
  obtain ⟨oe,hoe,hce⟩:=he
  have z2:IsZip g2 z TI TO .ellipsis:=s2 _ _ D.i1z.symm hz1
  have hez:e≠z:=λx=>by subst x;rw[z2] at hoe;cases hoe;simp at hce
  refine yb z2 (by simp) λg3 _ s3=>hE g3 e (λc o c1 _ c3 _ x=>s3.extBut _ _ c1 (s2 _ _ c3 (s1.extBut _ _ c1 x))) ⟨oe,s3.extBut _ _ hez hoe,hce⟩
 | some x =>
  have hy:ys[k2]? = none:=by rcases hend with h | h;rw[hx] at h;cases h;exact h
  refine wb (qo (j1.to λo e=>s1.extBut _ _ D.i1z e) (m1.to λo e=>s1.extBut _ _ D.l1z e) hx λg2 j1' s2=>wQ ?_)
  have t2:IsPair g2 TO a b:=s2.extBut _ _ D.TOi1 (s1.extBut _ _ D.TOz hTO)
  refine wb (ye t2 rfl ?_);refine wb (zi t2 λg3 t3 s3 =>?_)
  refine wb (Bq (wQ ?_));refine wb (wb (Aa ?_))
  show wL _ _ (Builtin.SmallTypes.nextOf (.ref i2) >>= _) _ _ _;refine wb (jC hh (((j2.to λo e=>s1.extBut _ _ D.i2z e).to λo e=>s2.extBut _ _ D.i12.symm e).to λo e=>s3.extBut _ _ D.TOi2.symm e) (((m2.to λo e=>s1.extBut _ _ D.l2z e).to λo e=>s2.extBut _ _ D.l2i1 e).to λo e=>s3.extBut _ _ D.l2TO e) hy λg4 e s4 he =>?_)
  obtain ⟨oe,hoe,hce⟩:=he
  have z4:IsZip g4 z TI TO .ellipsis:=s4 _ _ D.i2z.symm (s3.extBut _ _ D.TOz.symm (s2.extBut _ _ D.i1z.symm hz1))
  have hez:e≠z:=λx=>by subst x;rw[z4] at hoe;cases hoe;simp at hce
  refine yb z4 (by simp) λg5 _ s5=>hE g5 e (λc o c1 c2 c3 c4 x=>s5.extBut _ _ c1 (s4 _ _ c4 (s3.extBut _ _ c2 (s2.extBut _ _ c3 (s1.extBut _ _ c1 x))))) ⟨oe,s5.extBut _ _ hez hoe,hce⟩
theorem kY {c d:Bool}{z TI TO i1 i2 l1 l2:Addr}{k1 k2:Nat}{xs ys:Array v8}{x y a b:v8}{Q:Option v8->v9->Prop}(D:ZipApart z TI TO i1 i2 l1 l2)
  (hz:IsZip s.heap z TI TO .none) (hTI:IsPair s.heap TI (.ref i1) (.ref i2)) (hTO:IsPair s.heap TO a b)
  (j1:ItB c s.heap i1 l1 k1) (j2:ItB d s.heap i2 l2 k2) (m1:SB' c s.heap l1 xs) (m2:SB' d s.heap l2 ys) (hx:xs[k1]? = some x) (hy:ys[k2]? = some y)
  (hQ:∀h',IsZip h' z TI TO (zU s.heap.objs.size)->IsPair h' TO x y->ItB c h' i1 l1 (k1+1)->ItB d h' i2 l2 (k2+1)->IsPair h' s.heap.objs.size x y->h'.objs.size=s.heap.objs.size+1 →
   (∀c o,c≠z->c≠TO->c≠i1->c≠i2->s.heap.get? c=some o->h'.get? c=some o)->Q (some (.ref s.heap.objs.size)) { s with heap:=h' }):wL (wV prog w) A (pyNext (.ref z)) Q E s:=by
 have hT:s.TypeIs (.ref z) "zip" :=⟨_,hz,rfl⟩
 unfold pyNext;exact wb (AU (xT (name:=Str.ofString "__next__") hT zx (xY zx hT Bh (oO D hz hTI hTO j1 j2 m1 m2 hx hy λh' a1 a2 a3 a4 a5 a6 a7=>wQ (hQ h' a1 a2 a3 a4 a5 a6 a7)) (A0 _))))
theorem gN {c d:Bool}{z TI TO i1 i2 l1 l2:Addr}{k1 k2:Nat}{xs ys:Array v8}{a b:v8}{Q:Option v8->v9->Prop}(hh:A.handled=none)(D:ZipApart z TI TO i1 i2 l1 l2)
  (hz:IsZip s.heap z TI TO .none) (hTI:IsPair s.heap TI (.ref i1) (.ref i2)) (hTO:IsPair s.heap TO a b)
  (j1:ItB c s.heap i1 l1 k1) (j2:ItB d s.heap i2 l2 k2) (m1:SB' c s.heap l1 xs) (m2:SB' d s.heap l2 ys) (hend:xs[k1]? = none\/ys[k2]? = none)
  (hQ:∀h',(∀c o,c≠z->c≠TO->c≠i1->c≠i2->s.heap.get? c=some o->h'.get? c=some o)->Q none { s with heap:=h' }):wL (wV prog w) A (pyNext (.ref z)) Q E s:=by
 have hT:s.TypeIs (.ref z) "zip" :=⟨_,hz,rfl⟩
 unfold pyNext;refine wb (AU (xT (name:=Str.ofString "__next__") hT zx (xY zx hT Bh (qp hh D hz hTI hTO j1 j2 m1 m2 hend λh' e hk he =>?_) (A0 _))))
 obtain ⟨o,ho,hc⟩:=he
 refine wb (wpAny_isInstance (T := "StopIteration") (b:=true) ⟨o,ho,hc⟩ isSubtype_stop ?_);exact wQ (hQ _ hk)
def nC:Bool->String
 | true => "list_iterator"
 | false => "tuple_iterator"
def zB1 (c:Bool)(h:Heap)(l1:Addr):Heap:=h.push { cls :=.type (nC c),data :=.fields #[.ref l1,.int 0 0] }
def zB2 (c d:Bool)(h:Heap)(l1 l2:Addr):Heap:=(zB1 c h l1).push { cls :=.type (nC d),data :=.fields #[.ref l2,.int 0 0] }
def zB3 (c d:Bool)(h:Heap)(l1 l2:Addr):Heap:=(zB2 c d h l1 l2).push { cls :=.type "tuple",data :=.seq #[.ref h.objs.size,.ref (zB1 c h l1).objs.size] }
def zB4 (c d:Bool)(h:Heap)(l1 l2:Addr):Heap:=(zB3 c d h l1 l2).push { cls :=.type "tuple",data :=.seq #[.none,.none] }
def zB5 (c d:Bool)(h:Heap)(l1 l2:Addr):Heap:=(zB4 c d h l1 l2).push { cls :=.type "zip",data :=.fields #[.none,.bool false,.bool false,.ref (zB2 c d h l1 l2).objs.size,.ref (zB3 c d h l1 l2).objs.size] }
theorem t8 {c:Bool}{l:Addr}{xs:Array v8}{Q:v8->v9->Prop}(hl:SB' c s.heap l xs)(q:Q (.ref s.heap.objs.size) { s with heap:=zB1 c s.heap l }):wL (wV prog w) A (pyIter (.ref l)) Q E s:=by
 cases c
 ·exact ym hl q
 ·exact y7 hl q
theorem qr (c d:Bool)(l1 l2:Addr)(xs ys:Array v8):Meets (Builtin.«zip.__new__» ⟨[.type "zip",.ref l1,.ref l2],[]⟩) (λ_ R s=>SB' c s.heap l1 xs/\SB' d s.heap l2 ys ∧
   R (.ok (.ret (.ref (zB4 c d s.heap l1 l2).objs.size))) { s with heap:=zB5 c d s.heap l1 l2 }) :=
 .of_wp λprog w A R s h=>by
  obtain ⟨hp,g,dr,tk,os⟩:=s;obtain ⟨hl1,hl2,h⟩:=h
  have hsub:=sub_zip
  have m1:SB' c (Shared.heap ⟨hp,g,dr,tk,os⟩) l1 xs:=hl1
  have m2:SB' d (Shared.heap ⟨zB1 c hp l1,g,dr,tk,os⟩) l2 ys:=hl2.to λo e=>v7 _ e
  wp_walk using t8 m1,t8 m2
  exact ⟨_,rfl,h⟩
theorem oP {c d:Bool}{l1 l2:Addr}{xs ys:Array v8}{Q:v8->v9->Prop}(m1:SB' c s.heap l1 xs)(m2:SB' d s.heap l2 ys)
  (h:∀h',IsZip h' (s.heap.objs.size+4) (s.heap.objs.size+2) (s.heap.objs.size+3) .none->IsPair h' (s.heap.objs.size+2) (.ref s.heap.objs.size) (.ref (s.heap.objs.size+1)) →
   IsPair h' (s.heap.objs.size+3) .none .none->ItB c h' s.heap.objs.size l1 0->ItB d h' (s.heap.objs.size+1) l2 0 →
   (∀c o,s.heap.get? c=some o->h'.get? c=some o)->Q (.ref (s.heap.objs.size+4)) { s with heap:=h' }):wL (wV prog w) A (call (.type "zip") [.ref l1,.ref l2]) Q E s:=by
 refine callType_new F.called_zip (by decide) (F.typeCall_zip_2 _ _) (F.newCall_zip_2 _ _) (λobj=>F.args_object_init_3 obj _ _) F.entry_zip_new (qr c d l1 l2 xs ys) ⟨m1,m2,?_⟩
 have z1:(zB1 c s.heap l1).objs.size=s.heap.objs.size+1:=yc ..
 have z2:(zB2 c d s.heap l1 l2).objs.size=s.heap.objs.size+2:=(yc ..).trans (by rw[z1])
 have z3:(zB3 c d s.heap l1 l2).objs.size=s.heap.objs.size+3:=(yc ..).trans (by rw[z2])
 have z4:(zB4 c d s.heap l1 l2).objs.size=s.heap.objs.size+4:=(yc ..).trans (by rw[z3])
 have g5:(zB5 c d s.heap l1 l2).get? (zB4 c d s.heap l1 l2).objs.size=some { cls :=.type "zip",data :=.fields #[.none,.bool false,.bool false,.ref (zB2 c d s.heap l1 l2).objs.size,.ref (zB3 c d s.heap l1 l2).objs.size] }:=wA _ rfl
 have g4:(zB5 c d s.heap l1 l2).get? (zB3 c d s.heap l1 l2).objs.size=some { cls :=.type "tuple",data :=.seq #[.none,.none] }:=v7 _ (wA _ rfl)
 have g3:(zB5 c d s.heap l1 l2).get? (zB2 c d s.heap l1 l2).objs.size=some { cls :=.type "tuple",data :=.seq #[.ref s.heap.objs.size,.ref (zB1 c s.heap l1).objs.size] }:=v7 _ (v7 _ (wA _ rfl))
 have g2:(zB5 c d s.heap l1 l2).get? (zB1 c s.heap l1).objs.size=some { cls :=.type (nC d),data :=.fields #[.ref l2,.int 0 0] }:=v7 _ (v7 _ (v7 _ (wA _ rfl)))
 have g1:(zB5 c d s.heap l1 l2).get? s.heap.objs.size=some { cls :=.type (nC c),data :=.fields #[.ref l1,.int 0 0] }:=v7 _ (v7 _ (v7 _ (v7 _ (wA _ rfl))))
 show _/\_
 rw[z2,z3,z4] at g5
 rw[z1,z2] at g3
 rw[z3] at g4
 rw[z1] at g2
 rw[z4]
 refine ⟨⟨_,g5,rfl⟩,h _ g5 g3 g4 ?_ ?_ λc' o x=>v7 _ (v7 _ (v7 _ (v7 _ (v7 _ x))))⟩
 ·cases c
  ·exact ⟨_,g1,rfl,rfl⟩
  ·exact ⟨_,g1,rfl,rfl⟩
 ·cases d
  ·exact ⟨_,g2,rfl,rfl⟩
  ·exact ⟨_,g2,rfl,rfl⟩
end
def SqB (K:v5):Bool->Hp->Addr->List V->Prop
 | true,H,a,xs=>SqL K H a xs
 | false,H,a,xs=>SqT K H a xs
theorem SqB.row {X:Cx}{c:Bool}{pins:List (Addr×Obj)}{σ:St}{H:Hp}{s:v9}(I:Inv X pins σ H s){a:Addr}{xs:List V}(h:SqB X.K c H a xs):∃its:List v8,Vals xs its/\SB' c s.heap a its.toArray:=by
 cases c
 ·obtain ⟨its,r,p,_⟩:=I.tuple (show SqT X.K H a xs from h);exact ⟨its,r,p⟩
 ·obtain ⟨its,r,p,_⟩:=I.list (show SqL X.K H a xs from h);exact ⟨its,r,p.isList⟩
theorem SB'.lt {c:Bool}{h:Heap}{l:Addr}{xs:Array v8}(x:SB' c h l xs):l<h.objs.size:=by
 cases c
 ·obtain ⟨o,e,_⟩:=(show h.IsTuple l xs from x);exact wq e
 ·obtain ⟨o,e,_⟩:=(show h.IsList l xs from x);exact wq e
theorem SqB.inj {X:Cx}{c:Bool}{pins:List (Addr×Obj)}{σ:St}{H:Hp}{s:v9}(I:Inv X pins σ H s){a:Addr}{xs ys:List V}(h:SqB X.K c H a xs)(g:SqB X.K c H a ys):xs=ys:=by
 cases c
 ·exact I.gg h g
 ·exact I.hU h g
def ItZ (K:v5)(c d:Bool)(a b:Addr):It :=
 ⟨λi H=>∃xs ys u v,SqB K c H a xs/\SqB K d H b ys/\xs[i]? = some u/\ys[i]? = some v,λi H x H'=>∃T u v,H T=none/\x = .ref T/\H'=upd H T (.tup [u,v])/\(∀xs,SqB K c H a xs->xs[i]? = some u)/\∀ys,SqB K d H b ys->ys[i]? = some v,λi H=>∃xs ys,SqB K c H a xs/\SqB K d H b ys/\(xs.length<=i\/ys.length<=i)⟩
theorem oQ {P:wx}{w:wZ}{K:v5}{elts:List Expr}{k:Nat}{pos:Pos}(c d:Bool)(a b z TI TO i1 i2:Addr)(D:ZipApart z TI TO i1 i2 a b):Turn P w K (.Tuple elts k pos) (ItZ K c d a b) [z,TI,TO,i1,i2] z (λi h=>IsZip h z TI TO .none/\IsPair h TI (.ref i1) (.ref i2)/\(∃x y,IsPair h TO x y)/\ItB c h i1 a i/\ItB d h i2 b i) where
 mem:=by simp
 obj:=λi h ⟨hz,hI,⟨x,y,hO⟩,h1,h2⟩ e he=>by
  have he':e=z\/e=TI\/e=TO\/e=i1\/e=i2:=by simpa using he
  rcases he' with q | q | q | q | q
  ·subst q;exact ⟨_,hz,λv z=>nomatch z⟩
  ·subst q;exact ⟨_,hI,λv z=>nomatch z⟩
  ·subst q;exact ⟨_,hO,λv z=>nomatch z⟩
  ·subst q;exact h1.obj
  ·subst q;exact h2.obj
 keep:=λi h h' ⟨hz,hI,⟨x,y,hO⟩,h1,h2⟩ kp=>⟨kp z (by simp) _ hz,kp TI (by simp) _ hI,⟨x,y,kp TO (by simp) _ hO⟩,h1.to λo e=>kp i1 (by simp) o e,h2.to λo e=>kp i2 (by simp) o e⟩
 item:=λX eP eW eK hcalm i pins s σ H E I f ⟨hz,hI,⟨x,y,hO⟩,h1,h2⟩ go=>by
  subst eP eW eK
  obtain ⟨xs,ys,u,v,ha,hb,hu,hv⟩:=go
  obtain ⟨its,r,pl⟩:=SqB.row I ha
  obtain ⟨jts,r',pl'⟩:=SqB.row I hb
  obtain ⟨u',eu,ru⟩:=r.get hu
  obtain ⟨v',ev,rv⟩:=r'.get hv
  refine kY D hz hI hO h1 h2 pl pl' (x:=u') (y:=v') (by rw[xf];exact eu) (by rw[xf];exact ev) λh' o1 o2 o3 o4 o5 o6 kp =>?_
  refine ⟨_,rfl,?_⟩
  refine wpAny_letOwnedTupleGo_zip o1 λh2' e2 sb =>?_
  have ez:z≠s.heap.objs.size:=wU (wq hz)
  have lt:∀e∈[z,TI,TO,i1,i2],e≠s.heap.objs.size:=λe he=>by
   have he':e=z\/e=TI\/e=TO\/e=i1\/e=i2:=by simpa using he
   rcases he' with q | q | q | q | q
   ·rw[q];exact ez
   ·rw[q];exact wU (wq hI)
   ·rw[q];exact wU (wq hO)
   ·rw[q];exact wU h1.lt
   ·rw[q];exact wU h2.lt
  have kp2:∀e ob,e∉[z,TI,TO,i1,i2]->s.heap.get? e=some ob->h2'.get? e=some ob:=λe ob he eb=>by
   have n1:e≠z:=λq=>he (by simp[q])
   have n2:e≠TO:=λq=>he (by simp[q])
   have n3:e≠i1:=λq=>he (by simp[q])
   have n4:e≠i2:=λq=>he (by simp[q])
   rw[sb.2 e n1];exact kp e ob n1 n2 n3 n4 eb
  have j1:ItB c h2' i1 a (i+1):=o3.to λob eb=>by rw[sb.2 i1 D.i1z];exact eb
  have j2:ItB d h2' i2 b (i+1):=o4.to λob eb=>by rw[sb.2 i2 D.i2z];exact eb
  have jI:IsPair h2' TI (.ref i1) (.ref i2):=by
   show h2'.get? TI=_
   rw[sb.2 TI D.TIz]
   exact kp TI _ D.TIz D.TITO D.TIi1 D.TIi2 hI
  have jO:IsPair h2' TO u' v':=by
   show h2'.get? TO=_
   rw[sb.2 TO D.TOz]
   exact o2
  have tp:h2'.get? s.heap.objs.size=some { cls :=.type "tuple",data :=.seq #[u',v'] }:=by rw[sb.2 _ (yn ez)];exact o5
  refine ⟨.ref s.heap.objs.size,upd H s.heap.objs.size (.tup [u,v]),I.fe (ch:=[z,TI,TO,i1,i2]) f kp2 (λe he =>?_) (wm _) ?_,rfl,⟨s.heap.objs.size,u,v,I.hok.fresh (wm _),rfl,rfl,λzs hy =>?_,λzs hy =>?_⟩,⟨e2,jI,⟨_,_,jO⟩,j1,j2⟩,λe he =>?_⟩
  ·have he':e=z\/e=TI\/e=TO\/e=i1\/e=i2:=by simpa using he
   rcases he' with q | q | q | q | q
   ·rw[q];exact ⟨_,e2⟩
   ·rw[q];exact ⟨_,jI⟩
   ·rw[q];exact ⟨_,jO⟩
   ·rw[q];obtain ⟨o,ho,_⟩:=j1.obj;exact ⟨o,ho⟩
   ·rw[q];obtain ⟨o,ho,_⟩:=j2.obj;exact ⟨o,ho⟩
  ·refine ⟨(by show 2<=wa;decide),[u',v'],.cons ru (.cons rv .nil),_,tp,⟨rfl,rfl⟩,_,rfl⟩
  ·rw[SqB.inj I hy ha];exact hu
  ·rw[SqB.inj I hy hb];exact hv
  ·rw[ax (lt e he)];exact (f e he).1
 done:=λX eP eW eK hcalm i pins s σ H E I f ⟨hz,hI,⟨x,y,hO⟩,h1,h2⟩ stop=>by
  subst eP eW eK
  obtain ⟨xs,ys,ha,hb,hl⟩:=stop
  obtain ⟨its,r,pl⟩:=SqB.row I ha
  obtain ⟨jts,r',pl'⟩:=SqB.row I hb
  have l:=r.length
  have l':=r'.length
  refine gN (I.ok.hd hcalm) D hz hI hO h1 h2 pl pl' (hl.imp (λ_=>by rw[xf];exact yd.mpr (by omega)) (λ_=>by rw[xf];exact yd.mpr (by omega))) λh' ex=>⟨rfl,?_⟩
  exact I.oM (ch:=[z,TI,TO,i1,i2]) (h':=h') (t':=s.toks) f λe o he eb=>ex e o (λq=>he (by simp[q])) (λq=>he (by simp[q])) (λq=>he (by simp[q])) (λq=>he (by simp[q])) eb
 self:=λA i s Q E ⟨hz,_⟩ q=>wpAny_pyIter_zip hz q
def vL (K:v5)(c d:Bool)(ta:TA):TI:=λσ H R=>ta σ H λvs H1=>∃a b,vs=[.ref a,.ref b]/\(∃xs,SqB K c H1 a xs)/\(∃ys,SqB K d H1 b ys)/\R (ItZ K c d a b) H1
theorem sd {X:Cx}(c d:Bool){a b:Expr}{ta:TA}{p pos pos':Pos}{elts:List Expr}{k:Nat}(hg:Gl X "zip")(hm:X.mg "zip" = none)(ha:PA X [a,b] ta)(hs:wX [a,b] X.env=[(false,eval a X.env),(false,eval b X.env)]:=by rfl)(hs2:wX [b] X.env=[(false,eval b X.env)]:=by rfl) :
  PI X (.Tuple elts k pos') (.Call (.Name "zip" p) [a,b] [] pos) (vL X.K c d ta):=by
 intro pins s σ H R I h
 refine Call_ (eZ I hg hm boot_zip (xG (thn (ha pos pins s σ H _ I h) λus s1 ⟨vs,H1,I1,r1,q1⟩ =>?_) (by rw[hs,hs2]) (by rw[hs2];rfl)))
 obtain ⟨l1,l2,e,⟨xs,hx⟩,⟨ys,hy⟩,q⟩:=q1
 subst e
 cases r1 with
 | cons r rr =>
  cases rr with
  | cons r' rr =>
   cases rr
   cases r
   cases r'
   have fp:∀b∈[s1.heap.objs.size+4,s1.heap.objs.size+2,s1.heap.objs.size+3,s1.heap.objs.size,s1.heap.objs.size+1],fD X pins H1 b:=λb hb=>by
    have ge:s1.heap.objs.size<=b:=by
     simp at hb
     omega
    exact I1.mq ge (I1.hok.fresh ge)
   obtain ⟨its,rv,pl⟩:=SqB.row I1 hx
   obtain ⟨jts,rv',pl'⟩:=SqB.row I1 hy
   have D:=uQ _ _ _ pl.lt pl'.lt
   refine oP pl pl' λh' hz hI hO h1 h2 kp =>?_
   have T:=oQ (P:=X.prog) (w:=X.w) (K:=X.K) (elts:=elts) (k:=k) (pos:=pos') c d l1 l2 _ _ _ _ _ D
   refine T.self _ 0 _ _ _ ⟨hz,hI,⟨_,_,hO⟩,h1,h2⟩ ?_
   exact ⟨_,_,_,_,H1,rfl,I1.kept (t':=s1.toks) kp,T,⟨hz,hI,⟨_,_,hO⟩,h1,h2⟩,fp,q⟩
theorem vM {K:v5}{c d:Bool}{a b:Addr}{xs ys:List V}{k l:Nat}{tc:TT}{te:TE}{τ:St}{H:Hp}{Q:VK}(n:Nat)(n1:n<=xs.length)(n2:n<=ys.length)(n3:n=xs.length\/n=ys.length)(Pv:Nat->List V->Hp->Prop)(hkl:k≠l)(h0:Pv 0 [] H)(hz:n<=wa)
  (hl:∀i zs H,i<=n->Pv i zs H->SqB K c H a xs/\SqB K d H b ys)
  (hs:∀i x y zs H T,xs[i]? = some x->ys[i]? = some y->zs.length<=i->H T=none->Pv i zs H->vE k l tc te τ Pv i x y zs (upd H T (.tup [x,y])))
  (hd:∀zs H,zs.length<=n->Pv n zs H->∀r,H r=none->Q (.ref r) (upd H r (.lst zs))):ig (ItZ K c d a b) (t7 K k l) tc te τ Q H:=by
 refine ⟨λi m σ zs H=>m=n-i/\i<=n/\(∀a b,(σ.set k (some a)).set l (some b)=(τ.set k (some a)).set l (some b))/\zs.length<=i/\Pv i zs H,⟨n,by simp,xj _,λ_ _=>rfl,wm _,h0⟩,?_⟩
 rintro i m σ zs H ⟨rfl,hi,hτ,hy,pv⟩
 obtain ⟨q1,q2⟩:=hl i zs H hi pv
 by_cases hlt:i<n
 ·refine .inr ⟨⟨xs,ys,xs[i]'(by omega),ys[i]'(by omega),q1,q2,by simp[show i<xs.length by omega],by simp[show i<ys.length by omega]⟩,λx H' y =>?_⟩
  obtain ⟨T,u,v,hT,ex,eH,hu,hv⟩:=y
  subst ex eH
  refine ⟨T,_,rfl,SqT.of ae,rfl,_,_,rfl,_,_,rfl,rfl,?_⟩
  rw[hτ]
  have hσ:∀a b,((((τ.set k (some u)).set l (some v)).set k (some a)).set l (some b))=(τ.set k (some a)).set l (some b):=λa b=>by
   rw[List.set_comm _ _ (yn hkl),zI,zI]
  refine hs i u v zs _ T (hu xs q1) (hv ys q2) hy hT pv _ _ (λy4 H4 p4=>⟨by omega,n-(i+1),by omega,rfl,hlt,hσ,by rw[wc,wj];omega,p4⟩) λH3 p3=>⟨n-(i+1),by omega,rfl,hlt,hσ,by omega,p3⟩
 ·have e:i=n:=by omega
  subst e
  exact .inl ⟨⟨xs,ys,q1,q2,n3.elim (λz =>.inl (by omega)) (λz =>.inr (by omega))⟩,by omega,hd zs H hy pv⟩
open PySem PySem.Spec PyProof.Rows
section
variable  {X:Cx}
theorem se {K:v5}{tg l:Expr}{tl:TE}(hl:PE X l tl)(h:X.K=K:=by rfl):PI X tg l (vp K tl):=by subst h;exact pX hl
end
end L2
namespace L2.RvT
open PySem PyProof.Rows
open Sem (wp)
theorem oR:Slot "reversed" "__init__" "object.__init__" :=
 .of (owner := "object") (n := "__init__") (by rw[typeLookup_type,builtinLookup_eq_fast];kernel_rfl) (by decide +kernel) (by decide +kernel) (by decide +kernel)
  (by first | exact .inl (by decide +kernel) | exact .inr (by decide +kernel)) (by rw[isSubtype_type];kernel_rfl)
theorem called:TypeCalled "reversed" "reversed.__new__" "object.__init__" :=
 ⟨by decide +kernel,by decide +kernel,⟨_,_,AA⟩,madeBy_type AA PySem.F.lookup_reversed_new (by decide +kernel),by decide +kernel,by rw[isSubtype_type];kernel_rfl,oR⟩
section
variable  {prog:wx}{w:wZ}{A:xh}{E:v8->v9->Prop}{s:v9}
end
section
variable  {prog:wx}{w:wZ}{A:xh}{E:v8->v9->Prop}{s:v9}
end
end L2.RvT
namespace L2
open PySem PySem.Spec PyProof.Rows
section
variable  {X:Cx}
theorem op_eqLI {k:Nat}(hr:bE k X.A):OpR X (xn .Eq) (λx y H Q=>∃(a b:Addr) (ns ms:List Int),x = .ref a/\y = .ref b/\SqL X.K H a (ns.map V.int)/\SqL X.K H b (ms.map V.int)/\Q (.bl (decide (ns=ms))) H):=by
 intro pins s σ H x y v u Q I rx ry h
 obtain ⟨a,b,ns,ms,rfl,rfl,h1,h2,q⟩:=h
 cases (show v=wO a from rx)
 cases (show u=wO b from ry)
 obtain ⟨its,r1,⟨⟨c1,d1,da1,sl1⟩,n1,e1,k1,_,k3⟩,_⟩:=I.list h1
 obtain ⟨its2,r2,⟨⟨c2,d2,da2,sl2⟩,n2,e2,g1,_,g3⟩,_⟩:=I.list h2
 simp only at k1 k3 g1 g3
 subst k1 k3 g1 g3
 have l1:=r1.length
 have l2:=r2.length
 rw[vZ] at l1 l2
 have hu:=hr.un
 have hu1:X.A.units<cLine:=by omega
 by_cases hl:ns.length=ms.length
 ·refine xC (op :=.Eq) ⟨_,e1,rfl⟩ ⟨_,e2,rfl⟩ AE As (Ac _ _) (SeqAt.list_eqAt a b its.toArray its2.toArray n1 n2 d1 d2 sl1 sl2 (by rw[wg,wg];omega) (uP ns ms)) ⟨e1,e2,?_,?_⟩ hu1
  ·intro j h1 h2
   obtain ⟨t1,g1⟩:=intAt r1 h1
   obtain ⟨t2,g2⟩:=intAt r2 h2
   rw[g1,g2]
   exact xZ _ t1 _ t2
  ·have ez:its.toArray.size=ns.length:=by rw[wg];omega
   rw[ez,qj hl]
   exact ⟨(λz=>nomatch z),⟨.bl _,H,I,rfl,q⟩⟩
 ·have ne:ns≠ms:=λz=>hl (by rw[z])
  rw[decide_eq_false ne] at q
  refine xC (op :=.Eq) ⟨_,e1,rfl⟩ ⟨_,e2,rfl⟩ AE As (Ac _ _) (zY a b its.toArray its2.toArray n1 n2 d1 d2 sl1 sl2 (by simp;omega)) ⟨e1,e2,?_⟩ hu1
  exact ⟨(λz=>nomatch z),⟨.bl false,H,I,rfl,q⟩⟩
theorem uR {k:Nat}(hr:bE k X.A):OpR X (xn .Eq) (λx y H Q=>∃a b xs ys,x = .ref a/\y = .ref b/\SqL X.K H a xs/\SqL X.K H b ys/\((xs.length≠ys.length/\Q (.bl false) H)\/(Paired (dy X.K H 20) xs ys/\Q (.bl true) H))):=by
 intro pins s σ H x y v u Q I rx ry h
 obtain ⟨a,b,xs,ys,rfl,rfl,h1,h2,h3⟩:=h
 rcases h3 with ⟨ne,q⟩ | ⟨p,q⟩
 ·cases (show v=wO a from rx)
  cases (show u=wO b from ry)
  obtain ⟨its,r1,⟨⟨c1,d1,da1,sl1⟩,n1,e1,k1,_,k3⟩,_⟩:=I.list h1
  obtain ⟨its2,r2,⟨⟨c2,d2,da2,sl2⟩,n2,e2,g1,_,g3⟩,_⟩:=I.list h2
  simp only at k1 k3 g1 g3
  subst k1 k3 g1 g3
  have l1:=r1.length
  have l2:=r2.length
  have hu:=hr.un
  have hu1:X.A.units<cLine:=by omega
  refine xC (op :=.Eq) ⟨_,e1,rfl⟩ ⟨_,e2,rfl⟩ AE As (Ac _ _) (zY a b its.toArray its2.toArray n1 n2 d1 d2 sl1 sl2 (by simp;omega)) ⟨e1,e2,?_⟩ hu1
  exact ⟨(λz=>nomatch z),⟨.bl false,H,I,rfl,q⟩⟩
 ·exact r9 hr pins s σ H _ _ v u Q I rx ry ⟨a,b,xs,ys,rfl,rfl,h1,h2,p,q⟩
end
open PySem PySem.Spec PySem.W PyProof.Rows
theorem bx.ex {P:wx}{w:wZ}{H:Hp}{h:Heap}{a:Addr}{o:HO}(x:bx P w H h a o):∃u,h.get? a=some u:=by
 cases o with
 | lst xs=>obtain ⟨_,_,_,_,e⟩:=x;exact ⟨_,e⟩
 | tup xs=>obtain ⟨_,_,_,_,e,_⟩:=x;exact ⟨_,e⟩
 | dK kvs=>obtain ⟨_,_,_,_,o,_,_,e,_⟩:=x;exact ⟨_,e⟩
 | dT kvs=>obtain ⟨_,_,_,_,o,_,_,e,_⟩:=x;exact ⟨_,e⟩
 | set S n=>obtain ⟨o,_,_,_,e,_⟩:=x;exact ⟨_,e⟩
 | ins C dx fs=>obtain ⟨_,_,_,e,_⟩:=x;exact ⟨_,e⟩
 | own y=>obtain ⟨_,e⟩:=x;exact ⟨_,e⟩
 | xd fs=>obtain ⟨_,⟨_,_,_,e,_⟩,_⟩:=x;exact ⟨_,e⟩
 | rng lo hi=>obtain ⟨_,_,_,e⟩:=x;exact ⟨_,e⟩
 | frz ob u=>obtain ⟨e,_⟩:=x;exact ⟨_,e⟩
 | tbl ps=>obtain ⟨_,e,_⟩:=x;exact ⟨_,e⟩
 | met f y=>exact ⟨_,show h.get? a=some _ from x⟩
 | ext φ=>obtain ⟨_,⟨_,e⟩,_⟩:=x;exact ⟨_,e⟩
theorem HOk.noth {P:wx}{w:wZ}{H:Hp}{h:Heap}{a:Addr}(x:HOk P w H h)(e:h.get? a=none):H a=none:=by
 cases q:H a with
 | none=>rfl
 | some o =>
  obtain ⟨u,z⟩:=(x a o q).ex
  rw[e] at z;cases z
theorem HOk.hide {P:wx}{w:wZ}{H:Hp}{h:Heap}{l:List Addr}(x:HOk P w H h)(n:∀b∈l,H b=none):HOk P w H (hideAll h l):=λa o e =>
 (x a o e).eR (λb u hb q=>Ab _ q λm=>by
  have z:=n b m
  rcases hb with rfl | hb
  ·rw[e] at z;cases z
  ·rw[hb] at z;cases z) (λ_ q=>q) λ_ _ q=>q
structure Fly (P:wx)(w:wZ)(outer:List Env)(H H':Hp)(h:Heap)(B:Heap)(ea:Addr)(cls a0:v8)(h':Heap):Prop where
 fl:Heap.FlyingW B outer ea cls a0 h'
 un:Un (frs outer) [] H H' h h'
 ok:HOk P w H' B
 cov:∀b o,h.get? b=some o->H b=none->b∉frs outer->B.get? b=some o
 all:∀b o,h.get? b=some o->b∉frs outer->∃u,B.get? b=some u
section
variable  {P:wx}{w:wZ}{outer:List Env}{H H':Hp}{h B h' h2:Heap}{ea:Addr}{cls a0:v8}
theorem Fly.no (F:Fly P w outer H H' h B ea cls a0 h'):H' ea=none:=F.ok.noth F.fl.2.1
theorem Fly.hok (F:Fly P w outer H H' h B ea cls a0 h'):HOk P w H' h':=F.ok.kept F.fl.1
theorem Fly.new (F:Fly P w outer H H' h B ea cls a0 h'):h.get? ea=none:=by
 cases q:h.get? ea with
 | none=>rfl
 | some o =>
  by_cases m:ea∈frs outer
  ·obtain ⟨_,o',ho',hd⟩:=F.fl.2.2.1.mem m
   obtain ⟨oe,vs,he,_,hde,_⟩:=F.fl.first
   rw[he] at ho';cases ho'
   exact absurd hde (hd vs)
  ·obtain ⟨u,z⟩:=F.all ea o q m
   rw[F.fl.2.1] at z;cases z
theorem Fly.step {l:List Env}(F:Fly P w outer H H' h B ea cls a0 h')(f2:Heap.FlyingW B l ea cls a0 h2)(hs:∀b∈frs outer,∀o,h'.get? b=some o->∃sl,h2.get? b=some { o with slots:=sl }):Un (frs outer) [] H H' h h2 where
 keep:=λb o q n m _=>f2.1 _ _ (F.cov b o q n m)
 slot:=λb o q n m x=>by
  obtain ⟨sl,e⟩:=F.un.slot b o q n m x
  obtain ⟨sl',e'⟩:=hs b m _ e
  exact ⟨sl',e'⟩
 free:=F.un.free
 there:=λb o q x=>by
  by_cases m:b∈frs outer
  ·obtain ⟨o',e⟩:=F.un.there b o q x
   obtain ⟨sl',e'⟩:=hs b m _ e
   exact ⟨_,e'⟩
  ·obtain ⟨u,e⟩:=F.all b o q m
   exact ⟨u,f2.1 _ _ e⟩
 tups:=F.un.tups
 frzs:=F.un.frzs
 tbls:=F.un.tbls
theorem Fly.slots (F:Fly P w outer H H' h B ea cls a0 h')(k:h'.UpToSlots h2):∀b∈frs outer,∀o,h'.get? b=some o->∃sl,h2.get? b=some { o with slots:=sl }:=λb m o e=>by
 obtain ⟨_,o',ho',hd⟩:=F.fl.2.2.1.mem m
 rw[e] at ho';cases ho'
 exact k b o e hd
theorem Fly.on (F:Fly P w outer H H' h B ea cls a0 h')(f2:Heap.FlyingW B outer ea cls a0 h2)(k:h'.UpToSlots h2):Fly P w outer H H' h B ea cls a0 h2 :=
 ⟨f2,F.step f2 (F.slots k),F.ok,F.cov,F.all⟩
end
section
variable  {X:Cx}{pins:List (Addr×Obj)}{σ:St}{H H':Hp}{s:v9}{B h':Heap}{ea:Addr}{cls a0:v8}
theorem Inv.land {s':v9}(I:Inv X pins σ H s)(os:s'.os=s.os)(g:AllBare s'.gens)(F:Fly X.prog X.w X.stack H H' s.heap B ea cls a0 s'.heap):Inv X pins σ H' s' :=
 I.tV os F.un F.hok g (λb z=>absurd z (by simp))
theorem Fly.out (I:Inv X pins σ H s)(hst:X.stack=X.env :: X.outer)(hfr:X.env.frame=some X.env.locals)(hex:X.ex=[])(F:Fly X.prog X.w X.stack H H' s.heap B ea cls a0 h')(f2:Heap.FlyingW B X.outer ea cls a0 h2)(k:h'.UpToSlots h2) :
  Fly X.prog X.w X.outer X.H₀ H' X.s₀.heap B ea cls a0 h2:=by
 have nL:∀b o,X.s₀.heap.get? b=some o->b≠X.env.locals:=λb o q z=>absurd (wB (wq q) (z ▸ I.ok.above)) (xp _)
 have nst:∀b,b∉X.fs->b≠X.env.locals->b∉frs X.stack:=λb n1 n2 m=>by
  rw[hst] at m
  unfold frs at m
  rw[xJ,hfr] at m
  rcases wH.mp m with z | z
  ·exact n2 z
  ·exact n1 z
 have ust:=F.step f2 (F.slots k)
 have sub:∀b∈X.fs,b∈frs X.stack:=λb m=>by
  rw[hst];unfold frs;rw[xJ,hfr];exact wD _ m
 have nx:∀b,b∉X.ex:=λb m=>by rw[hex] at m;cases m
 refine ⟨f2,⟨λb o q n m _ =>?_,λb o q n m _ =>?_,λb o q n _ =>?_,λb o q _ =>?_,λb xs q=>F.un.tups b xs (I.base.tups b xs q),λb o u q=>F.un.frzs b o u (I.base.frzs b o u q),λb ps q =>?_⟩,F.ok,λb o q n m =>?_,λb o q m =>?_⟩
 ·exact ust.keep b o (I.base.keep b o q n m (nx b)) (I.base.free b o q n (nx b)) (nst b m (nL b o q)) (by simp)
 ·obtain ⟨sl,e⟩:=I.base.slot b o q n m (nx b)
  obtain ⟨sl',e'⟩:=ust.slot b _ e (I.base.free b o q n (nx b)) (sub b m) (by simp)
  exact ⟨sl',e'⟩
 ·obtain ⟨o',e⟩:=I.base.there b o q (nx b)
  exact F.un.free b o' e (I.base.free b o q n (nx b)) (by simp)
 ·obtain ⟨o',e⟩:=I.base.there b o q (nx b)
  exact ust.there b o' e (by simp)
 ·obtain ⟨m1,e1⟩:=I.base.tbls b ps q
  obtain ⟨m2,e2⟩:=F.un.tbls b _ e1
  exact ⟨m1++m2,by rw[e2,zG]⟩
 ·exact F.cov b o (I.base.keep b o q n m (nx b)) (I.base.free b o q n (nx b)) (nst b m (nL b o q))
 ·obtain ⟨o',e⟩:=I.base.there b o q (nx b)
  exact F.all b o' e (nst b m (nL b o q))
theorem Fly.pass {M:Model}{E:v8->v9->Prop}{Q:Unit->v9->Prop}{s':v9}(I:Inv X pins σ H s)(hst:X.stack=X.env :: X.outer)(hfr:X.env.frame=some X.env.locals)(hex:X.ex=[])
  (F:Fly X.prog X.w X.stack H H' s.heap B ea cls a0 s'.heap) (hQ:∀h2,Fly X.prog X.w X.outer X.H₀ H' X.s₀.heap B ea cls a0 h2->Q () { s' with heap:=h2 }):wL M X.A (leaving X.env (.ref ea)) Q E s':=by
 have fl:=F.fl
 rw[hst] at fl
 exact wpAny_leaves_onW (by rw[I.ok.frames,hst]) hfr fl λh2 f2 k=>hQ h2 (Fly.out I hst hfr hex F f2 k)
end
open PySem PySem.Spec PySem.W PyProof.Rows
section
variable  {P:wx}{w:wZ}{K:v5}{mg:Str->Option v8}{base:Heap}{N:List Str}{qual:Str}{sc:Scope}{f:Addr}{cdv:v8}{A:xh}{outer:List Env}{s₀:v9}{H₀:Hp}{E:XK}
end
abbrev jD:List v8:=[.type "ValueError",.type "Exception",.type "BaseException",.type "object"]
open PySem PySem.Spec PySem.W PyProof.Rows
abbrev Cx.mark (X:Cx)(ea:Addr):Cx:={ X with A:=X.A.mark (some (.ref ea)),calm:=false,xe:=λ_ _=>False }
section
variable  {X:Cx}{pins:List (Addr×Obj)}{σ:St}{H H':Hp}{s s':v9}{B h':Heap}{ea:Addr}{cls a0:v8}
theorem Inv.mark (I:Inv X pins σ H s)(ea:Addr):Inv (X.mark ea) pins σ H s :=
 ⟨⟨I.ok.mod,I.ok.kind,I.ok.glob,I.ok.blt,I.ok.above,I.ok.inj,I.ok.has,I.ok.cab,(λz=>Bool.noConfusion z),I.ok.frames,I.ok.stk,I.ok.exf,I.ok.bs,I.ok.bsz,I.ok.noex,I.ok.exfs,I.ok.funs,I.ok.frf⟩,I.os,I.bare,I.base,I.loc,I.cell,I.free,I.freeC,I.pin,I.hok,I.len⟩
theorem Inv.unmark (ok:X.Ok)(I:Inv (X.mark ea) pins σ H s):Inv X pins σ H s:=⟨ok,I.os,I.bare,I.base,I.loc,I.cell,I.free,I.freeC,I.pin,I.hok,I.len⟩
theorem Inv.gone {i:Nat}{x:Str}{m:Str->Option v8}{v:Option v8}{tk:Nat}(I:Inv X pins σ H s)(hN:X.N.Nodup)(hi:X.N[i]? = some x)(hn:s.heap.Ns X.env.locals m)(hl:∀(j:Nat) (y:Str) (v:V),X.N[j]? = some y->σ[j]? = some (some v)->Vis X.env.scope y->∃u,RelV v u/\Look X.env s.heap m y u)
  (hn':h'.Ns X.env.locals (λy=>if y=x then v else m y)) (hs:Heap.SameBut X.env.locals s.heap h'):Inv X pins (σ.set i none) H { s with heap:=h',toks:=tk }:=by
 obtain ⟨oL,_,_,hoL,_⟩:=id hn
 have cne:=I.cne
 have lt:∀b o,X.s₀.heap.get? b=some o->b≠X.env.locals:=λb o e=>wU (wB (wq e) I.ok.above)
 refine ⟨I.ok,I.os,I.bare,⟨λb o e n hb hx =>?_,λb o e n hb hx =>?_,I.base.free,λb o e hx =>?_,I.base.tups,I.base.frzs,I.base.tbls⟩,⟨_,hn',λj y v' e1 e2 e3 =>?_⟩,λy c e =>?_,I.free,I.freeC,λp hp =>?_,λb ob e =>?_,by simpa using I.len⟩
 ·exact (hs.2 b (lt b o e)).trans (I.base.keep b o e n hb hx)
 ·obtain ⟨sl,e1⟩:=I.base.slot b o e n hb hx
  exact ⟨sl,(hs.2 b (lt b o e)).trans e1⟩
 ·obtain ⟨o',e1⟩:=I.base.there b o e hx
  exact ⟨o',(hs.2 b (lt b o e)).trans e1⟩
 ·by_cases hj:j=i
  ·subst hj
   have:j<σ.length:=by rw[I.len];exact (wF.mp hi).1
   rw[yV this] at e2
   cases e2
  ·rw[ze (yn hj)] at e2
   obtain ⟨u',r',q⟩:=hl j y v' e1 e2 e3
   refine ⟨u',r',?_⟩
   rcases q with ⟨k,e⟩ | ⟨k,c,e,z⟩
   ·have:y≠x:=λe=>hj (hG hN e1 (e ▸ hi))
    exact .inl ⟨k,by simp[this,e]⟩
   ·exact .inr ⟨k,c,e,z.sameBut hs (cne y c e)⟩
 ·obtain ⟨w',z⟩:=I.cell y c e
  exact ⟨w',z.sameBut hs (cne y c e)⟩
 ·obtain ⟨e,n,ne,nf,d⟩:=I.pin p hp
  exact ⟨(hs.2 p.1 ne).trans e,n,ne,nf,d⟩
 ·have fr:=I.free
  refine (I.hok b ob e).eR (λc w' hc q=>(hs.2 c ?_).trans q) (λ_ q=>q) λ_ _ q=>q
  rintro rfl
  rcases hc with rfl | hc
  ·rw[fr] at e;cases e
  ·rw[fr] at hc;cases hc
end
abbrev EXt:=v8->St->Hp->Prop
def XP (X:Cx)(pins:List (Addr×Obj))(EX:EXt)(e:v8)(s':v9):Prop :=
 ∃σ H s ea cls a0 B H',Inv X pins σ H s/\e = .ref ea/\s'.os=s.os/\AllBare s'.gens/\Fly X.prog X.w X.stack H H' s.heap B ea cls a0 s'.heap/\EX cls σ H'
section
variable  {X:Cx}{pos:Pos}
end
open PySem PySem.Spec PySem.W PyProof.Rows
structure ExI (K:v5)(C:Addr):Prop where
 ga:findIn K (.ref C) "__getattribute__" = some (some (.builtin "BaseException.__getattribute__"))
 gt:findIn K (.ref C) "__getattr__" = some none
 cl:findIn K (.ref C) "__class__" = some (some (.builtin "object.__class__"))
 mo:subIn K (.ref C) (.type "object")=some true
 sb:subIn K (.ref C) (.type "BaseException")=some true
 it:(clsIn K C).isSome=true
section
variable  {K:v5}{prog:wx}{w:wZ}{A:xh}{E:v8->v9->Prop}{h:Heap}{g:Array GenState}{d:Drawn}{t:Nat}{os:OsState}{a C:Addr}{o:Obj}
theorem uS {R:Result->v9->Prop}(X:K.In h)(Z:ExI K C)(hx:h.get? a=some o)(hc:o.cls = .ref C)(hq:R (.ok (.ret (.ref C))) ⟨h,g,d,t,os⟩) :
  A5 (wV prog w) A (.call (.builtin "getset_descriptor.__get__") ⟨[.builtin "object.__class__",.ref a,.ref C],[]⟩) R ⟨h,g,d,t,os⟩:=by
 have hT5:(⟨h,g,d,t,os⟩:v9).TypeIs (.builtin "object.__class__") "getset_descriptor" := zb
 have L1:Looks (wV prog w) h (isSubtype (.ref C) (.type (".".intercalate ("object.__class__".cutAt '.').dropLast))) true:=by rw[F.owner_object_class];exact AK X Z.mo
 refine yg AO.plain F.entry_gs_get (AO.check _ _ _ _ _ _ _ _ hT5 (F.args_gs_get _ _ _) ?_)
 repeat (any_goals (first | assumption | (with_reducible refine w4 hx ?_;rw[hc]) | with_reducible refine L1.at ?_ | wp_step))
 refine ⟨zK _ (by decide +kernel),codeAny_builtin F.entry_object_class ?_⟩
 unfold Builtin.«object.__class__»
 repeat (any_goals (first | assumption | (with_reducible refine w4 hx ?_;rw[hc]) | wp_step))
theorem qs {tk:Tok}{Q:Fin->v9->Prop}(X:K.In h)(Z:ExI K C)(hx:h.get? a=some o)(hc:o.cls = .ref C)(hq:Q (.done (.ret (.ref C))) ⟨h,g,d,t,os⟩) :
  wL (wV prog w) A (Builtin.«object.__getattribute__» ⟨[.ref a,.str "__class__" tk],[]⟩) Q E ⟨h,g,d,t,os⟩:=by
 have hT5:(⟨h,g,d,t,os⟩:v9).TypeIs (.builtin "object.__class__") "getset_descriptor" := zb
 have f5:=zb
 have f6:=AO.lookup
 have f7:=F.slot_gs_set.lookup
 have L1:=yj (M:=wV prog w) X Z.cl
 repeat (any_goals (first | assumption | (with_reducible refine w4 hx ?_;rw[hc]) | with_reducible refine L1.at ?_ | wp_step))
 refine uS X Z hx hc ?_
 repeat (any_goals (first | assumption | wp_step))
theorem kZ {M:Model}{nv:v8}{Q:Unit->v9->Prop}(X:K.In h)(Z:ExI K C)(hx:h.get? a=some o)(hc:o.cls = .ref C)(hq:Q () ⟨h,g,d,t,os⟩):wL M A (checkBuiltinCall "BaseException.__getattribute__" ⟨[.ref a,nv],[]⟩) Q E ⟨h,g,d,t,os⟩:=by
 have k1:builtinKind "BaseException.__getattribute__" = some .slot:=by decide +kernel
 have k2:splitId "BaseException.__getattribute__" = some ("BaseException", "__getattribute__"):=by decide +kernel
 have L1:=AK (M:=M) X Z.sb
 have k3:=F.args_bexc_ga (.ref a) nv
 simp only[checkBuiltinCall,k1,k2]
 refine wb ?_
 unfold isInstance
 repeat (first | (with_reducible refine w4 hx ?_;rw[hc]) | with_reducible refine L1.at ?_ | wp_step)
 exact hq
theorem sf {Q:Option v8->v9->Prop}(X:K.In h)(Z:ExI K C)(hx:h.get? a=some o)(hc:o.cls = .ref C)(hq:Q (some (.ref C)) ⟨h,g,d,t+1,os⟩) :
  wL (wV prog w) A (getAttr? (.ref a) "__class__") Q E ⟨h,g,d,t,os⟩:=by
 have f3:=(yq).ga.bind (.ref a)
 have y2:(Value.builtin "BaseException.__getattribute__" == Value.builtin "object.__getattribute__")=false:=by decide +kernel
 have y1:(onTheHeap (wO C) && Value.builtin "BaseException.__getattribute__" == Value.builtin "object.__getattribute__")=false:=by rw[y2];rfl
 have L1:=yj (M:=wV prog w) X Z.ga
 have L2:=yj (M:=wV prog w) X Z.gt
 unfold getAttr? getAttrBy?
 repeat (any_goals (first | assumption | (with_reducible refine w4 hx ?_;rw[hc]) | with_reducible refine L1.at ?_ | with_reducible refine L2.at ?_ | wp_step))
 refine yg (yq).ga.plain Bn (kZ X Z hx hc (qs X Z hx hc ?_))
 repeat (any_goals (first | assumption | wp_step))
end
open PySem PySem.Spec PySem.W PyProof.Rows
theorem k7 {K:v5}{a C:Addr}(Z:ExI K C):KitX K (.ref a) (.ref C) (λh=>∃o,h.get? a=some o/\o.cls = .ref C) where
 ty:=λM h _ p=>by
  obtain ⟨o,h1,h2⟩:=p
  exact h2 ▸ (Looks.ld h1).andThen .now
 it:=λ_ _ X _=>by
  have z:=Z.it
  unfold clsIn at z
  split at z
  ·rename_i c' d' cd' sl' ho
   intro A' Q' E' s' k q
   unfold isType loadHead
   exact wb (wpAny_loadPart (k _ _ (X _ _ ho)) (wQ q))
  ·cases z
 ne:=λh tp dd its n sl X htp=>by
  have z:=Z.it
  refine yz.mpr λq =>?_
  have e:C=tp:=Value.ref.inj (beq_iff_eq.mp q)
  subst e
  unfold clsIn at z
  split at z
  ·rename_i c' d' cd' sl' ho
   have y:=(X _ _ ho).symm.trans htp
   cases y
  ·cases z
 ca:=λ{_ _ _ _ _ s} X p k=>by
  obtain ⟨h,g,d,t,os⟩:=s
  obtain ⟨o,h1,h2⟩:=p
  exact sf X Z h1 h2 k
def sh:V->v8
 | .ref a =>.ref a
 | .ty n =>.type n
 | _ =>.none
def jE:V->Bool
 | .ref _=>true
 | .ty _=>true
 | _=>false
theorem nD {x:V}{u:v8}(h:jE x=true)(r:RelV x u):u=sh x:=by
 cases x <;> first | exact r | cases h
section
variable  {X:Cx}
theorem k8:∀{cs:List V} {us:List v8},(∀c∈cs,jE c=true)->Vals cs us->us=cs.map sh
 | _,_,_,.nil=>rfl
 | _,_,h,.cons r t=>by rw[xM, <- nD (h _ wN) r, <- k8 (λc hc=>h c (wD _ hc)) t]
end
open PySem PySem.Spec PySem.W PyProof.Rows
def Keeps {α:Type}:Sem α -> Prop
 | .pure _=>True
 | .raise _=>True
 | .unsupported _=>True
 | .finish _=>True
 | .rule _ k=>Keeps (k ())
 | .at _ k=>Keeps (k ())
 | .load _ _ k=>∀o,Keeps (k o)
 | .update _ _ f k=>(∀o:Obj,(f o).cls=o.cls/\(f o).dict=o.dict/\(f o).isFreed=o.isFreed)/\Keeps (k ())
 | .alloc _ k=>∀a,Keeps (k a)
 | .loadIfAlive _ k=>∀o,Keeps (k o)
 | .point _ k=>Keeps (k ())
 | .register _ _=>True
 | .fresh k=>∀t,Keeps (k t)
 | .ask k=>∀t,Keeps (k t)
 | .choose _ _ k=>∀t,Keeps (k t)
 | .os _ _ k=>∀t,Keeps (k t)
 | .call _ _ _ _ _=>False
 | .handled _ k=>∀t,Keeps (k t)
 | .newGen _ k=>∀t,Keeps (k t)
 | .genState _ k=>∀t,Keeps (k t)
 | .resume _ _ _ _=>False
 | .yield _ _ _ _=>True
 | .stack k=>∀t,Keeps (k t)
 | .fork _ _=>True
 | .thread k=>∀t,Keeps (k t)
 | .await _ _ _ _ _=>True
def Kd (h h':Heap):Prop:=∀b o,h.get? b=some o->∃o',h'.get? b=some o'/\o'.cls=o.cls/\o'.dict=o.dict
theorem Kd.refl (h:Heap):Kd h h:=λb o e=>⟨o,e,rfl,rfl⟩
theorem Kd.trans {h h1 h2:Heap}(a:Kd h h1)(b:Kd h1 h2):Kd h h2:=λc o e=>by
 obtain ⟨o1,e1,c1,d1⟩:=a c o e
 obtain ⟨o2,e2,c2,d2⟩:=b c o1 e1
 exact ⟨o2,e2,c2.trans c1,d2.trans d1⟩
theorem fK {h:Heap}{a:Addr}{o:Obj}(e:h.get? a=some o):o.isFreed=false:=by
 unfold Heap.get? at e
 split at e
 ·cases e
 ·rename_i n
  obtain ⟨c,d,x,s⟩:=o
  cases x <;> first | rfl | exact absurd e (n _ _ _)
theorem Kd.update {h:Heap}{a:Addr}{f:Obj->Obj}(hf:∀o:Obj,(f o).cls=o.cls/\(f o).dict=o.dict/\(f o).isFreed=o.isFreed):Kd h (h.update a f):=λb o e=>by
 by_cases c:a=b
 ·subst c
  exact ⟨f o,x6 f e ((hf o).2.2.trans (fK e)),(hf o).1,(hf o).2.1⟩
 ·exact ⟨o,by rw[yX _ _ c];exact e,rfl,rfl⟩
theorem Kd.push (h:Heap)(u:Obj):Kd h (h.push u):=λb o e=>⟨o,v7 _ e,rfl,rfl⟩
theorem qt {α:Type}{M:Model}{Γ:PySem.Ctx}{t:Sem α}{Q:α -> Pos->v9->Prop}{E:v8->Pos->v9->Prop}(K:Keeps t)(p:Pos)(s:v9)(h:Sem.wp M Γ t Q E p s) :
  Sem.wp M Γ t (λa p' s'=>Q a p' s'/\Kd s.heap s'.heap) (λe p' s'=>E e p' s'/\Kd s.heap s'.heap) p s:=by
 induction t generalizing p s with
 | pure x=>exact ⟨h,Kd.refl _⟩
 | raise v=>exact ⟨h,Kd.refl _⟩
 | unsupported _ | finish _ | yield _ _ _ _ | fork _ _ | await _ _ _ _ _ | register _ _=>exact h
 | rule _ k ih=>exact ih () K _ _ h
 | «at» _ k ih=>exact ih () K _ _ h
 | point _ k ih=>exact ih () K _ _ h
 | alloc u k ih =>
  refine Sem.wp_mono M Γ _ (λa p' s' x=>⟨x.1,(Kd.push _ u).trans x.2⟩) (λa p' s' x=>⟨x.1,(Kd.push _ u).trans x.2⟩) _ _ (ih _ (K _) _ _ h)
 | loadIfAlive _ k ih=>exact ih _ (K _) _ _ h
 | fresh k ih=>exact ih _ (K _) _ _ h
 | ask k ih=>exact ih _ (K _) _ _ h
 | os _ _ k ih=>exact ih _ (K _) _ _ h
 | handled _ k ih=>exact ih _ (K _) _ _ h
 | newGen _ k ih=>exact ih _ (K _) _ _ h
 | stack k ih=>exact ih _ (K _) _ _ h
 | thread k ih=>exact ih _ (K _) _ _ h
 | load a _ k ih =>
  obtain ⟨o,ho,h'⟩:=h
  exact ⟨o,ho,ih _ (K _) _ _ h'⟩
 | genState a k ih =>
  obtain ⟨o,ho,h'⟩:=h
  exact ⟨o,ho,ih _ (K _) _ _ h'⟩
 | update a _ f k ih =>
  obtain ⟨ho,h'⟩:=h
  exact ⟨ho,Sem.wp_mono M Γ _ (λa p' s' x=>⟨x.1,(Kd.update K.1).trans x.2⟩) (λa p' s' x=>⟨x.1,(Kd.update K.1).trans x.2⟩) _ _ (ih _ K.2 _ _ h')⟩
 | choose _ _ k ih =>
  obtain ⟨ho,h'⟩:=h
  exact ⟨ho,ih _ (K _) _ _ h'⟩
 | call c h' g l k ih=>exact K.elim
 | resume g r l k ih=>exact K.elim
theorem cv {α:Type}{M:Model}{A:xh}{t:Sem α}{Q:α -> v9->Prop}{E:v8->v9->Prop}{s:v9}(K:Keeps t)(h:wL M A t Q E s) :
  wL M A t (λa s'=>Q a s'/\Kd s.heap s'.heap) (λe s'=>E e s'/\Kd s.heap s'.heap) s:=λΓ p hΓ=>qt K p s (h Γ p hΓ)
theorem Keeps.bind {α β:Type}{m:Sem α}{f:α -> Sem β}(hm:Keeps m)(hf:∀a,Keeps (f a)):Keeps (m >>= f):=by
 show Keeps (Sem.bind m f)
 induction m with
 | pure x=>exact hf x
 | raise v=>exact hm
 | unsupported _ | finish _ | yield _ _ _ _ | fork _ _ | await _ _ _ _ _ | register _ _=>exact True.intro
 | rule _ k ih=>exact ih () hm
 | «at» _ k ih=>exact ih () hm
 | point _ k ih=>exact ih () hm
 | alloc u k ih=>exact λa=>ih a (hm a)
 | loadIfAlive _ k ih=>exact λa=>ih a (hm a)
 | fresh k ih=>exact λa=>ih a (hm a)
 | ask k ih=>exact λa=>ih a (hm a)
 | os _ _ k ih=>exact λa=>ih a (hm a)
 | handled _ k ih=>exact λa=>ih a (hm a)
 | newGen _ k ih=>exact λa=>ih a (hm a)
 | stack k ih=>exact λa=>ih a (hm a)
 | thread k ih=>exact λa=>ih a (hm a)
 | load a _ k ih=>exact λa=>ih a (hm a)
 | genState a k ih=>exact λa=>ih a (hm a)
 | update a _ f' k ih=>exact ⟨hm.1,ih () hm.2⟩
 | choose _ _ k ih=>exact λa=>ih a (hm a)
 | call c h' g l k ih=>exact hm.elim
 | resume g r l k ih=>exact hm.elim
theorem dZ (f:Array v8->Array v8)(o:Obj):(Obj.mapFields f o).cls=o.cls/\(Obj.mapFields f o).dict=o.dict/\(Obj.mapFields f o).isFreed=o.isFreed:=by
 obtain ⟨c,d,x,s⟩:=o
 cases x <;> exact ⟨rfl,rfl,rfl⟩
theorem ip (v:v8):Keeps (fieldsOf v):=by
 unfold fieldsOf
 cases v with
 | ref a =>
  refine Keeps.bind (m:=load a) (λ_=>True.intro) λo =>?_
  cases o.data <;> exact True.intro
 | _=>exact True.intro
theorem cT (v:v8)(i:Nat):Keeps (field v i):=by
 unfold field
 refine Keeps.bind (ip v) λvs =>?_
 split <;> exact True.intro
theorem fL (a:Addr)(i:Nat)(x:v8):Keeps (updateField a i x):=by
 unfold updateField
 refine Keeps.bind (m:=load a) (λ_=>True.intro) λo =>?_
 cases o.data with
 | fields vs =>
  show Keeps (if i<vs.size then update a (Obj.mapFields (·.setIfInBounds i x)) else unsupported "internal:no-such-field")
  split
  ·exact ⟨dZ _,True.intro⟩
  ·exact True.intro
 | _=>exact True.intro
theorem cK (v:v8)(i:Nat)(x:v8):Keeps (setField v i x):=by
 unfold setField
 cases v with
 | ref a=>exact fL a i x
 | _=>exact True.intro
theorem cy (e:v8)(fr:Option Addr):Keeps (setFlight e fr):=by
 unfold setFlight
 refine Keeps.bind (cT e 1) λtb =>?_
 split
 ·exact cK _ _ _
 ·exact True.intro
open PySem PySem.Spec PySem.W PyProof.Rows
theorem d5:Keeps stack:=λ_=>True.intro
theorem ka:Keeps underTheClaimsCaller:=by
 unfold underTheClaimsCaller
 exact Keeps.bind d5 λ_=>True.intro
theorem iq (env:Env)(outer:List Env):Keeps (behindIsImport env outer):=by
  unfold behindIsImport
  split
  · exact True.intro
  · show Keeps (if env.code == .none then pure true else do return (← field env.code 12) == .none)
    split
    · exact True.intro
    · exact Keeps.bind (cT _ _) λ_=>True.intro
theorem mG (env:Env)(i:Bool)(l:List Env):Keeps (keptBack env i l):=by
 unfold keptBack
 cases l with
 | nil =>
  show Keeps (if _ then _ else _)
  split
  ·exact True.intro
  ·exact Keeps.bind ka λ_=>True.intro
 | cons c l=>exact True.intro
theorem gK:∀l:List Env,Keeps (readyFrames l)
 | []=>True.intro
 | env :: outer=>by
  unfold readyFrames
  cases env.frame with
  | none=>exact True.intro
  | some f =>
   refine Keeps.bind (m:=load f) (λ_=>True.intro) λo =>?_
   split
   ·exact True.intro
   ·refine Keeps.bind (iq env outer) λi=>Keeps.bind (mG env i outer) λb =>?_
    exact ⟨λo=>⟨rfl,rfl,by obtain ⟨c,d,x,s⟩:=o;cases x <;> rfl⟩,gK outer⟩
theorem fM (l:List Env):Keeps (frameObject l):=by
 unfold frameObject
 cases l with
 | nil=>exact True.intro
 | cons env outer=>exact Keeps.bind (gK _) λ_=>True.intro
theorem jb (env:Env):Keeps (PySem.frameOf env):=by
 unfold PySem.frameOf frameEnvs
 refine Keeps.bind (Keeps.bind d5 λ_=>True.intro) λes=>Keeps.bind (fM _) λr =>?_
 cases r <;> exact True.intro
theorem k9 (f:Addr)(b:Bool):Keeps (entryPlaceOf f b):=by
 unfold entryPlaceOf
 refine Keeps.bind d5 λacts =>?_
 split <;> exact True.intro
theorem gO (ty:String)(vs:List v8):Keeps (newFields ty vs):=by
 unfold newFields newObj newObjAsIs
 show Keeps (if _ then _ else _)
 split
 ·exact True.intro
 ·exact λa=>True.intro
theorem lq (n f l fl la:v8)(p:List v8):Keeps (EntryCells.newEntry n f l fl la p):=by
 unfold EntryCells.newEntry
 exact gO _ _
theorem dN (e:v8)(env:Env):Keeps (noteFrame e env):=by
  unfold noteFrame
  cases env.frame with
  | none=>exact True.intro
  | some f =>
    refine Keeps.bind (cT e 1) λhead =>?_
    have rest:Keeps (do setField e 1 (← EntryCells.newEntry head (← PySem.frameOf env) .none (zU f) .none (← entryPlaceOf f (head != .none)))) :=
      Keeps.bind (jb env) λa=>Keeps.bind (k9 f _) λpl=>Keeps.bind (lq _ _ _ _ _ _) λb=>cK _ _ _
    show Keeps (if _ then _ else _)
    split
    · refine Keeps.bind (cT head 3) λx =>?_
      split
      · exact True.intro
      · exact Keeps.bind (cK _ _ _) λ_=>rest
    · exact rest
theorem eV (env:Env)(e:v8):Keeps (leaving env e):=by
 unfold leaving
 exact Keeps.bind (dN e env) λ_=>cy e none
open PySem PySem.Spec PySem.W PyProof.Rows
def XD (h:Heap)(ea:Addr)(d:Option Addr):Prop:=∀dx,d=some dx->∃o,h.get? ea=some o/\o.dict=some dx
theorem XD.kd {h h':Heap}{ea:Addr}{d:Option Addr}(k:Kd h h')(x:XD h ea d):XD h' ea d:=λdx e=>by
 obtain ⟨o,a,b⟩:=x dx e
 obtain ⟨o',a',_,b'⟩:=k ea o a
 exact ⟨o',a',b'.trans b⟩
def CX2 (P:wx)(w:wZ):CXT:=λouter H s E e s'=>∃ea cls a0 B H' d,e = .ref ea/\s'.os=s.os/\AllBare s'.gens/\Fly P w outer H H' s.heap B ea cls a0 s'.heap/\XD s'.heap ea d/\E cls d H'
section
variable  {X:Cx}{pins:List (Addr×Obj)}{σ:St}{H H':Hp}{s:v9}{B h':Heap}{ea:Addr}{cls a0:v8}
theorem Fly.vN {M:Model}{E:v8->v9->Prop}{Q:Unit->v9->Prop}{s':v9}(I:Inv X pins σ H s)(hst:X.stack=X.env :: X.outer)(hfr:X.env.frame=some X.env.locals)(hex:X.ex=[])
  (F:Fly X.prog X.w X.stack H H' s.heap B ea cls a0 s'.heap) (hQ:∀h2,Fly X.prog X.w X.outer X.H₀ H' X.s₀.heap B ea cls a0 h2->Kd s'.heap h2->Q () { s' with heap:=h2 }):wL M X.A (leaving X.env (.ref ea)) Q E s':=by
 have z:=cv (eV X.env (.ref ea)) (Fly.pass (M:=M) (E:=E) (Q:=λ_ s2=>∃h2,s2={ s' with heap:=h2 }/\Fly X.prog X.w X.outer X.H₀ H' X.s₀.heap B ea cls a0 h2) I hst hfr hex F λh2 F2=>⟨h2,rfl,F2⟩)
 refine xm z (λ_ s2 y =>?_) λ_ _ y=>y.1
 obtain ⟨⟨h2,rfl,F2⟩,k⟩:=y
 exact hQ h2 F2 k
end
theorem Fun.ke {P:wx}{w:wZ}{K:v5}{mg:Str->Option v8}{base:Heap}{x qual:Str}{st:Stmt}{f:Addr}{fd:wR}{N ps:List Str}{k:Nat}{sp:Sp}(F:Fun K x qual st f fd)(S:aJ N ps (au st))(len:∀vs H Q E,sp vs H Q E->vs.length=ps.length)
  (hb:∀(cdv:v8) (A:xh) (outer:List Env) (s:v9) (H:Hp) (vs:List V) (Q:VK) (E:XK),bE k (A.deeper (envOfC qual (au st) s.heap.objs.size f cdv))->sp vs H Q E →
   ∃t,PSs (jX (CX2 P w) P w K mg base N qual (au st) f cdv A outer s H E) (bD st) t/\t { nx:=λ_ H'=>Q .non H',rt:=Q } (start N vs) H):aW P w K mg base (CX2 P w) (k+1) f fd ps sp:=by
 obtain ⟨oc,od,kV,doc,pm,an,cdv,ct,osl,rfl,lk,hcd⟩:=F.ex
 exact tZ lk hcd S len λA outer s H vs Q E hr hsp=>hb cdv A outer s H vs Q E hr hsp
theorem aW.cx2 {P:wx}{w:wZ}{K:v5}{mg:Str->Option v8}{base:Heap}{k:Nat}{f:Addr}{fd:wR}{ps:List Str}{sp:Sp}(F:aW P w K mg base CX0 k f fd ps sp):aW P w K mg base (CX2 P w) k f fd ps sp :=
 ⟨F.len,λA outer s H args us vs Q E hr he hb hv hs=>zc (F.run A outer s H args us vs Q E hr he hb hv hs) λr s' h=>by
  cases r with
  | error e=>exact False.elim h
  | ok fl=>cases fl <;> exact h⟩
structure cA (P:wx)(w:wZ)(K:v5)(mg:Str->Option v8)(base:Heap)(k:Nat)(x:Str)(ps:List Str)(sp:Sp):Prop where
 ex:∃f fd,aW P w K mg base (CX2 P w) k f fd ps sp/\mg x=some (.ref f)/\PySem.W.keepIn K (.ref f)=true/\Binds K fd ps []
section
variable  {P:wx}{w:wZ}{K:v5}{mg:Str->Option v8}{base:Heap}{N:List Str}{qual:Str}{sc:Scope}{f:Addr}{cdv:v8}{A:xh}{outer:List Env}{s₀:v9}{H₀:Hp}{E:XK}
theorem bI:Passes (CX2 P w) (jX (CX2 P w) P w K mg base N qual sc f cdv A outer s₀ H₀ E) E:=λpins σ H s e s' I h=>by
 obtain ⟨ea,cls,a0,B,H2,d,rfl,os,g,F,D,q⟩:=h
 exact Fly.vN I rfl rfl rfl F λh2 F2 k=>⟨ea,cls,a0,B,H2,d,rfl,os.trans I.os,g,F2,D.kd k,q⟩
end
section
variable  {X:Cx}{pins:List (Addr×Obj)}{σ:St}{H H':Hp}{s s':v9}{B h':Heap}{ea:Addr}{cls a0:v8}{d:Option Addr}
def cU (ea:Addr)(cls:v8)(d:Option Addr):HO :=.ext λh=>∃o vs,h.get? ea=some o/\o.cls=cls/\o.data = .fields vs/\∀dx,d=some dx->o.dict=some dx
theorem HOk.uT {P:wx}{w:wZ}{h:Heap}(x:HOk P w H h)(hn:H ea=none)(hc:∃o vs,h.get? ea=some o/\o.cls=cls/\o.data = .fields vs/\∀dx,d=some dx->o.dict=some dx):HOk P w (upd H ea (cU ea cls d)) h:=λb u e=>by
 by_cases z:b=ea
 ·subst z
  rw[ae] at e
  cases e
  refine ⟨hc,?_,λh1 h2 p k =>?_⟩
  ·obtain ⟨o,_,q,_⟩:=hc;exact ⟨o,q⟩
  ·obtain ⟨o,vs,q,c⟩:=p;exact ⟨o,vs,k o q,c⟩
 ·rw[ax z] at e
  exact (x b u e).eR (λ_ _ _ q=>q) (λc q=>by rw[ax (av q hn)];exact q) λc xs q=>by rw[ax (av q hn)];exact q
theorem Inv.uT (I0:Inv X pins σ H s)(I:Inv X pins σ H' s')(F:Fly X.prog X.w X.stack H H' s.heap B ea cls a0 s'.heap)(D:XD s'.heap ea d):Inv X pins σ (upd H' ea (cU ea cls d)) s':=by
 have nn:=F.new
 have hn:=F.no
 have ne:∀b o,s.heap.get? b=some o->b≠ea:=λb o q z=>by rw[z,nn] at q;cases q
 have nh:∀b u,H' b=some u->b≠ea:=λb u q=>av q hn
 have hc:∃o vs,s'.heap.get? ea=some o/\o.cls=cls/\o.data = .fields vs/\∀dx,d=some dx->o.dict=some dx:=by
  obtain ⟨o,vs,a,b,dd,_⟩:=F.fl.first
  refine ⟨o,vs,a,b,dd,λdx e =>?_⟩
  obtain ⟨o',a',b'⟩:=D dx e
  rw[a] at a';cases a'
  exact b'
 refine ⟨I.ok,I.os,I.bare,⟨I.base.keep,I.base.slot,λb o q n m =>?_,I.base.there,λb xs q =>?_,λb o u q =>?_,λb ps q =>?_⟩,I.loc,I.cell,?_,λx c e =>?_,λp hp =>?_,I.hok.uT hn hc,I.len⟩
 ·obtain ⟨o',e⟩:=I0.base.there b o q m
  rw[ax (ne b o' e)];exact I.base.free b o q n m
 ·have:=I.base.tups b xs q
  rw[ax (nh b _ this)];exact this
 ·have:=I.base.frzs b o u q
  rw[ax (nh b _ this)];exact this
 ·obtain ⟨mo,this⟩:=I.base.tbls b ps q
  exact ⟨mo,by rw[ax (nh b _ this)];exact this⟩
 ·obtain ⟨m,⟨o,_,_,ho,_⟩,_⟩:=I0.loc
  rw[ax (ne _ o ho)];exact I.free
 ·obtain ⟨v,o,ho,_⟩:=I0.cell x c e
  rw[ax (ne _ o ho)];exact I.freeC x c e
 ·obtain ⟨e,n,n1,n2,d⟩:=I.pin p hp
  obtain ⟨e0,_⟩:=I0.pin p hp
  exact ⟨e,by rw[ax (ne _ _ e0)];exact n,n1,n2,d⟩
end
section
variable  {M:Model}{A:xh}{E:v8->v9->Prop}{s:v9}
theorem si {base:Heap}{env:Env}{outer:List Env}{L e:Addr}{cls a0:v8}{Q:Unit->v9->Prop}
  (hfr:A.frames=some (env :: outer)) (hf:env.frame=some L) (hfl:Heap.FlyingW base (env :: outer) e cls a0 s.heap)
  (hQ:∀h',Heap.HeldW base (env :: outer) e cls a0 L h'->s.heap.UpToSlots h'->Kd s.heap h'->Q () { s with heap:=h' }):wL M A (noteFrame (.ref e) env) Q E s:=by
 refine xm (cv (dN (.ref e) env) (wpAny_looks_onW (M:=M) (E:=E) (Q:=λ_ s2=>∃h',s2={ s with heap:=h' }/\Heap.HeldW base (env :: outer) e cls a0 L h'/\s.heap.UpToSlots h') hfr hf hfl λh' a b=>⟨h',rfl,a,b⟩)) (λ_ s2 y =>?_) λ_ _ y=>y.1
 obtain ⟨⟨h2,rfl,a,b⟩,k⟩:=y
 exact hQ h2 a b k
theorem sj {base:Heap}{l:List Env}{e L:Addr}{cls a0:v8}{Q:Unit->v9->Prop}(hh:Heap.HeldW base l e cls a0 L s.heap)
  (hQ:∀h',Heap.FlyingW base l e cls a0 h'->s.heap.UpToSlots h'->Kd s.heap h'->Q () { s with heap:=h' }):wL M A (setFlight (.ref e) none) Q E s:=by
 refine xm (cv (cy (.ref e) none) (wpAny_landsW (M:=M) (E:=E) (Q:=λ_ s2=>∃h',s2={ s with heap:=h' }/\Heap.FlyingW base l e cls a0 h'/\s.heap.UpToSlots h') hh λh' a b=>⟨h',rfl,a,b⟩)) (λ_ s2 y =>?_) λ_ _ y=>y.1
 obtain ⟨⟨h2,rfl,a,b⟩,k⟩:=y
 exact hQ h2 a b k
theorem sk {base:Heap}{l:List Env}{e:Addr}{cls a0:v8}{Q:Unit->v9->Prop}(hh:Heap.FlyingW base l e cls a0 s.heap)
  (hQ:∀h',Heap.FlyingW base l e cls a0 h'->s.heap.UpToSlots h'->Kd s.heap h'->Q () { s with heap:=h' }):wL M A (setFlight (.ref e) none) Q E s:=by
 refine xm (cv (cy (.ref e) none) (lands_againW (M:=M) (E:=E) (Q:=λ_ s2=>∃h',s2={ s with heap:=h' }/\Heap.FlyingW base l e cls a0 h'/\s.heap.UpToSlots h') hh λh' a b=>⟨h',rfl,a,b⟩)) (λ_ s2 y =>?_) λ_ _ y=>y.1
 obtain ⟨⟨h2,rfl,a,b⟩,k⟩:=y
 exact hQ h2 a b k
end
abbrev jc:=v8->Option Addr->St->Hp->Prop
def XP2 (X:Cx)(pins:List (Addr×Obj))(EX:jc)(e:v8)(s':v9):Prop :=
 ∃σ H s ea cls a0 B H' d,Inv X pins σ H s/\e = .ref ea/\s'.os=s.os/\AllBare s'.gens/\Fly X.prog X.w X.stack H H' s.heap B ea cls a0 s'.heap/\XD s'.heap ea d/\EX cls d σ H'
def vO (X:Cx)(sts:List Stmt)(t:jc->TS):Prop :=
 ∀(pins:List (Addr×Obj)) (s:v9) (σ:St) (H:Hp) (D:Ends) (EX:jc),Inv X pins σ H s->t EX D σ H->wL (wV X.prog X.w) X.A (execs sts X.env) (SP X pins D) (XP2 X pins EX) s
def vP (X:Cx)(st:Stmt)(t:jc->TS):Prop :=
 ∀(pins:List (Addr×Obj)) (s:v9) (σ:St) (H:Hp) (D:Ends) (EX:jc),Inv X pins σ H s->t EX D σ H->wL (wV X.prog X.w) X.A (exec st X.env) (SP X pins D) (XP2 X pins EX) s
section
variable  {X:Cx}{pos:Pos}
theorem sm {st:Stmt}{t:jc->TS}(h1:vP X st t):vO X [st] t:=by
 intro pins s σ H D EX I h
 refine Af (thn (h1 pins s σ H D EX I h) λf s1 q =>?_)
 cases f with
 | next=>exact yx q
 | ret v=>exact q
 | brk=>exact q
 | cont=>exact q
theorem vQ {k:Nat}{f:Addr}{fd:wR}{ps:List Str}{sp:Sp}{pins:List (Addr×Obj)}{σ:St}{H:Hp}{s:v9}{Q:VK}{EX:jc}{us:List v8}{vs:List V}(F:aW X.prog X.w X.K X.mg X.base (CX2 X.prog X.w) k f fd ps sp)(hr:bE k X.A)(hb:Binds X.K fd ps [])
  (I:Inv X pins σ H s) (r:Vals vs us) (h:sp vs H Q λcls d H'=>EX cls d σ H'):wL (wV X.prog X.w) X.A (call (.ref f) us) (EP X pins σ Q) (XP2 X pins EX) s:=by
 have hl:us.length=ps.length:=by rw[<- r.length];exact F.len _ _ _ _ h
 have hb':=hb s us I.kIn (by rw[xU];exact hl)
 rw[xU] at hb'
 refine Ax (zc (F.run X.A X.stack s H ⟨us,[]⟩ us vs Q _ hr I.uG hb' r h) λr s' hq =>?_)
 cases r with
 | error e =>
  obtain ⟨ea,cls,a0,B,H2,d,rfl,os,g,F2,D,q⟩:=hq
  exact ⟨σ,H,s,ea,cls,a0,B,H2,d,I,rfl,os,g,F2,D,q⟩
 | ok fl =>
  cases fl with
  | ret u=>exact I.after hq
  | next=>exact False.elim hq
  | brk=>exact False.elim hq
  | cont=>exact False.elim hq
theorem ev_y {j k:Nat}{x:Str}{ps:List Str}{sp:Sp}{e:Expr}{es:List Expr}{t:TA}{p:Pos}{pins:List (Addr×Obj)}{σ:St}{H:Hp}{s:v9}{Q:VK}{EX:jc}(C:cA X.prog X.w X.K X.mg X.base k x ps sp)(hr:bE j X.A)(hj:k<=j)(hg:Gl X x)(ha:PA X.nox (e :: es) t)
  (hdb:(x == ("__debug__" : Str))=false) (he:wX (e :: es) X.env=(false,eval e X.env) :: wX es X.env) (hpl:(yU pos (wX es X.env)).any (·.1)=false)
  (I:Inv X pins σ H s) (h:t σ H λvs H1=>sp vs H1 Q λcls d H2=>EX cls d σ H2):wL (wV X.prog X.w) X.A (eval (.Call (.Name x p) (e :: es) [] pos) X.env) (EP X pins σ Q) (XP2 X pins EX) s:=by
 obtain ⟨f,fd,F,m,kp,b⟩:=C.ex
 refine ya (eG I hg m ?_ hdb)
 refine yO (h₀:=X.base) I.ok.mod.kin kp (xm (ha pos pins s σ H _ (I.hV _) h) (λus s1 ⟨vs,H1,I1,r,q⟩=>⟨I1.c0.kIn,?_⟩) λ_ _ z=>False.elim z) he hpl
 exact vQ F (hr.mono hj) b I1.c0 r q
theorem so {i j k:Nat}{x y:Str}{ps:List Str}{sp:Sp}{e:Expr}{es:List Expr}{t:TA}{p pos' pos2:Pos}(hN:X.N.Nodup)(hi:X.N[i]? = some y)(hx:Loc X.env.scope y)(C:cA X.prog X.w X.K X.mg X.base k x ps sp)(hr:bE j X.A)(hj:k<=j)(hg:Gl X x)(ha:PA X.nox (e :: es) t)
  (hdb:(x == ("__debug__" : Str))=false:=by decide) (he:wX (e :: es) X.env=(false,eval e X.env) :: wX es X.env:=by rfl) (hpl:(yU pos (wX es X.env)).any (·.1)=false:=by rfl) (hs:swapsWith (.Call (.Name x p) (e :: es) [] pos) (some (.Name y pos2)) pos'.line X.env=pure false:=by rfl) (hf:X.fn y=true\/X.env.scope.names.lookup y=some .local:=by first | exact .inl rfl | exact .inr rfl | assumption) :
  vP X (.Assign [.Name y pos2] (.Call (.Name x p) (e :: es) [] pos) pos') (λEX D σ H=>t σ H λvs H1=>sp vs H1 (λv H2=>D.nx (σ.set i (some v)) H2) λcls d H2=>EX cls d σ H2):=by
 intro pins s σ H D EX I h
 refine A3 (thn (ev_y C hr hj hg ha hdb he hpl I h) λv s1 ⟨y,H1,I1,r1,q1⟩ =>?_) hs
 exact dR I1 hN hi hx r1 (λs2 I2=>⟨_,H1,I2,q1⟩) hf
def vR (K:v5)(i:Nat)(C:v8)(tb:jc->TS)(th:TS):TS:=λD σ H =>
 tb (λcls d σ1 H1=>exmOne K cls C=some true/\∀ea,H1 ea=none->th { nx:=λσ2 H2=>D.nx (σ2.set i none) H2,rt:=D.rt,bk:=λσ2 H2=>D.bk (σ2.set i none) H2,ct:=λσ2 H2=>D.ct (σ2.set i none) H2 } (σ1.set i (some (.ref ea))) (upd H1 ea (cU ea cls d))) D σ H
theorem sq {i:Nat}{n x:Str}{C:v8}{body:List Stmt}{b₀:Stmt}{suite:List Stmt}{tb:jc->TS}{th:TS}{np hp:Pos}(hst:X.stack=X.env :: X.outer)(hfr:X.env.frame=some X.env.locals)
    (hN:X.N.Nodup) (hi:X.N[i]? = some n) (hx:X.env.scope.names.lookup n=some .local) (hg:Gl X x) (hm:X.mg x=some C) (hb:vO X body tb) (hs:∀ea,PSs (X.mark ea) (b₀ :: suite) th) (hdb:(x == ("__debug__" : Str))=false:=by decide) :
    PS X (.Try body [.ExceptHandler (some (.Name x np)) (some n) (b₀ :: suite) hp] [] [] pos) (vR X.K i C tb th):=by
  intro pins s σ H D I h
  refine wpAny_Try_except (xm (hb pins s σ H D _ I h) (λf s1 q =>?_) λe s1 hx1 =>?_)
  · cases f with
    | next=>exact yx q
    | ret v=>exact q
    | brk=>exact q
    | cont=>exact q
  obtain ⟨σ1,H1,s0,ea,cls,a0,B,H2,d,I1,rfl,os,g,F,D,hm2,q⟩:=hx1
  have fl:=F.fl
  have hfr':X.A.frames=some (X.env :: X.outer):=by rw[I1.ok.frames,hst]
  rw[hst] at fl
  refine si hfr' hfr fl λh4 held4 k4 e4 =>?_
  refine sj held4 λh5 f5 k5 e5 =>?_
  rw[<- hst] at f5
  have F5:=F.on f5 (k4.trans k5)
  have I5:Inv X pins σ1 H2 { s1 with heap:=h5 }:=I1.land os g F5
  refine wpAny_handleBy_cons (codeAny_handlers_test ?_) (by intro z;cases z)
  refine eG (X:=X.mark ea) (I5.mark ea) hg hm ?_ hdb
  have LT:Looks (wV X.prog X.w) h5 (typeOf (.ref ea)) cls:=by
    obtain ⟨ob,hob,hc⟩:=f5.there
    subst hc
    exact (Looks.ld hob).andThen .now
  refine (exm_one (M:=wV X.prog X.w) I5.kIn LT hm2).here ?_
  refine codeAny_handlers_suite_as ?_
  refine sk f5 λh6 f6 k6 e6 =>?_
  have F6:=F5.on f6 k6
  have I6:Inv X pins σ1 H2 { s1 with heap:=h6 }:=I1.land os g F6
  have I7:=I1.uT I6 F6 (d:=d) (((D.kd e4).kd e5).kd e6)
  refine dR (v :=.ref ea) I7 hN hi (.inl hx) rfl (λs7 I8 =>?_) (.inr hx)
  have cls0:(X.env.scope.kind == .class || (X.env.scope.kind == .module && X.env.locals != X.env.globals))=false:=by rw[I.ok.kind];rfl
  have go:∀{σ2:St} {H3:Hp} {s8:v9} {Q:Unit->v9->Prop} {E:v8->v9->Prop},Inv (X.mark ea) pins σ2 H3 s8->(∀s9,Inv X pins (σ2.set i none) H3 s9->Q () s9)->wL (wV X.prog X.w) X.A (do bindName X.env n .none;unbindBehindTheSuite X.env n hp) Q E s8:=λ{σ2 H3 s8 Q E} J hQ=>by
    have J':Inv X pins σ2 H3 s8:=J.unmark I.ok
    obtain ⟨m,hn,hl⟩:=J'.loc
    exact wpAny_nameGoes_keeps hx hn cls0 λh9 v hn9 hs9=>hQ _ (J'.gone hN hi hn hl hn9 hs9)
  refine xm (hs ea pins s7 _ _ _ (I8.mark ea) (q ea F.no)) (λf s8 r =>?_) λ_ _ z=>False.elim z
  cases f with
  | next =>
    obtain ⟨σ2,H3,J,r⟩:=r
    exact go J λs9 J9=>⟨_,H3,J9,r⟩
  | brk =>
    obtain ⟨σ2,H3,J,r⟩:=r
    exact go J λs9 J9=>⟨_,H3,J9,r⟩
  | cont =>
    obtain ⟨σ2,H3,J,r⟩:=r
    exact go J λs9 J9=>⟨_,H3,J9,r⟩
  | ret u =>
    obtain ⟨v,σ2,H3,J,rv,r⟩:=r
    exact go J λs9 J9=>⟨v,_,H3,J9,rv,r⟩
end
open PySem PySem.Spec PySem.W PyProof.Rows
theorem lA {h:Heap}{bmB tl:List v8}(T:OwnTail h bmB tl)(self:v8)(what:Str):refuseLoop self what tl=refuseLoop self what bmB:=by
 induction T with
 | base=>rfl
 | own _ _ _ _ ih=>rw[refuseLoop_ref];exact ih
structure ExS (K:v5)(C:Addr)(f:Str):Prop where
 sa:findIn K (.ref C) "__setattr__" = some (some (.builtin "object.__setattr__"))
 na:findIn K (.ref C) f=some none
 mo:subIn K (.ref C) (.type "object")=some true
section
variable  {K:v5}{prog:wx}{w:wZ}{A:xh}{E:v8->v9->Prop}{h:Heap}{g:Array GenState}{d:Drawn}{t:Nat}{os:OsState}{x C:Addr}{o:Obj}
variable  {nm q:Str}{N:Addr}{bs bm:List v8}{sn:List Str}{sub:List v8}{ab:Bool}{col:Option Bool}{dd:Option Addr}{k0 k1 k2 k3 k5:Option v8}{newId:String}{name:Str}{v:v8}
theorem qu {M:Model}{nv:v8}{Q:Unit->v9->Prop}(X:K.In h)(Z:ExS K C name)(hx:h.get? x=some o)(hc:o.cls = .ref C)(k:Q () ⟨h,g,d,t,os⟩):wL M A (checkBuiltinCall "object.__setattr__" ⟨[.ref x,nv,v],[]⟩) Q E ⟨h,g,d,t,os⟩:=by
 have k1:=xN.kind
 have k2:=xN.split
 have L1:=AK (M:=M) X Z.mo
 have ha:=xN.args (.ref x) nv v
 simp only[checkBuiltinCall,k1,k2]
 refine wb ?_
 unfold isInstance
 repeat (first | (with_reducible refine w4 hx ?_;rw[hc]) | with_reducible refine L1.at ?_ | wp_step)
 exact k
theorem qv {tk:Tok}{Q:Fin->v9->Prop}(X:K.In h)(Z:ExS K C name)(hC:h.get? C=some (excClassObj nm q C N bs bm true sn sub ab col dd k0 k1 k2 k3 k5 newId))(T:OwnTail h jD bm)(hx:h.get? x=some o)(hc:o.cls = .ref C)(hd:o.dict=none)(hnc:∀c,o.data ≠ .cls c)
  (hq:∀h' tk',h'.get? x=some { o with dict:=some h.objs.size }->h'.Ns1 h.objs.size (λy=>if y=name then some v else none)->(∀b u,b≠x->h.get? b=some u->h'.get? b=some u)->Q (.done (.ret .none)) ⟨h',g,d,tk',os⟩) :
  wL (wV prog w) A (Builtin.«object.__setattr__» ⟨[.ref x,.str name tk,v],[]⟩) Q E ⟨h,g,d,t,os⟩:=by
 have pass:refuseLoop (.ref x) "__setattr__" bm=pure ():=(lA T _ _).trans (xN.passes (.ref x))
 have L1:=yj (M:=wV prog w) X Z.na
 unfold Builtin.«object.__setattr__»
 repeat (first | rw[refuse_eq] | (rw[refuseLoop_ref,pass]) | (with_reducible refine w4 hx ?_;rw[hc]) | with_reducible refine wpAny_mroOf_exc hC ?_ | with_reducible refine L1.at ?_ | wp_step)
 rw[hd,if_neg (by simp[typeHasDict])]
 let D:Obj:={ cls :=.type "dict",data :=.dict #[] }
 have p1:(h.push D).get? x=some o:=v7 _ hx
 have p2:x≠h.objs.size:=λz=>absurd (wq hx) (z ▸ xp _)
 have live:o.isFreed=false:=fK hx
 have u1:((h.push D).update x λo=>{ o with dict:=some h.objs.size }).get? x=some { o with dict:=some h.objs.size } :=
  x6 _ p1 (by obtain ⟨a,b,c,e⟩:=o;cases c <;> first | rfl | exact live)
 have u2:((h.push D).update x λo=>{ o with dict:=some h.objs.size }).get? h.objs.size=some D:=(zy _ _ _ _ (yn p2)).trans (zP rfl rfl)
 have u3:∀b u,b≠x->h.get? b=some u->((h.push D).update x λo=>{ o with dict:=some h.objs.size }).get? b=some u:=λb u n e=>(zy _ _ _ _ n).trans (v7 _ e)
 have emp:((h.push D).update x λo=>{ o with dict:=some h.objs.size }).Ns1 h.objs.size λ_=>none:=Heap.Ns1.of_empty ⟨D, #[],_,u2,rfl,λe m=>absurd m (by simp),λ_=>rfl⟩
 have fin:wL (wV prog w) A (Builtin.ObjectAttr.storeInDict h.objs.size (.str name tk) name v) Q E ⟨(h.push D).update x λo=>{ o with dict:=some h.objs.size },g,d,t,os⟩:=by
  unfold Builtin.ObjectAttr.storeInDict Builtin.ObjectAttr.newKeyGuard
  refine wb (wQ (wb (wpAny_nsSet1 emp λh2 n2 s2 =>?_)))
  obtain ⟨ob,es,ep,e1,e2,e3⟩:=n2.count (Within.cons name v Within.nil)
  refine wb (wpAny_lookBehind e1 (by rw[e2];exact pastItsLine_dict (wy e3 (by show 1<=_;decide))) ?_)
  wp_walk
  refine hq h2 _ ((s2.2 x p2).trans u1) n2 λb u n e=>(s2.2 b ?_).trans (u3 b u n e)
  exact λz=>absurd (wq e) (z ▸ xp _)
 split
 ·rename_i q
  cases q
 split
 ·rename_i c q
  exact absurd q (hnc c)
 ·refine wb (wpAny_alloc' (o:=D) ?_)
  refine wb (wpAny_update' p1 ?_)
  exact wQ fin
theorem sr {Q:Unit->v9->Prop}(X:K.In h)(Z:ExS K C name)(hC:h.get? C=some (excClassObj nm q C N bs bm true sn sub ab col dd k0 k1 k2 k3 k5 newId))(T:OwnTail h jD bm)(hx:h.get? x=some o)(hc:o.cls = .ref C)(hd:o.dict=none)(hnc:∀c,o.data ≠ .cls c)
  (hq:∀h' tk',h'.get? x=some { o with dict:=some h.objs.size }->h'.Ns1 h.objs.size (λy=>if y=name then some v else none)->(∀b u,b≠x->h.get? b=some u->h'.get? b=some u)->Q () ⟨h',g,d,tk',os⟩) :
  wL (wV prog w) A (setAttr (.ref x) name v) Q E ⟨h,g,d,t,os⟩:=by
 have f3:=xN.slot.bind (.ref x)
 have LS:=yj (M:=wV prog w) X Z.sa
 unfold setAttr callSpecial? specialOf
 repeat (any_goals (first | assumption | (with_reducible refine w4 hx ?_;rw[hc]) | with_reducible refine LS.at ?_ | wp_step))
 refine yg xN.slot.plain xN.entry (qu X Z hx hc (qv X Z hC T hx hc hd hnc λh2 tk2 a b c =>?_))
 repeat (any_goals (first | assumption | wp_step))
 exact hq h2 tk2 a b c
end
def bF (ea C:Addr)(d:Option Addr):HO :=.ext λh=>∃o vs t,h.get? ea=some o/\o.cls = .ref C/\o.data = .fields vs/\vs.size=6/\vs[0]? = some (.ref t)/\vs[1]? = some .none/\o.dict=d
theorem kf {P:wx}{w:wZ}{H:Hp}{h:Heap}{ea C:Addr}{d:Option Addr}(x:∃o vs t,h.get? ea=some o/\o.cls = .ref C/\o.data = .fields vs/\vs.size=6/\vs[0]? = some (.ref t)/\vs[1]? = some .none/\o.dict=d):bx P w H h ea (bF ea C d) :=
 ⟨x,by obtain ⟨o,_,_,e,_⟩:=x;exact ⟨o,e⟩,λh1 h2 p k=>by obtain ⟨o,vs,t,e,r⟩:=p;exact ⟨o,vs,t,k o e,r⟩⟩
structure ExN (K:v5)(C:Addr):Prop where
 ob:∃nm q N bs bm sn sub ab col dd k0 k1 k2 k3 k5,K.lookup C=some (excClassObj nm q C N bs bm true sn sub ab col dd k0 k1 k2 k3 k5 "ValueError.__new__")/\tailIn K jD bm=true
section
variable  {X:Cx}{pins:List (Addr×Obj)}{σ:St}{H:Hp}{s:v9}{ea C:Addr}{f:Str}{v:V}{u:v8}
theorem Inv.uU {h':Heap}{tk:Nat}(I:Inv X pins σ H s)(he:H ea=some (bF ea C none))(o:Obj)(ho:s.heap.get? ea=some o)(r:RelV v u)(a:h'.get? ea=some { o with dict:=some s.heap.objs.size })
  (b:h'.Ns1 s.heap.objs.size (λy=>if y=f then some u else none)) (c:∀b u,b≠ea->s.heap.get? b=some u->h'.get? b=some u) :
  Inv X pins σ (upd (upd H s.heap.objs.size (.xd [(f,v)])) ea (bF ea C (some s.heap.objs.size))) { s with heap:=h',toks:=tk }:=by
 have hn:=I.fresh
 have ne:ea≠s.heap.objs.size:=wU (wq ho)
 have nsD:=b
 obtain ⟨oD,es,ep,eD,rD⟩:=id b
 have k1:∀b u,s.heap.get? b=some u->(s.heap.push oD).get? b=some u:=λb u e=>v7 _ e
 have mu:Mut (upd H s.heap.objs.size (.xd [(f,v)]) ea):=by rw[ax ne,he];exact True.intro
 have live:oD.isFreed=false:=fK eD
 have own:∀(c:Addr) (y:Addr),H c=some (.own y)->c≠ea:=λc y q z=>by rw[z,he] at q;cases q
 have tup:∀(c:Addr) xs,H c=some (.tup xs)->c≠ea:=λc xs q z=>by rw[z,he] at q;cases q
 refine I.un ((Un.laid k1 (wm _) hn).trans (Un.write (x:=ea) (e:=ea) mu (.inl rfl) (λb u n e =>?_) ⟨_,a⟩)) λb w e =>?_
 ·by_cases z:b=s.heap.objs.size
  ·rw[z,zP rfl live] at e
   cases e
   rw[z];exact eD
  ·refine c b u n ?_
   rwa [Heap.get?_push_ne _ _ _ z] at e
 ·by_cases z:b=ea
  ·subst z
   rw[ae] at e
   cases e
   obtain ⟨⟨o',vs,t,e1,e2,e3,e4,e5,e6,e7⟩,_⟩:=I.hok _ _ he
   rw[ho] at e1;cases e1
   exact kf ⟨_,vs,t,a,e2,e3,e4,e5,e6,rfl⟩
  ·rw[ax z] at e
   by_cases y:b=s.heap.objs.size
   ·subst y
    rw[ae] at e
    cases e
    refine ⟨_,nsD,λg =>?_⟩
    show mh (List.lookup g [(f,v)]) (if g=f then some u else none)
    by_cases q:g=f
    ·have hb:(g == f)=true:=beq_iff_eq.mpr q
     rw[if_pos q];simp only[List.lookup,hb];exact r
    ·have hb:(g == f)=false:=beq_eq_false_iff_ne.mpr q
     rw[if_neg q];simp only[List.lookup,hb];exact True.intro
   ·rw[ax y] at e
    refine (I.hok b w e).eR (λc' w' hc q=>c c' w' ?_ q) (λc' q =>?_) λc' xs q =>?_
    ·rcases hc with rfl | hc
     ·exact z
     ·exact own _ _ hc
    ·rw[ax (own _ _ q),ax (av q hn)];exact q
    ·rw[ax (tup _ _ q),ax (av q hn)];exact q
theorem qw {tk:Nat}{Q:Unit->v9->Prop}{E:v8->v9->Prop}(I:Inv X pins σ H s)(he:H ea=some (bF ea C none))(N:ExN X.K C)(Z:ExS X.K C f)(r:RelV v u)
  (h:∀s' dx,H dx=none->dx≠ea->Inv X pins σ (upd (upd H dx (.xd [(f,v)])) ea (bF ea C (some dx))) s'->Q () s'):wL (wV X.prog X.w) X.A (setAttr (.ref ea) f u) Q E s:=by
 obtain ⟨nm,q,N0,bs,bm,sn,sub,ab,col,dd,k0,k1,k2,k3,k5,lk,tl⟩:=N.ob
 have KI:=I.kIn
 obtain ⟨⟨o,vs,t,e1,e2,e3,e4,e5,e6,e7⟩,_⟩:=I.hok _ _ he
 obtain ⟨hh,g,d,tk,os⟩:=s
 refine sr KI Z (KI _ _ lk) (BF KI tl) e1 e2 e7 (λc z=>by rw[e3] at z;cases z) λh' tk' a b c=>h _ hh.objs.size I.fresh (za (wq e1)) ?_
 exact Inv.uU (tk:=tk') I he o e1 r a b c
def sExF (K:v5)(ta tv:TE)(f:Str):TS:=λD σ H=>tv σ H λy H1=>ta σ H1 λx H2=>∃a C,x = .ref a/\H2 a=some (bF a C none)/\ExN K C/\ExS K C f/\∀dx,H2 dx=none->dx≠a →
 D.nx σ (upd (upd H2 dx (.xd [(f,y)])) a (bF a C (some dx)))
theorem uV {o value:Expr}{pos pos':Pos}{ta tv:TE}(ha:PE X o ta)(hv:PE X value tv)(hs:swapsWith value (some (.Attribute o f pos')) pos.line X.env=pure false):PS X (.Assign [.Attribute o f pos'] value pos) (sExF X.K ta tv f):=by
 intro pins s σ H D I h
 refine plainObj_wpAny_Assign_Attribute (thn (hv pins s σ H _ I h) λu s1 ⟨y,H1,I1,ry,q⟩=>thn (ha pins s1 σ H1 _ I1 q) λov s2 ⟨x,H2,I2,rx,a,C,ex,e0,c,n,q2⟩ =>?_) hs
 subst ex
 obtain rfl:ov=wO a:=rx
 exact qw (tk:=0) I2 e0 c n ry λs3 dx n1 n2 I3=>⟨σ,_,I3,q2 dx n1 n2⟩
end
open PySem PySem.Spec PySem.W PyProof.Rows
section
variable  {X:Cx}{pins:List (Addr×Obj)}{σ:St}{H:Hp}{s:v9}{ea C:Addr}{d:Option Addr}
theorem Inv.uW {its:List v8}(I:Inv X pins σ H s)(he:H ea=some (bF ea C d)) :
  Inv X pins σ H { s with heap:=(s.heap.push { cls :=.type "tuple",data :=.seq its.toArray }).update ea (Obj.mapFields (·.setIfInBounds 0 (.ref s.heap.objs.size))) }:=by
 obtain ⟨⟨o,vs,t,e1,e2,e3,e4,e5,e6,e7⟩,_⟩:=I.hok _ _ he
 have p1:(s.heap.push { cls :=.type "tuple",data :=.seq its.toArray }).get? ea=some o:=v7 _ e1
 have k:∀b u,b≠ea->s.heap.get? b=some u->((s.heap.push { cls :=.type "tuple",data :=.seq its.toArray }).update ea (Obj.mapFields (·.setIfInBounds 0 (.ref s.heap.objs.size)))).get? b=some u:=λb u n e =>
  (zy _ _ _ _ n).trans (v7 _ e)
 have m:=dZ (·.setIfInBounds 0 (.ref s.heap.objs.size)) o
 have a:=x6 (Obj.mapFields (·.setIfInBounds 0 (.ref s.heap.objs.size))) p1 (m.2.2.trans (fK e1))
 have z:=I.write (x:=ea) (e:=ea) (o:=bF ea C d) (t':=s.toks) (by rw[he];exact True.intro) (.inl rfl) k ⟨_,a⟩
  (kf ⟨_,vs.setIfInBounds 0 (.ref s.heap.objs.size),s.heap.objs.size,a,m.1.trans e2,zJ e3 _,by simpa using e4,by rw[Array.getElem?_setIfInBounds_self_of_lt (by omega)],by rw[Array.getElem?_setIfInBounds_ne (by decide)];exact e6,m.2.1.trans e7⟩)
 have same:upd H ea (bF ea C d)=H:=by
  funext b
  by_cases q:b=ea
  ·rw[q,ae,he]
  ·rw[ax q]
 rw[same] at z
 exact z
theorem su {us:List v8}{Q:v8->v9->Prop}{E:v8->v9->Prop}(I:Inv X pins σ H s)(he:H ea=some (bF ea C d))(N:ExN X.K C)(hz:us.length<=wa)(h:∀s',Inv X pins σ H s'->Q .none s') :
  wL (wV X.prog X.w) X.A (call (.builtin "ValueError.__init__") (.ref ea :: us)) Q E s:=by
 obtain ⟨nm,q,N0,bs,bm,sn,sub,ab,col,dd,k0,k1,k2,k3,k5,lk,tl⟩:=N.ob
 have KI:=I.kIn
 have J:=Inv.uW (its:=us) I he
 obtain ⟨⟨o,vs,t,e1,e2,e3,e4,e5,e6,e7⟩,_⟩:=I.hok _ _ he
 obtain ⟨hh,g,dr,tk,os⟩:=s
 refine Ax (yg xS.init.plain xS.initEntry (wpAny_check_init_subT xS (BF KI tl) (KI _ _ lk) e1 e2 ?_))
 wp_walk
 rw[e3]
 refine wQ ?_
 show wL _ _ (match vs[0]? with | some x=>pure x | none=>unsupported "internal:no-such-field") _ _ _
 rw[e5]
 refine wQ (wb (AG (v7 _ e1) e3 (by omega) ?_))
 wp_walk
 exact h _ J
end
structure ExW (K:v5)(mg:Str->Option v8)(x:Str)(W:Addr):Prop where
 mg:mg x=some (.ref W)
 ga:specialIn K (.ref W) "__getattribute__" = some (some (.builtin "type.__getattribute__"))
 rd:readsIn K W (.type "type")=true
 fd:findCls K (.ref W) (.type "type") "__init__" = some (.val (.builtin "ValueError.__init__"))
def tExI (K:v5)(t:TA):TE:=λσ H Q=>t σ H λvs H1=>∃a C d r,vs = .ref a :: r/\H1 a=some (bF a C d)/\ExN K C/\r.length<=wa/\Q .non H1
section
variable  {X:Cx}{x:Str}{W:Addr}{e:Expr}{es:List Expr}{t:TA}{np apos pos:Pos}
theorem oS {pl:Sem Bool}(w:ExW X.K X.mg x W)(hg:Gl X x)(ha:PA X (e :: es) t)(hdb:(x == ("__debug__" : Str))=false:=by decide)
    (he:wX (e :: es) X.env=(false,eval e X.env) :: wX es X.env:=by rfl) (hpl:(yU pos (wX es X.env)).any (·.1)=false:=by rfl)
    (ht:eval (.Call (.Attribute (.Name x np) "__init__" apos) (e :: es) [] pos) X.env=(do
      let ov ← eval (.Name x np) X.env
      standAt apos.atName
      let (f,first) ← BK [ov] (getMethod ov "__init__" pl)
      callWith pos f first (yU pos (wX (e :: es) X.env)) (backToKw pos (keywordEach [] X.env))):=by rfl) :
    PE X (.Call (.Attribute (.Name x np) "__init__" apos) (e :: es) [] pos) (tExI X.K t):=by
  intro pins s σ H Q I h
  refine methodCall_KW (pl:=pl) (eG I hg w.mg ?_ hdb) ht
  refine method_cls I.kIn w.ga (cls_value I.kIn w.rd w.fd (by decide +kernel) ?_)
  have hA:=ha pos pins { s with toks:=s.toks+1 } σ H _ (I.tok _) h
  rw[he] at hA ⊢
  refine yY (by show (false || (yU pos (wX es X.env)).any (·.1))=false;rw[hpl];rfl) (zf ?_)
  refine thn hA λus s2 ⟨vs,H2,I2,r2,a,C,d,r,ev,ea,N,z,q⟩ =>?_
  subst ev
  cases r2 with | cons r3 r4 =>
  have r3:_=wO a:=r3
  subst r3
  exact su I2 ea N (by rw[<- r4.length];exact z) λs3 I3=>⟨.non,H2,I3,rfl,q⟩
end
open PySem PySem.Spec PySem.W PyProof.Rows
section
variable  {K:v5}{prog:wx}{w:wZ}{A:xh}{E:v8->v9->Prop}{h:Heap}{g:Array GenState}{d:Drawn}{t:Nat}{os:OsState}{C fI:Addr}{us:List v8}
variable  {nm q:Str}{N:Addr}{bs bm:List v8}{hdct:Bool}{sn:List Str}{sub:List v8}{ab:Bool}{col:Option Bool}{dd:Option Addr}{k0 k1 k2 k3 k5:Option v8}
theorem sx {Q:PySem.Fin->v9->Prop}(X:K.In h)(T:OwnTail h jD bm)(hC:h.get? C=some (excClassObj nm q C N bs bm hdct sn sub ab col dd k0 k1 k2 k3 k5 "ValueError.__new__"))
  (hi:findIn K (.ref C) "__init__" = some (some (.ref fI))) (hf:typeIn K (.ref fI)=some (.type "function")) (hz:us.length<=wa)
  (hq:∀h',Heap.MadeExcOf h h' (h.objs.size+1) (.ref C) us->wL (wV prog w) A (call (.ref fI) (.ref (h.objs.size+1) :: us)) (λr s'=>r = .none/\Q (.done (.ret (.ref (h.objs.size+1)))) s') E ⟨h',g,d,t,os⟩) :
  wL (wV prog w) A (Builtin.«type.__call__» ⟨.ref C :: us,[]⟩) Q E ⟨h,g,d,t,os⟩:=by
 repeat (first | with_reducible refine w4 hC ?_ | with_reducible refine wpAny_madeBy_exc hC ?_ | wp_step)
 refine codeAny_call_builtin_code (zK _ xS.quiet) (wpAny_check_new_subT xS T hC (codeAny_exc_new_subT xS T hC ?_ hz))
 show wL _ _ _ _ _ _
 have made:Heap.MadeExcOf h ((h.push { cls :=.type "tuple",data :=.seq us.toArray }).push { cls :=.ref C,data :=.fields #[.ref h.objs.size,.none,.none,.none,.bool false,.none] }) (h.objs.size+1) (.ref C) us :=
  ⟨λb o e=>v7 _ (v7 _ e),yD (zW _),h.objs.size,by heap_get,yD (wm _),v7 _ (zP rfl rfl)⟩
 obtain ⟨p,tup,e1,e2,e3⟩:=id made
 have X':K.In ((h.push { cls :=.type "tuple",data :=.seq us.toArray }).push { cls :=.ref C,data :=.fields #[.ref h.objs.size,.none,.none,.none,.bool false,.none] }):=X.keeps p
 have hC':=p _ _ hC
 have own:(wO C :: bm).contains (.ref C)=true:=by simp
 have L1:=yj (M:=wV prog w) X' hi
 have L2:=looks_typeIn (M:=wV prog w) X' hf
 unfold isInstance
 repeat (first | with_reducible refine w4 e1 ?_ | (with_reducible refine wpAny_isSubtype_exc hC' ?_;rw[own]) | wp_step)
 show wL _ _ (typeLookup (.ref C) _) _ _ _
 refine L1.here ?_
 refine z9 (wb ?_)
 refine (bind_fn X' (.ref (h.objs.size+1)) hf).here ?_
 refine wb (xm (hq _ made) (λr s' z =>?_) λ_ _ z=>z)
 obtain ⟨rfl,z⟩:=z
 wp_walk
 exact z
theorem sy {Q:v8->v9->Prop}(X:K.In h)(T:OwnTail h jD bm)(hC:h.get? C=some (excClassObj nm q C N bs bm hdct sn sub ab col dd k0 k1 k2 k3 k5 "ValueError.__new__"))
  (hi:findIn K (.ref C) "__init__" = some (some (.ref fI))) (hf:typeIn K (.ref fI)=some (.type "function")) (hz:us.length<=wa)
  (hq:∀h',Heap.MadeExcOf h h' (h.objs.size+1) (.ref C) us->wL (wV prog w) (A.under (.builtin "type.__call__" ⟨.ref C :: us,[]⟩)) (call (.ref fI) (.ref (h.objs.size+1) :: us)) (λr s'=>r = .none/\Q (.ref (h.objs.size+1)) s') E ⟨h',g,d,t,os⟩) :
  wL (wV prog w) A (call (.ref C) us) Q E ⟨h,g,d,t,os⟩:=by
 have l1:=tc_lookup
 have l2:=tc_bind (.ref C)
 have ty:(⟨h,g,d,t,os⟩:v9).TypeIs (.ref C) "type" :=⟨_,hC,rfl⟩
 refine Ax (codeAny_of_tree ?_)
 show wL _ _ (callAny (.ref C) _) _ _ _
 repeat (any_goals (first | assumption | with_reducible refine w4 hC ?_ | wp_step))
 refine ⟨rfl,codeAny_call_builtin_at (zK _ (by decide +kernel)) entry_typeCall (wpAny_check_type_call_sub hC (sx X T hC hi hf hz λh' made =>?_))⟩
 exact hq h' made
end
structure ExK (K:v5)(C f:Addr):Prop where
 n:ExN K C
 init:findIn K (.ref C) "__init__" = some (some (.ref f))
 fn:isFn K (.ref f)=true
 kp:keepIn K (.ref C)=true
section
variable  {X:Cx}{CX:CXT}{k:Nat}{f C:Addr}{fd:wR}{ps:List Str}{sp:Sp}{E:XK}{x:Str}{p pos:Pos}{e:Expr}{es:List Expr}{t:TA}
theorem oT {R:v8->v9->Prop}{pins:List (Addr×Obj)}{σ:St}{H:Hp}{s:v9}{Q:VK}{us:List v8}{vs:List V}(M:ExK X.K C f)(F:aW X.prog X.w X.K X.mg X.base CX k f fd ps sp)(hr:bE (k+1) X.A)(hb:Binds X.K fd ps [])
  (hx:Passes CX X E) (I:Inv X pins σ H s) (r:Vals vs us) (hz:vs.length<=wa) (h:∀ea,H ea=none->sp (.ref ea :: vs) (upd H ea (bF ea C none)) (λv H2=>v = .non/\Q (.ref ea) H2) E)
  (hR:∀ea s' H',X.s₀.heap.get? ea=none->Inv X pins σ H' s'->Q (.ref ea) H'->R (.ref ea) s'):wL (wV X.prog X.w) X.A (call (.ref C) us) R X.xe s:=by
 have hq:=h (s.heap.objs.size+1) (I.hok.fresh (zW _))
 obtain ⟨nm,q,N0,bs,bm,sn,sub,ab,col,dd,k0,k1,k2,k3,k5,lk,tl⟩:=M.n.ob
 have KI:=I.kIn
 have new:X.s₀.heap.get? (s.heap.objs.size+1)=none:=yD (Nat.le_succ_of_le I.sz)
 obtain ⟨hh,g,d,tk,os⟩:=s
 refine sy KI (BF KI tl) (KI _ _ lk) M.init (beq_iff_eq.mp M.fn) (by rw[<- r.length];exact hz) λh' made =>?_
 obtain ⟨kp,_,tp,m1,m2,m3⟩:=id made
 have I2:Inv X pins σ (upd H (hh.objs.size+1) (bF (hh.objs.size+1) C none)) ⟨h',g,d,tk,os⟩ :=
  I.laid (s:=⟨hh,g,d,tk,os⟩) (t':=tk) kp (zW _) (kf ⟨_,_,tp,m1,rfl,rfl,rfl,rfl,rfl,rfl⟩)
 have r2:Vals (V.ref (hh.objs.size+1) :: vs) (wO (hh.objs.size+1) :: us) :=.cons rfl r
 have hl:(wO (hh.objs.size+1) :: us).length=ps.length:=by rw[<- r2.length];exact F.len _ _ _ _ hq
 have hb':=hb ⟨h',g,d,tk,os⟩ (wO (hh.objs.size+1) :: us) I2.kIn (by rw[xU];exact hl)
 rw[xU] at hb'
 refine Ax (zc (F.run _ X.stack _ _ ⟨wO (hh.objs.size+1) :: us,[]⟩ (wO (hh.objs.size+1) :: us) _ _ E (hr.make C us []) (I2.uG.make C us []) hb' r2 hq) λr s' hq' =>?_)
 cases r with
 | error e=>exact hx pins σ _ _ e s' I2 hq'
 | ok fl =>
  cases fl with
  | ret u =>
   obtain ⟨v,H',I3,rv,ev,q3⟩:=I2.after hq'
   subst ev
   exact ⟨rv,hR _ _ _ new I3 q3⟩
  | next=>exact False.elim hq'
  | brk=>exact False.elim hq'
  | cont=>exact False.elim hq'
end
open PySem PySem.Spec PySem.W PyProof.Rows
section
variable  {K:v5}{M:Model}{A:xh}{E:v8->v9->Prop}{s:v9}{env:Env}{C:Addr}
theorem sA {x:Sem v8}{Q:Flow->v9->Prop}(hh:A.handled=none)(sb:subIn K (.ref C) (.type "BaseException")=some true)(ty:typeIn K (.ref C)=some (.type "type"))
  (h:wL M A x (λv s₁=>∃e o vs,v = .ref e/\K.In s₁.heap/\s₁.heap.get? e=some o/\o.cls = .ref C/\o.data = .fields vs/\vs[1]? = some .none/\E (.ref e) s₁) E s):wL M A (raiseStmt env (some x) none) Q E s:=by
 unfold raiseStmt
 refine wb (xm h (λv s₁ z =>?_) λ_ _ z=>z)
 obtain ⟨e,o,vs,rfl,X,he,hc,hd,h1,hE⟩:=z
 obtain ⟨hp,g,d,tk,os⟩:=s₁
 have L1:=AK (M:=M) X sb
 have L2:=looks_typeIn (M:=M) X ty
 repeat (first | (with_reducible refine w4 he ?_;first | rw[hc] | rw[hd]) | with_reducible refine L1.at ?_ | with_reducible refine L2.at ?_ | wp_step)
 rw[hd]
 refine wQ ?_
 show wL _ _ (match vs[1]? with | some x=>pure x | none=>unsupported "internal:no-such-field") _ _ _
 rw[h1]
 refine wQ ?_
 repeat (first | (with_reducible refine w4 he ?_;first | rw[hc] | rw[hd]) | with_reducible refine L1.at ?_ | with_reducible refine L2.at ?_ | wp_step)
 exact wpAny_raiseNew_none hh hE
end
def rm (H:Hp)(a:Addr):Hp:=λb=>if b=a then none else H b
theorem eX {H:Hp}{a b:Addr}(n:b≠a):rm H a b=H b:=if_neg n
theorem kg {H:Hp}{a:Addr}:rm H a a=none:=if_pos rfl
theorem HOk.rm {P:wx}{w:wZ}{H:Hp}{h:Heap}{a:Addr}{φ:Heap->Prop}(x:HOk P w H h)(e:H a=some (.ext φ)):HOk P w (rm H a) h:=λb u q=>by
 have n:b≠a:=λz=>by rw[z,kg] at q;cases q
 rw[eX n] at q
 exact (x b u q).eR (λ_ _ _ y=>y) (λc y=>by rw[eX (λz=>by rw[z,e] at y;cases y)];exact y) λc xs y=>by rw[eX (λz=>by rw[z,e] at y;cases y)];exact y
section
variable  {X:Cx}{pins:List (Addr×Obj)}{σ:St}{H:Hp}{s:v9}{ea C:Addr}{d:Option Addr}
theorem Fly.vS {M:Model}{E:v8->v9->Prop}{Q:Unit->v9->Prop}(I:Inv X pins σ H s)(hst:X.stack=X.env :: X.outer)(hfr:X.env.frame=some X.env.locals)(hex:X.ex=[])
  (he:H ea=some (bF ea C d)) (hn:X.s₀.heap.get? ea=none) (hQ:∀h2 B a0,Fly X.prog X.w X.outer X.H₀ (rm H ea) X.s₀.heap B ea (.ref C) a0 h2->XD h2 ea d->Q () { s with heap:=h2 }):wL M X.A (leaving X.env (.ref ea)) Q E s:=by
 obtain ⟨⟨o,vs,t,e1,e2,e3,e4,e5,e6,e7⟩,_⟩:=I.hok _ _ he
 have ff:=I.stack
 have ff':=funFrames_hide (as:=ea :: frs X.stack) ff λenv hm b hb=>wD _ (zH.mpr ⟨env,hm,hb⟩)
 have fh:∀b∈frs X.stack,H b=none:=I.jV
 have nL:∀b o,X.s₀.heap.get? b=some o->b≠X.env.locals:=λb o q z=>absurd (wB (wq q) (z ▸ I.ok.above)) (xp _)
 have ne:∀b o,X.s₀.heap.get? b=some o->b≠ea:=λb o q z=>by rw[z,hn] at q;cases q
 have nst:∀b,b∉X.fs->b≠X.env.locals->b≠ea->b∉ea :: frs X.stack:=λb n1 n2 n3 m=>by
  rcases wH.mp m with m | m
  ·exact n3 m
  rw[hst] at m
  unfold frs at m
  rw[xJ,hfr] at m
  rcases wH.mp m with z | z
  ·exact n2 z
  ·exact n1 z
 have sub:∀b∈X.fs,b∈frs X.stack:=λb m=>by
  rw[hst];unfold frs;rw[xJ,hfr];exact wD _ m
 have nx:∀b,b∉X.ex:=λb m=>by rw[hex] at m;cases m
 have nh:∀b u,(∀φ,u≠HO.ext φ)->H b=some u->b≠ea:=λb u nu q z=>by rw[z,he] at q;cases q;exact nu _ rfl
 have none_ea:(hideAll s.heap (ea :: frs X.stack)).get? ea=none:=hideAll_none _ (.head _)
 have z:=cv (eV X.env (.ref ea)) (wpAny_leaving_firstW (M:=M) (A:=X.A) (E:=E) (s:=s) (base:=hideAll s.heap (ea :: frs X.stack)) (outer:=X.outer) (a0 :=.ref t) (Q:=λ_ s2=>∃h2,s2={ s with heap:=h2 }/\Heap.LeftW (hideAll s.heap (ea :: frs X.stack)) (X.env :: X.outer) ea o.cls (.ref t) s.heap h2)
  (by rw[I.ok.frames,hst]) (by rw[<- hst];exact ff') hfr e1 (λb u q=>of_hideAll _ q) none_ea e3 e6 e5 λh2 y=>⟨h2,rfl,y⟩)
 refine xm z (λ_ s2 y =>?_) λ_ _ y=>y.1
 obtain ⟨⟨h2,rfl,L⟩,kd⟩:=y
 obtain ⟨k1,⟨_,_,k2⟩,k3,k4⟩:=L
 rw[e2] at k3
 have f2:Heap.FlyingW (hideAll s.heap (ea :: frs X.stack)) X.outer ea (.ref C) (.ref t) h2:=⟨k1,none_ea,k2,k3⟩
 have sl:∀b∈frs X.stack,∀o,s.heap.get? b=some o->∃sl,h2.get? b=some { o with slots:=sl }:=λb m o e=>by
  obtain ⟨_,o',ho',hd⟩:=ff.mem m
  rw[e] at ho';cases ho'
  exact k4 b o e hd
 refine hQ h2 _ _ ⟨f2,⟨λb o q n m _ =>?_,λb o q n m _ =>?_,λb o q n _ =>?_,λb o q _ =>?_,λb xs q =>?_,λb o u q =>?_,λb ps q =>?_⟩,(I.hok.rm he).hide λb m =>?_,λb o q n m =>?_,λb o q m =>?_⟩ ?_
 ·exact k1 _ _ (Ab _ (I.base.keep b o q n m (nx b)) (nst b m (nL b o q) (ne b o q)))
 ·obtain ⟨s1,e⟩:=I.base.slot b o q n m (nx b)
  obtain ⟨s2,e'⟩:=sl b (sub b m) _ e
  exact ⟨s2,e'⟩
 ·rw[eX (ne b o q)];exact I.base.free b o q n (nx b)
 ·obtain ⟨o',e⟩:=I.base.there b o q (nx b)
  by_cases m:b∈frs X.stack
  ·obtain ⟨s2,e'⟩:=sl b m _ e
   exact ⟨_,e'⟩
  ·exact ⟨o',k1 _ _ (Ab _ e λmm=>(wH.mp mm).elim (ne b o q) m)⟩
 ·have y:=I.base.tups b xs q
  rw[eX (nh b _ (λ_ z=>by cases z) y)];exact y
 ·have y:=I.base.frzs b o u q
  rw[eX (nh b _ (λ_ z=>by cases z) y)];exact y
 ·obtain ⟨mo,y⟩:=I.base.tbls b ps q
  exact ⟨mo,by rw[eX (nh b _ (λ_ z=>by cases z) y)];exact y⟩
 ·rcases wH.mp m with m | m
  ·rw[m,kg]
  ·by_cases q:b=ea
   ·rw[q,kg]
   ·rw[eX q];exact fh b m
 ·exact Ab _ (I.base.keep b o q n m (nx b)) (nst b m (nL b o q) (ne b o q))
 ·obtain ⟨o',e⟩:=I.base.there b o q (nx b)
  exact ⟨o',Ab _ e (nst b m (nL b o q) (ne b o q))⟩
 ·exact λdx ed=>XD.kd kd (λdx' e'=>⟨o,e1,e7.trans e'⟩) dx ed
end
def t9 (X:Cx)(E:XK):Prop:=∀(pins:List (Addr×Obj)) (σ:St) (H:Hp) (s:v9) (ea C:Addr) (d:Option Addr),Inv X pins σ H s->H ea=some (bF ea C d)->X.s₀.heap.get? ea=none->E (.ref C) d (rm H ea)->X.xe (.ref ea) s
theorem d6 {P:wx}{w:wZ}{K:v5}{mg:Str->Option v8}{base:Heap}{N:List Str}{qual:Str}{sc:Scope}{f:Addr}{cdv:v8}{A:xh}{outer:List Env}{s₀:v9}{H₀:Hp}{E:XK} :
  t9 (jX (CX2 P w) P w K mg base N qual sc f cdv A outer s₀ H₀ E) E:=λpins σ H s ea C d I he hn q=>by
 exact Fly.vS I rfl rfl rfl he hn λh2 B a0 F2 D=>⟨ea,.ref C,a0,B,rm H ea,d,rfl,I.os,I.bare,F2,D,q⟩
def sC (C:Addr)(sp:Sp)(E:XK)(t:TA):TS:=λ_ σ H=>t σ H λvs H1=>vs.length<=wa/\∀ea,H1 ea=none →
 sp (.ref ea :: vs) (upd H1 ea (bF ea C none)) (λv H2=>v = .non/\∃a d,V.ref ea = .ref a/\H2 a=some (bF a C d)/\E (.ref C) d (rm H2 a)) E
theorem bq {X:Cx}{CX:CXT}{k:Nat}{f C:Addr}{fd:wR}{ps:List Str}{sp:Sp}{E:XK}{x:Str}{np cpos pos:Pos}{e:Expr}{es:List Expr}{t:TA}(O:t9 X E)(M:ExK X.K C f)(sb:subIn X.K (.ref C) (.type "BaseException")=some true)(ty:typeIn X.K (.ref C)=some (.type "type"))
  (F:aW X.prog X.w X.K X.mg X.base CX k f fd ps sp) (hr:bE (k+1) X.A) (hg:Gl X x) (hm:X.mg x=some (.ref C)) (hb:Binds X.K fd ps []) (hx:Passes CX X E)
  (ha:PA X (e :: es) t) (hdb:(x == ("__debug__" : Str))=false:=by decide) (he:wX (e :: es) X.env=(false,eval e X.env) :: wX es X.env:=by rfl) (hpl:(yU cpos (wX es X.env)).any (·.1)=false:=by rfl) :
  PS X (.Raise (some (.Call (.Name x np) (e :: es) [] cpos)) none pos) (sC C sp E t):=by
 intro pins s σ H D I h
 rw[arm_exec_Raise]
 have go:wL (wV X.prog X.w) X.A (eval (.Call (.Name x np) (e :: es) [] cpos) X.env) (λv s₁=>∃e o vs,v = .ref e/\X.K.In s₁.heap/\s₁.heap.get? e=some o/\o.cls = .ref C/\o.data = .fields vs/\vs[1]? = some .none/\X.xe (.ref e) s₁) X.xe s:=by
  refine ya (eG I hg hm ?_ hdb)
  refine yO (h₀:=X.base) I.ok.mod.kin M.kp (thn (ha cpos pins s σ H _ I h) λus s1 ⟨vs,H1,I1,r,z,q⟩=>⟨I1.kIn,?_⟩) he hpl
  refine oT (Q:=λv H2=>∃a d,v = .ref a/\H2 a=some (bF a C d)/\E (.ref C) d (rm H2 a)) M F hr hb hx I1 r z q λea s2 H2 n I2 ⟨a,d,ev,e2,q2⟩ =>?_
  cases ev
  obtain ⟨⟨o,ws,t,e1,c1,c2,c3,c4,c5,c6⟩,_⟩:=I2.hok _ _ e2
  exact ⟨ea,o,ws,rfl,I2.kIn,e1,c1,c2,c5,O pins σ H2 s2 ea C d I2 e2 n q2⟩
 refine wb (zp (sA hr.hd sb ty ?_))
 refine wb (xm go (λv s₃ h₃=>wb (zp (wQ h₃))) λ_ _ x=>x)
open PySem PySem.Spec PySem.W PyProof.Rows
section
variable  {K:v5}{prog:wx}{w:wZ}{A:xh}{E:v8->v9->Prop}{h:Heap}{g:Array GenState}{d:Drawn}{t:Nat}{os:OsState}{a C dx:Addr}{o:Obj}{name:Str}{v:v8}{mA:Str->Option v8}
variable  {nm q:Str}{N:Addr}{bs bm:List v8}{sn:List Str}{sub:List v8}{ab:Bool}{col:Option Bool}{dd:Option Addr}{k0 k1 k2 k3 k5:Option v8}{newId:String}
theorem qx {tk:Tok}{Q:PySem.Fin->v9->Prop}(X:K.In h)(na:findIn K (.ref C) name=some none)(hC:h.get? C=some (excClassObj nm q C N bs bm true sn sub ab col dd k0 k1 k2 k3 k5 newId))(hx:h.get? a=some o)(hc:o.cls = .ref C)(hnc:∀c,o.data ≠ .cls c)(hd:o.dict=some dx)(hn:h.Ns dx mA)(hv:mA name=some v)
  (hq:Q (.done (.ret v)) ⟨h,g,d,t,os⟩):wL (wV prog w) A (Builtin.«object.__getattribute__» ⟨[.ref a,.str name tk],[]⟩) Q E ⟨h,g,d,t,os⟩:=by
 have L1:=yj (M:=wV prog w) X na
 repeat (first | (with_reducible refine w4 hx ?_;rw[hc]) | with_reducible refine L1.at ?_ | wp_step)
 split
 ·rename_i c z
  exact absurd z (hnc c)
 unfold instanceDict
 repeat (first | (with_reducible refine w4 hx ?_;rw[hc]) | with_reducible refine w4 hC ?_ | wp_step)
 rw[hd]
 repeat (first | (with_reducible refine wpAny_nsGet hn ?_;rw[hv]) | wp_step)
 exact hq
theorem sD {expr:Bool}{Q:v8->v9->Prop}(X:K.In h)(Z:ExI K C)(na:findIn K (.ref C) name=some none)(hC:h.get? C=some (excClassObj nm q C N bs bm true sn sub ab col dd k0 k1 k2 k3 k5 newId))(hx:h.get? a=some o)(hc:o.cls = .ref C)(hnc:∀c,o.data ≠ .cls c)(hd:o.dict=some dx)(hn:h.Ns dx mA)(hv:mA name=some v)(hh:handedOut v=pure v)
  (hq:Q v ⟨h,g,d,t+1,os⟩):wL (wV prog w) A (getAttr (.ref a) name expr) Q E ⟨h,g,d,t,os⟩:=by
 have f3:=(yq).ga.bind (.ref a)
 have y2:(Value.builtin "BaseException.__getattribute__" == Value.builtin "object.__getattribute__")=false:=by decide +kernel
 have y1:(onTheHeap (wO C) && Value.builtin "BaseException.__getattribute__" == Value.builtin "object.__getattribute__")=false:=by rw[y2];rfl
 have L1:=yj (M:=wV prog w) X Z.ga
 have L2:=yj (M:=wV prog w) X Z.gt
 unfold getAttr getAttrBy
 repeat (any_goals (first | assumption | (with_reducible refine w4 hx ?_;rw[hc]) | with_reducible refine L1.at ?_ | with_reducible refine L2.at ?_ | wp_step))
 rw[show (expr && onTheHeap (Value.builtin "BaseException.__getattribute__"))=false from AD _,if_neg (by decide)]
 unfold boundAndCalled
 repeat (any_goals (first | assumption | wp_step))
 refine yg (yq).ga.plain Bn (kZ X Z hx hc (qx X na hC hx hc hnc hd hn hv ?_))
 show wL _ _ (handedOut v) _ _ _
 rw[hh]
 exact wQ hq
end
def vT (K:v5)(ta:TE)(f:Str):TE:=λσ H Q=>ta σ H λx H1=>∃a C dx fs v,x = .ref a/\H1 a=some (cU a (.ref C) (some dx))/\H1 dx=some (.xd fs)/\ExN K C/\ExI K C/\findIn K (.ref C) f=some none/\fs.lookup f=some v/\Q v H1
theorem uX {X:Cx}{e:Expr}{f:Str}{pos:Pos}{ta:TE}(he:PE X e ta)(hb:attributeBase e f X.env (eval e X.env)=eval e X.env):PE X (.Attribute e f pos) (vT X.K ta f):=by
 intro pins s σ H Q I h
 refine rN hb (thn (he pins s σ H _ I h) λu s1 ⟨x,H1,I1,rx,a,C,dx,fs,v,ex,ea,ed,N,Z,na,l,q⟩ =>?_)
 subst ex
 obtain rfl:u=wO a:=rx
 obtain ⟨nm,qq,N0,bs,bm,sn,sub,ab,col,dd,k0,k1,k2,k3,k5,lk,tl⟩:=N.ob
 obtain ⟨⟨o,vs,e1,e2,e3,e4⟩,_⟩:=I1.hok _ _ ea
 obtain ⟨mA,ns,r⟩:=I1.hok _ _ ed
 obtain ⟨u,hu,ru⟩:=mh.some_of (v:=v) (o:=mA f) (by rw[<- l];exact r f)
 have KI:=I1.kIn
 have J:=I1.tok (s1.toks+1)
 obtain ⟨hh,g,d,tk,os⟩:=s1
 exact sD KI Z na (KI _ _ lk) e1 e2 (λc z=>by rw[e3] at z;cases z) (e4 dx rfl) ns.ns hu (handedOut_of (ox ru)) ⟨v,H1,J,ru,q⟩
open PySem PySem.Spec PySem.W PyProof.Rows
section
variable  {X:Cx}
theorem jF {K:v5}(hK:X.K=K:=by rfl):cS X (.builtin "isinstance") (λxs H Q=>∃(ea C:Addr) (d:Option Addr) (c:V) (b:Bool),xs=[.ref ea,c]/\H ea=some (cU ea (.ref C) d)/\ExI K C/\jE c=true/\kitOne K (.ref C) (sh c)=some b/\Q (.bl b) H):=by
 subst hK
 intro pins s σ H xs us Q I r h
 obtain ⟨ea,C,d,c,b,rfl,he,Z,hc,hk,q⟩:=h
 cases r with | cons r1 r2 =>
 cases r2 with | cons r2 r3 =>
 cases r3
 obtain rfl:=nD hc r2
 have r1:_=wO ea:=r1
 subst r1
 obtain ⟨⟨o,_,e1,e2,_⟩,_⟩:=I.hok ea _ he
 have p:∃o,s.heap.get? ea=some o/\o.cls = .ref C:=⟨o,e1,e2⟩
 exact kia_one (k7 Z) I.kIn p hk (by intro z;cases z) λtk=>⟨.bl b,H,I.tok tk,rfl,q⟩
theorem mH {K:v5}(hK:X.K=K:=by rfl):cS X (.builtin "isinstance") (λxs H Q=>∃(ea C tp:Addr) (d:Option Addr) (cs:List V) (b:Bool),xs=[.ref ea,.ref tp]/\H ea=some (cU ea (.ref C) d)/\ExI K C/\H tp=some (.tup cs)/\(∀c∈cs,jE c=true)/\kitAny K (.ref C) (cs.map sh)=some b/\Q (.bl b) H):=by
 subst hK
 intro pins s σ H xs us Q I r h
 obtain ⟨ea,C,tp,d,cs,b,rfl,he,Z,ht,hc,hk,q⟩:=h
 cases r with | cons r1 r2 =>
 cases r2 with | cons r2 r3 =>
 cases r3
 have r2:_=wO tp:=r2
 subst r2
 have r1:_=wO ea:=r1
 subst r1
 obtain ⟨⟨o,_,e1,e2,_⟩,_⟩:=I.hok ea _ he
 have p:∃o,s.heap.get? ea=some o/\o.cls = .ref C:=⟨o,e1,e2⟩
 obtain ⟨_,its,rt,o,ho,⟨hcl,hd⟩,n,hn⟩:=I.hok tp _ ht
 have e:=k8 hc rt
 subst e
 obtain ⟨oc,od,odt,osl⟩:=o
 simp only at hcl hd hn
 subst hcl hd hn
 exact kia_tup (k7 Z) I.kIn p ho hk (by intro z;cases z) λtk=>⟨.bl b,H,I.tok tk,rfl,q⟩
end
open PySem PySem.Spec PyProof.Rows
def br (K:v5)(x:Str)(st:Stmt):Prop:=∃(f:Addr) (od an:Option Addr) (sl:Array (Option v8)) (oc kV dc pm cd ct:v8),wC K wM x=some (some (.ref f))/\K.lookup f=some ⟨oc,od,.func (PySem.W.fnOf x x (bR st) (bD st) (au st) .none kV dc pm an cd ct),sl⟩/\PySem.W.codeIn K cd x=true/\PySem.W.keepIn K (.ref f)=true
theorem br.mk {K:v5}{x:Str}{st:Stmt}{f:Addr}{od an:Option Addr}{sl:Array (Option v8)}{oc kV dc pm cd ct:v8}(a:wC K wM x=some (some (.ref f)))(l:K.lookup f=some ⟨oc,od,.func (PySem.W.fnOf x x (bR st) (bD st) (au st) .none kV dc pm an cd ct),sl⟩)(c:PySem.W.codeIn K cd x=true)(k:PySem.W.keepIn K (.ref f)=true):br K x st:=⟨_,_,_,_,_,_,_,_,_,_,a,l,c,k⟩
theorem br.cal {K:v5}{x:Str}{st:Stmt}(hf:br K x st)(P:wx)(w:wZ)(base:Heap){h:Heap}{mg:Str->Option v8}(X:K.In h)(G:h.Ns wM mg){lv:Nat}{ps:List Str}{sp:Sp}(ok:∀{f:Addr} {fd:wR},Fun K x x st f fd->aW P w K mg base CX0 lv f fd ps sp)
  (hb:∀(kV doc pm:v8) (an:Option Addr) (cdv ct:v8) (us:List v8),us.length=ps.length->bindArgs (PySem.W.fnOf x x (bR st) (bD st) (au st) .none kV doc pm an cdv ct) ⟨us,[]⟩=pure (ps.zip us)):Cal P w K mg base lv x ps sp:=by
 obtain ⟨f,od,an,sl,oc,kV,dc,pm,cd,ct,a,l,c,k⟩:=hf
 have F:=j8 l c k
 exact ⟨_,_,ok F,xw X G a,k,F.binds hb⟩
open PySem PySem.Spec PySem.W PyProof.Rows
section
variable  {X:Cx}{pins:List (Addr×Obj)}{σ:St}{H:Hp}{s:v9}{h':Heap}
end
section
variable  {X:Cx}
end
def oU (K:v5)(C:Addr)(nm qual:Str)(st:Stmt):Prop:=∃(f:Addr) (od an:Option Addr) (sl:Array (Option v8)) (oc kV dc pm cd ct:v8),findIn K (.ref C) nm=some (some (.ref f))/\isFn K (.ref f)=true/\K.lookup f=some ⟨oc,od,.func (PySem.W.fnOf nm qual (bR st) (bD st) (au st) .none kV dc pm an cd ct),sl⟩/\PySem.W.codeIn K cd qual=true/\PySem.W.keepIn K (.ref f)=true
theorem oU.mk {K:v5}{C:Addr}{nm qual:Str}{st:Stmt}{f:Addr}{od an:Option Addr}{sl:Array (Option v8)}{oc kV dc pm cd ct:v8}(i:findIn K (.ref C) nm=some (some (.ref f)))(n:isFn K (.ref f)=true)(l:K.lookup f=some ⟨oc,od,.func (PySem.W.fnOf nm qual (bR st) (bD st) (au st) .none kV dc pm an cd ct),sl⟩)(c:PySem.W.codeIn K cd qual=true)(k:PySem.W.keepIn K (.ref f)=true):oU K C nm qual st:=⟨_,_,_,_,_,_,_,_,_,_,i,n,l,c,k⟩
structure mI (P:wx)(w:wZ)(K:v5)(mg:Str->Option v8)(base:Heap)(k:Nat)(C:Addr)(ps:List Str)(sp:Sp):Prop where
 ex:∃f fd,ExK K C f/\aW P w K mg base (CX2 P w) k f fd ps sp/\Binds K fd ps []
theorem oU.ini {K:v5}{C:Addr}{qual:Str}{st:Stmt}(hf:oU K C "__init__" qual st)(N:ExN K C)(kp:keepIn K (.ref C)=true)(P:wx)(w:wZ)(base:Heap){mg:Str->Option v8}{lv:Nat}{ps:List Str}{sp:Sp}(ok:∀{f:Addr} {fd:wR},Fun K "__init__" qual st f fd->aW P w K mg base CX0 lv f fd ps sp)
  (hb:∀(kV doc pm:v8) (an:Option Addr) (cdv ct:v8) (us:List v8),us.length=ps.length->bindArgs (PySem.W.fnOf "__init__" qual (bR st) (bD st) (au st) .none kV doc pm an cdv ct) ⟨us,[]⟩=pure (ps.zip us)):mI P w K mg base lv C ps sp:=by
 obtain ⟨f,od,an,sl,oc,kV,dc,pm,cd,ct,i,n,l,c,k⟩:=hf
 have F:=j8 l c k
 exact ⟨_,_,⟨N,i,n,kp⟩,(ok F).cx2,F.binds hb⟩
def sE (K:v5)(C:Addr):Bool:=findIn K (.ref C) "__getattribute__" == some (some (.builtin "BaseException.__getattribute__")) && findIn K (.ref C) "__getattr__" == some none && findIn K (.ref C) "__class__" == some (some (.builtin "object.__class__")) &&
 subIn K (.ref C) (.type "object") == some true && subIn K (.ref C) (.type "BaseException") == some true && (clsIn K C).isSome && keepIn K (.ref C) && typeIn K (.ref C) == some (.type "type")
theorem bc {K:v5}{C:Addr}(h:sE K C=true):ExI K C/\keepIn K (.ref C)=true/\typeIn K (.ref C)=some (.type "type"):=by
 unfold sE at h
 simp only[w6,beq_iff_eq] at h
 obtain ⟨⟨⟨⟨⟨⟨⟨h1,h2⟩,h3⟩,h4⟩,h5⟩,h6⟩,h7⟩,h8⟩:=h
 exact ⟨⟨h1,h2,h3,h4,h5,h6⟩,h7,h8⟩
def sF (K:v5)(C:Addr)(f:Str):Bool :=
 (match K.lookup C with
 | some ⟨.type "type",_,.cls cd,sl⟩=>(match cd.mro,sl.toList with
  | .ref C' :: bm,[_,_,_,_,some (.builtin n),_]=>C' == C && n == "ValueError.__new__" && !cd.hasDel && cd.hasDict && tailIn K jD bm
  | _,_=>false)
 | _=>false) && findIn K (.ref C) "__setattr__" == some (some (.builtin "object.__setattr__")) && findIn K (.ref C) f == some none && subIn K (.ref C) (.type "object") == some true
theorem kh {K:v5}{C:Addr}{f:Str}(h:sF K C f=true):ExN K C/\ExS K C f:=by
 unfold sF at h
 simp only[w6,beq_iff_eq] at h
 obtain ⟨⟨⟨h1,h2⟩,h3⟩,h4⟩:=h
 refine ⟨⟨?_⟩,h2,h3,h4⟩
 split at h1
 ·rename_i d1 c1 sl1 l1
  split at h1
  ·rename_i C1 b1 j0 j1 j2 j3 n1 j5 m1 s1
   simp only[w6,beq_iff_eq,A1] at h1
   obtain ⟨⟨⟨⟨rfl,rfl⟩,q1⟩,q3⟩,q2⟩:=h1
   obtain ⟨a1,a2,a3,a4,a5,a6,a7,a8,a9,a10,a11⟩:=c1
   dsimp only at m1 q1 q3
   subst m1 q1 q3
   obtain ⟨ll⟩:=sl1
   simp only at s1
   subst s1
   exact ⟨a1,a5,a4,a2,b1,a7,a8,a9,a10,d1,j0,j1,j2,j3,j5,l1,q2⟩
  ·cases h1
 ·cases h1
theorem br.fN {K:v5}{x:Str}{st:Stmt}(hf:br K x st)(P:wx)(w:wZ)(base:Heap){h:Heap}{mg:Str->Option v8}(X:K.In h)(G:h.Ns wM mg){lv:Nat}{ps:List Str}{sp:Sp}(ok:∀{f:Addr} {fd:wR},Fun K x x st f fd->aW P w K mg base (CX2 P w) lv f fd ps sp)
  (hb:∀(kV doc pm:v8) (an:Option Addr) (cdv ct:v8) (us:List v8),us.length=ps.length->bindArgs (PySem.W.fnOf x x (bR st) (bD st) (au st) .none kV doc pm an cdv ct) ⟨us,[]⟩=pure (ps.zip us)):cA P w K mg base lv x ps sp:=by
 obtain ⟨f,od,an,sl,oc,kV,dc,pm,cd,ct,a,l,c,k⟩:=hf
 have F:=j8 l c k
 exact ⟨_,_,ok F,xw X G a,k,F.binds hb⟩
open PySem PySem.Spec PyProof.Rows Builtin Builtin.Str
theorem lB:∀{ws:List Str} {us:List v8},Vals (ws.map V.str) us->∃l:List (Str×Tok),us=strValues l/\l.map (·.1)=ws
 | [],_,r=>by cases r;exact ⟨[],rfl,rfl⟩
 | w :: ws,_,r=>by
  cases r with
  | cons h t =>
   obtain ⟨l,rfl,e⟩:=lB t
   obtain ⟨tk,rfl⟩:=h
   exact ⟨(w,tk) :: l,rfl,by rw[xM,e]⟩
theorem jG:∀l:List (Str×Tok),Vals ((l.map (·.1)).map V.str) (strValues l)
 | [] =>.nil
 | p :: l =>.cons ⟨p.2,rfl⟩ (jG l)
section
variable  {X:Cx}
def tBMS (r:V->List V->Hp->VK->Prop)(to:TE)(t:TA):TE:=λσ H Q=>to σ H λx H1=>(∃z,x = .str z)/\t σ H1 λxs H2=>r x xs H2 Q
theorem df {o e:Expr}{es:List Expr}{to:TE}{t:TA}{name:Str}{apos cpos:Pos}{id:String}{r:V->List V->Hp->VK->Prop}(slot:Slot "str" name id)(hty:typeOf (.builtin id)=pure (.type "method_descriptor"))(hm:MtR X id r)(ho:PE X o to)(ha:PA X (e :: es) t)
  (hbase:attributeBase o name X.env (eval o X.env)=eval o X.env:=by rfl)
  (hfew:((yU cpos (wX (e :: es) X.env)).all (λx => !x.1) && (backToKw cpos (keywordEach [] X.env)).all (λx=>x.1.isSome)
   && decide ((e :: es).length+([]:List Keyword).length+(if ([]:List Keyword).isEmpty then 0 else 1)<30))=true:=by rfl)
  (hline:(apos.endLine == cpos.line)=true:=by rfl) (hs:wX (e :: es) X.env=(false,eval e X.env) :: wX es X.env:=by rfl) (hplain:(yU cpos (wX es X.env)).any (·.1)=false:=by rfl) :
  PE X (.Call (.Attribute o name apos) (e :: es) [] cpos) (tBMS r to t):=by
 intro pins s σ H Q I h
 refine An hbase hfew hline rfl (thn (ho pins s σ H _ I h) λv s1 ⟨x,H1,I1,r1,ty,q1⟩ =>?_)
 obtain ⟨z,rfl⟩:=ty
 obtain ⟨tk,rfl⟩:=r1
 refine ⟨"str",id,PySem.F.plainAttrs_str,slot,hty,y8 _ _ _,(λa e=>nomatch e),?_⟩
 have hA:=ha cpos pins s1 σ H1 _ I1 q1
 rw[hs] at hA ⊢
 refine yY (by show (false || (yU cpos (wX es X.env)).any (·.1))=false;rw[hplain] <;> rfl) (zf ?_)
 exact thn hA λus s2 ⟨vs,H2,I2,r2,q2⟩=>hm pins s2 σ H2 (.str z) vs _ us Q I2 ⟨_,rfl⟩ r2 q2
theorem oV:MtR X "str.startswith" (λx vs H Q=>∃y z,x = .str y/\vs=[.str z]/\Q (.bl (Txt.startswith y z)) H):=by
 intro pins s σ H x vs v us Q I rx rv h
 obtain ⟨y,z,rfl,rfl,q⟩:=h
 obtain ⟨t1,rfl⟩:=rx
 obtain ⟨u,rfl,⟨t2,rfl⟩⟩:=vals1 rv
 exact SC.startswith ⟨.bl _,H,I,rfl,q⟩
theorem gW:MtR X "str.join" (λx vs H Q=>∃(z:Str) (p:Addr) (ws:List Str),x = .str z/\vs=[.ref p]/\SqL X.K H p (ws.map V.str)/\JoinOk z ws=true/\Q (.str (Txt.join z ws)) H):=by
 intro pins s σ H x vs v us Q I rx rv h
 obtain ⟨z,p,ws,rfl,rfl,hp,jo,q⟩:=h
 obtain ⟨t1,rfl⟩:=rx
 obtain ⟨u,rfl,ru⟩:=vals1 rv
 cases (show u=wO p from ru)
 obtain ⟨its,r,pl,_⟩:=I.list hp
 obtain ⟨l,rfl,e⟩:=lB r
 exact SC.join pl.isList e jo λt' k=>⟨.str _,H,I.tok _,⟨_,rfl⟩,q⟩
def parted (y z:Str):List Str:=match occurrences y z 0 y.length 1 with
 | i :: _=>[strSub y 0 i,z,strSub y (i+z.length) y.length]
 | []=>[y,Str.empty,Str.empty]
theorem ki:MtR X "str.partition" (λx vs H Q=>∃y z:Str,x = .str y/\vs=[.str z]/\(z.length == 0)=false/\y.length<=wa/\∀p,H p=none->Q (.ref p) (upd H p (.tup ((parted y z).map V.str)))):=by
 intro pins s σ H x vs v us Q I rx rv h
 obtain ⟨y,z,rfl,rfl,hz,hy,q⟩:=h
 obtain ⟨t1,rfl⟩:=rx
 obtain ⟨u,rfl,⟨t2,rfl⟩⟩:=vals1 rv
 refine zS F.slot_str_partition (y8 _ _ _) F.entry_str_partition (F.args_str_partition_2 _ _) (meets_str_partition y z t1 t2 hz hy) ?_
 have q:=q _ (I.hok.fresh (wm s.heap.objs.size))
 unfold parted at q
 have new:∀(a b c:v8) (x y z:Str) (tk:Nat),RelV (.str x) a->RelV (.str y) b->RelV (.str z) c->Inv X pins σ (upd H s.heap.objs.size (.tup [.str x,.str y,.str z])) { s with heap:=s.heap.push { cls :=.type "tuple",data :=.seq [a,b,c].toArray },toks:=tk }:=λa b c x y z tk ra rb rc =>
  I.laid (λ_ _ e=>v7 _ e) (wm _) ⟨by show 3<=wa;decide,[a,b,c],.cons ra (.cons rb (.cons rc .nil)),_,wA _ rfl,⟨rfl,rfl⟩,_,rfl⟩
 cases h:occurrences y z 0 y.length 1 with
 | nil =>
  rw[h] at q
  exact ⟨.ref _,_,new _ _ _ _ _ _ _ ⟨_,rfl⟩ ⟨_,rfl⟩ ⟨_,rfl⟩,rfl,q⟩
 | cons i r =>
  rw[h] at q
  exact ⟨.ref _,_,new _ _ _ _ _ _ _ ⟨_,rfl⟩ ⟨_,rfl⟩ ⟨_,rfl⟩,rfl,q⟩
theorem iu:MtR X "str.split" (λx vs H Q=>∃y z:Str,x = .str y/\vs=[.str z]/\(z.length == 0)=false/\y.length<=wa/\(partsBetween y (occurrences y z 0 y.length (y.length+1)) z.length).length<=wa/\∀p,H p=none->Q (.ref p) (upd H p (.lst ((Txt.split y z).map V.str)))):=by
 intro pins s σ H x vs v us Q I rx rv h
 obtain ⟨y,z,rfl,rfl,hz,hy,hn,q⟩:=h
 obtain ⟨t1,rfl⟩:=rx
 obtain ⟨u,rfl,⟨t2,rfl⟩⟩:=vals1 rv
 have q:=q _ (I.hok.fresh (wm s.heap.objs.size))
 have new:∀(l:List (Str×Tok)) (tk:Nat),l.length<=wa->l.map (·.1)=Txt.split y z->EP X pins σ Q (.ref s.heap.objs.size) { s with heap:=s.heap.push { cls :=.type "list",data :=.seq (strValues l).toArray },toks:=tk }:=λl tk hl e =>
  ⟨.ref _,_,I.laid (o :=.lst ((Txt.split y z).map V.str)) (λ_ _ e=>v7 _ e) (wm _) ⟨by rw[<- e,vZ,vZ];exact hl,strValues l,_,by rw[<- e];exact jG l,wA _ rfl⟩,rfl,q⟩
 cases h1:(decide (y.length<z.length) || decide (strKind y<strKind z)) with
 | true=>exact zS xI (y8 _ _ _) yR (yM _ _) (meets_str_split_cannot_occur y z t1 t2 h1) (new [(y,t1)] _ (by show 1<=wa;decide) (if_pos h1).symm)
 | false =>
  cases hf:(occurrences y z 0 y.length (y.length+1)).isEmpty with
  | true=>exact zS xI (y8 _ _ _) yR (yM _ _) (meets_str_split_not_found y z t1 t2 h1 hz hf) (new [(y,t1)] _ (by show 1<=wa;decide) ((if_neg (by rw[h1];decide)).trans (if_pos hf)).symm)
  | false =>
   refine zS xI (y8 _ _ _) yR (yM _ _) (meets_str_split_sep y z t1 t2 h1 hz hf hy hn) ?_
   have k:=new (numbered s.toks (partsBetween y (occurrences y z 0 y.length (y.length+1)) z.length)) (s.toks+(partsBetween y (occurrences y z 0 y.length (y.length+1)) z.length).length) (by rw[<- vZ (f:=(·.1)),numbered_texts];exact hn) ((numbered_texts _ _).trans ((if_neg (by rw[h1];decide)).trans (if_neg (by rw[hf];decide))).symm)
   rw[<- strsFrom_eq] at k
   exact k
end
open PySem PySem.Spec PyProof.Rows Builtin Builtin.Str
section
variable  {X:Cx}
def shown:V->Option Str
 | .str z=>some z
 | .int i=>if i.natAbs.log2<1920 then some (toString i) else none
 | _=>none
def uY (t:TE):TE:=λσ H Q=>t σ H λx H1=>∃z,shown x=some z/\z.length<=wa/\Q (.str z) H1
theorem dj {e:Expr}{t:TE}{pos:Pos}(h:PE X e t):PE X (.FormattedValue e (-1) none pos) (uY t):=by
 intro pins s σ H Q I q
 refine wpAny_FormattedValue_plain (thn (h pins s σ H _ I q) λv s1 p1 =>?_)
 obtain ⟨x,H1,I1,r1,z,ez,lz,q1⟩:=p1
 cases x with
 | str y =>
  cases (wJ ez:y=z)
  obtain ⟨tk,rfl⟩:=r1
  exact wpAny_formatField_str (hx:=lz) ⟨.str _,H1,I1,⟨_,rfl⟩,q1⟩ ⟨.str _,H1,I1.tok _,⟨_,rfl⟩,q1⟩
 | int i =>
  by_cases hl:i.natAbs.log2<1920
  ·have e:=(if_pos hl).symm.trans ez
   cases (wJ e)
   obtain ⟨tk,rfl⟩:=r1
   exact wpAny_formatField_int hl ⟨.str _,H1,I1.tok _,⟨_,rfl⟩,q1⟩
  ·cases (if_neg hl).symm.trans ez
 | non=>cases ez
 | bl b=>cases ez
 | byt b=>cases ez
 | flt b=>cases ez
 | ref a=>cases ez
 | ty n=>cases ez
def qy:List TE->Str->TE
 | [],acc,_,H,Q=>acc.length<=wa/\Q (.str acc) H
 | t :: ts,acc,σ,H,Q=>t σ H λx H1=>∃y,x = .str y/\(acc++y).length<=wa/\qy ts (acc++y) σ H1 Q
def PFs (X:Cx):List Expr->List TE->Prop
 | [],[]=>True
 | e :: es,t :: ts=>PE X e t/\PFs X es ts
 | _,_=>False
theorem kj:PFs X [] []:=trivial
theorem cw {e:Expr}{es:List Expr}{t:TE}{ts:List TE}(h:PE X e t)(hs:PFs X es ts):PFs X (e :: es) (t :: ts):=⟨h,hs⟩
theorem lC {pins:List (Addr×Obj)}{σ:St}{Q:VK}:∀{es:List Expr} {ts:List TE} {acc:Str} {H:Hp} {s:v9},PFs X es ts->Inv X pins σ H s->qy ts acc σ H Q->Joins (wV X.prog X.w) X.A X.xe (evalEach es X.env) acc (λout s1=>out.length<=wa/\EP X pins σ Q (.str out s1.toks) { s1 with toks:=s1.toks+1 }) s
 | [],[],acc,H,s,_,I,q=>⟨q.1,.str acc,H,I.tok _,⟨_,rfl⟩,q.2⟩
 | e :: es,t :: ts,acc,H,s,p,I,q=>thn (p.1 pins s σ H _ I q) λv s1 z=>by
  obtain ⟨x,H1,I1,r1,y,rfl,hl,q1⟩:=z
  obtain ⟨tk,rfl⟩:=r1
  exact ⟨y,tk,rfl,hl,lC p.2 I1 q1⟩
 | [],_ :: _,_,_,_,p,_,_=>p.elim
 | _ :: _,[],_,_,_,p,_,_=>p.elim
theorem kn {e1 e2:Expr}{es:List Expr}{ts:List TE}{pos:Pos}(h:PFs X (e1 :: e2 :: es) ts):PE X (.JoinedStr (e1 :: e2 :: es) pos) (qy ts Str.empty):=λpins s σ H Q I q=>wpAny_JoinedStr (lC h I q)
end
open PySem PySem.Spec PyProof.Rows Builtin Builtin.Str
def Its (z:Str):It:=⟨λi _=>i<z.cps.size,λi H x H'=>H'=H/\∃c,z.cps[i]? = some c/\x = .str ⟨#[c]⟩,λi _=>z.cps.size<=i⟩
theorem qz {P:wx}{w:wZ}{K:v5}{tg:Expr}{z:Str}{tk:Tok}(it:Addr):Turn P w K tg (Its z) [it] it (λi h=>h.IsStrIter it (strIterType z) z tk i) where
 mem:=by simp
 obj:=λi h st b hb=>by
  obtain rfl:b=it:=by simpa using hb
  obtain ⟨o,e,c,d⟩:=st
  exact ⟨o,e,λv z=>by rw[d] at z;cases z⟩
 keep:=λi h h' st k=>by
  obtain ⟨o,e,r⟩:=st
  exact ⟨o,k it (by simp) o e,r⟩
 item:=by
  intro X hP hw hK hcl i pins s σ H E I hf st hg
  subst hP hw hK
  obtain ⟨f0,f1,f2,f3,f4,f5⟩:=hf it (by simp)
  have ec:z.cps[i]? = some z.cps[i]:=Array.getElem?_eq_getElem hg
  have go:∀h':Heap,h'.IsStrIter it (strIterType z) z tk (i+1)->Heap.SameBut it s.heap h'->∃u,some (Value.str ⟨#[z.cps[i]]⟩ s.toks)=some u/\wL (wV X.prog X.w) X.A (letOwnedTupleGo tg (.ref it) u) (λ_ s2=>∃x H',Inv X pins σ H' s2/\RelV x u/\(Its z).yld i H x H'/\s2.heap.IsStrIter it (strIterType z) z tk (i+1)/\∀b∈[it],H' b=none) E { s with heap:=h',toks:=s.toks+1 }:=λh' st' sb=>by
   have I1:Inv X pins σ H { s with heap:=h',toks:=s.toks+1 }:=I.turned (t':=s.toks+1) (λb o hb e=>(sb.2 b hb).trans e) f0 f1 f3 f4 f5
   obtain ⟨o,e,c,dd⟩:=id st'
   refine ⟨_,rfl,ng (s:={ s with heap:=h',toks:=s.toks+1 }) e c dd ?_ ⟨.str ⟨#[z.cps[i]]⟩,H,I1,⟨_,rfl⟩,⟨rfl,_,ec,rfl⟩,st',λb hb=>(hf b hb).1⟩⟩
   unfold strIterType
   split <;> decide
  cases ha:z.cps.all (· < 128) with
  | true =>
   have et:strIterType z = "str_ascii_iterator" := by simp[strIterType,ha]
   rw[et] at st go ⊢
   exact wpAny_pyNext_ascii_item st ec λh' st' sb=>go h' st' sb
  | false =>
   have et:strIterType z = "str_iterator" := by simp[strIterType,ha]
   rw[et] at st go ⊢
   exact wpAny_pyNext_wide_item st ec λh' st' sb=>go h' st' sb
 done:=by
  intro X hP hw hK hcl i pins s σ H E I hf st hg
  subst hP hw hK
  obtain ⟨f0,f1,f2,f3,f4,f5⟩:=hf it (by simp)
  cases ha:z.cps.all (· < 128) with
  | true =>
   have et:strIterType z = "str_ascii_iterator" := by simp[strIterType,ha]
   rw[et] at st
   exact wpAny_pyNext_ascii_end (I.ok.hd hcl) st (Aj hg) λh' eb=>⟨rfl,I.turned (t':=s.toks) (λb o hb e=>eb b o hb e) f0 f1 f3 f4 f5⟩
  | false =>
   have et:strIterType z = "str_iterator" := by simp[strIterType,ha]
   rw[et] at st
   exact wpAny_pyNext_wide_end (I.ok.hd hcl) st (Aj hg) λh' eb=>⟨rfl,I.turned (t':=s.toks) (λb o hb e=>eb b o hb e) f0 f1 f3 f4 f5⟩
 self:=λA i s Q E st h=>by
  cases ha:z.cps.all (· < 128) with
  | true =>
   have et:strIterType z = "str_ascii_iterator" := by simp[strIterType,ha]
   rw[et] at st
   exact wpAny_pyIter_striter_ascii st h
  | false =>
   have et:strIterType z = "str_iterator" := by simp[strIterType,ha]
   rw[et] at st
   exact wpAny_pyIter_striter_wide st h
def iStr (tl:TE):TI:=λσ H R=>tl σ H λx H1=>∃z,x = .str z/\R (Its z) H1
theorem uZ {X:Cx}{tg l:Expr}{tl:TE}(hl:PE X l tl):PI X tg l (iStr tl):=by
 intro pins s σ H R I h
 refine thn (hl pins s σ H _ I h) λv s1 p1 =>?_
 obtain ⟨_,H1,I1,r1,z,rfl,q⟩:=p1
 obtain ⟨tk,rfl⟩:=r1
 refine wpAny_pyIter_strU ⟨s1.heap.objs.size,[s1.heap.objs.size],_,_,_,rfl,I1.kept (t':=s1.toks) λb o e=>v7 _ e,qz (tk:=tk) _,⟨_,wA _ rfl,rfl,rfl⟩,λb hb =>?_,q⟩
 obtain rfl:b=s1.heap.objs.size:=by simpa using hb
 exact I1.mq (wm _) (I1.hok.fresh (wm _))
theorem oW {z:Str}{k:Nat}{tc:TT}{te:TE}{τ:St}{H:Hp}{Q:VK}(Pv:Nat->List V->Hp->Prop)(h0:Pv 0 [] H)(hz:z.cps.size<=wa)
  (hs:∀i c ys H,z.cps[i]? = some c->ys.length<=i->Pv i ys H->nA k tc te τ Pv i (.str ⟨#[c]⟩) ys H)
  (hd:∀ys H,ys.length<=z.cps.size->Pv z.cps.size ys H->∀l,H l=none->Q (.ref l) (upd H l (.lst ys))) :
  ig (Its z) (dS k) tc te τ Q H:=by
 refine ⟨λi m σ ys H=>m=z.cps.size-i/\i<=z.cps.size/\(∀x,σ.set k (some x)=τ.set k (some x))/\ys.length<=i/\Pv i ys H,⟨z.cps.size,by simp,xj _,λ_=>rfl,wm _,h0⟩,?_⟩
 rintro i m σ ys H ⟨rfl,hi,hτ,hy,p⟩
 by_cases hlt:i<z.cps.size
 ·refine .inr ⟨hlt,λx H' y =>?_⟩
  obtain ⟨e,c,hc,rfl⟩:=y
  subst e
  show tc (σ.set k (some _)) _ _
  rw[hτ (.str ⟨#[c]⟩)]
  have hσ:∀v,(τ.set k (some (.str ⟨#[c]⟩))).set k (some v)=τ.set k (some v):=λv=>by rw[zI]
  refine hs i c ys _ hc hy p _ _ (λy4 H4 p4=>⟨by omega,z.cps.size-(i+1),by omega,rfl,hlt,hσ,by rw[wc,wj];omega,p4⟩) λH3 p3=>⟨z.cps.size-(i+1),by omega,rfl,hlt,hσ,by omega,p3⟩
 ·obtain rfl:i=z.cps.size:=by omega
  exact .inl ⟨wm _,by omega,hd ys H hy p⟩
theorem eJ {X:Cx}:cS X (.type "int") (λxs H Q=>∃(z:Str) (n:Int),xs=[.str z]/\PySem.intText? z=some n/\z.length<=640/\Q (.int n) H):=by
 intro pins s σ H xs us Q I r h
 obtain ⟨z,n,rfl,hn,hl,q⟩:=h
 obtain ⟨u,rfl,⟨tk,rfl⟩⟩:=vals1 r
 exact PySem.W.KIN.call_text hn hl ⟨.int n,H,I.tok _,⟨_,rfl⟩,q⟩
open PySem PySem.Spec PyProof.Rows
def sH (P:wx)(w:wZ)(K:v5)(mg:Str->Option v8)(base:Heap)(k:Nat)(f:Addr)(ps:List Str)(sp:Sp):Prop:=∃fd,aW P w K mg base CX0 k f fd ps sp/\PySem.W.keepIn K (.ref f)=true/\Binds K fd ps []
theorem Cal.val {P:wx}{w:wZ}{K:v5}{mg:Str->Option v8}{base:Heap}{k:Nat}{x:Str}{ps:List Str}{sp:Sp}(c:Cal P w K mg base k x ps sp):∃f,mg x=some (.ref f)/\sH P w K mg base k f ps sp:=by
 obtain ⟨f,fd,F,m,kp,b⟩:=c.ex
 exact ⟨f,m,fd,F,kp,b⟩
def u4 (X:Cx)(k:Nat)(tf:TE)(t:TA):TE:=λσ H Q=>tf σ H λx H1=>∃f ps sp,x = .ref f/\sH X.prog X.w X.K X.mg X.base k f ps sp/\t σ H1 λvs H2=>sp vs H2 Q E0
theorem qA {X:Cx}(k:Nat){j:Nat}{x:Str}{e:Expr}{es:List Expr}{tf:TE}{t:TA}{p pos:Pos}(hv:PE X (.Name x p) tf)(hr:bE j X.A)(hj:k<=j)(ha:PA X (e :: es) t)
  (he:wX (e :: es) X.env=(false,eval e X.env) :: wX es X.env:=by rfl) (hpl:(yU pos (wX es X.env)).any (·.1)=false:=by rfl) :
  PE X (.Call (.Name x p) (e :: es) [] pos) (u4 X k tf t):=by
 intro pins s σ H Q I h
 refine ya (thn (hv pins s σ H _ I h) λv s1 p1 =>?_)
 obtain ⟨_,H1,I1,r1,f,ps,sp,rfl,C,q⟩:=p1
 cases r1
 obtain ⟨fd,F,kp,b⟩:=C
 refine yO (h₀:=X.base) I1.ok.mod.kin kp (thn (ha pos pins s1 σ H1 _ I1 q) λus s2 p2 =>?_) he hpl
 obtain ⟨vs,H2,I2,r,q2⟩:=p2
 exact ⟨I2.kIn,p6 F (hr.mono hj) b .nil t6 I2 r (by rw[xU];exact q2)⟩
open PySem PySem.Spec PyProof.Rows Builtin Builtin.Str
theorem ko {c:Nat}:∀{a b A B:List Nat},c∉a->c∉b->a++c :: A=b++c :: B->a=b/\A=B
 | [],[],_,_,_,_,h=>⟨rfl,(xx h).2⟩
 | [],y :: b,_,_,_,hb,h=>absurd (by rw[(xx h).1];exact wN) hb
 | x :: a,[],_,_,ha,_,h=>absurd (by rw[<- (xx h).1];exact wN) ha
 | x :: a,y :: b,_,_,ha,hb,h=>by
  obtain ⟨h1,h2⟩:=xx h
  obtain ⟨e1,e2⟩:=ko (λz=>ha (wD _ z)) (λz=>hb (wD _ z)) h2
  exact ⟨by rw[h1,e1],e2⟩
theorem cV (x y:Str):(x++y).cps.toList=x.cps.toList++y.cps.toList:=by
 show (x.cps++y.cps).toList=_
 simp
theorem cp {x y:Str}(h:x.cps.toList=y.cps.toList):x=y:=by
 cases x;cases y
 congr 1
 exact Array.toList_inj.mp h
theorem fO (c:Nat)(x y:Str)(r:List Str):(Str.join ⟨#[c]⟩ (x :: y :: r)).cps.toList=x.cps.toList++c :: (Str.join ⟨#[c]⟩ (y :: r)).cps.toList:=by
 show (x++⟨#[c]⟩++Str.join ⟨#[c]⟩ (y :: r)).cps.toList=_
 rw[cV,cV,yA]
 rfl
theorem lD {c:Nat}:∀{xs ys:List Str},xs≠[]->ys≠[]->(∀p∈xs,c∉p.cps.toList)->(∀p∈ys,c∉p.cps.toList)->(Str.join ⟨#[c]⟩ xs).cps.toList=(Str.join ⟨#[c]⟩ ys).cps.toList->xs=ys
 | [],_,h,_,_,_,_=>absurd rfl h
 | _,[],_,h,_,_,_=>absurd rfl h
 | [x],[y],_,_,_,_,e=>by rw[cp (show x.cps.toList=y.cps.toList from e)]
 | [x],y :: z :: s,_,_,hx,_,e=>by
  rw[fO] at e
  exact absurd (show c∈x.cps.toList by rw[show x.cps.toList=_ from e];exact wI _ wN) (hx x wN)
 | x :: z :: r,[y],_,_,_,hy,e=>by
  rw[fO] at e
  exact absurd (show c∈y.cps.toList by rw[show y.cps.toList=_ from e.symm];exact wI _ wN) (hy y wN)
 | x :: z :: r,y :: w :: s,_,_,hx,hy,e=>by
  rw[fO,fO] at e
  obtain ⟨e1,e2⟩:=ko (hx x wN) (hy y wN) e
  rw[cp e1,lD (xs:=z :: r) (ys:=w :: s) (by simp) (by simp) (λp hp=>hx p (wD _ hp)) (λp hp=>hy p (wD _ hp)) e2]
theorem fP {c:Nat}{ws:List Str}(h0:ws≠[])(hf:∀p∈ws,c∉p.cps.toList):Txt.split (Txt.join ⟨#[c]⟩ ws) ⟨#[c]⟩=ws:=by
 refine lD (λz =>?_) h0 (AQ _ c) hf ?_
 ·have:=split_pos (Txt.join ⟨#[c]⟩ ws) ⟨#[c]⟩
  rw[z] at this
  exact absurd this (by decide)
 ·rw[xO]
  show (glued ⟨#[c]⟩ ws).cps.toList=_
  rw[xo]
theorem oX {a b:Str}{c:Nat}(h:c∉a.cps.toList):parted (a++⟨#[c]⟩++b) ⟨#[c]⟩=[a,⟨#[c]⟩,b]:=by
 have ex:(a++⟨#[c]⟩++b).cps.toList=a.cps.toList++c :: b.cps.toList:=by
  rw[cV,cV,yA];rfl
 have lx:(a++⟨#[c]⟩++b).length=a.length+(b.length+1):=by
  show (a++⟨#[c]⟩++b).cps.size=a.cps.size+(b.cps.size+1)
  rw[<- xi,ex,wc,wk,xi,xi]
 have la:a.cps.toList.length=a.length:=xi
 have lb:b.cps.toList.length=b.length:=xi
 generalize a++⟨#[c]⟩++b=X at ex lx
 have hA:StrLaws.At X ⟨#[c]⟩ X.length a.length:=by
  refine (y3 X c a.length).mpr ?_
  rw[ex,yC (by omega),la,Nat.sub_self];rfl
 unfold parted
 rcases StrLaws.occ_head X ⟨#[c]⟩ 1 (wm 1) with ⟨e,n⟩ | ⟨i,r,e,at',first⟩
 ·exact absurd hA (n _)
 ·have hi:i=a.length:=by
   have ci:=(y3 X c i).mp at'
   rcases Nat.lt_trichotomy i a.length with y | y | y
   ·rw[ex,zM (by omega)] at ci
    exact absurd (xb ci) h
   ·exact y
   ·exact absurd hA (first _ y)
  subst hi
  rw[e]
  show [strSub X 0 a.length,_,strSub X (a.length+1) X.length]=_
  have e1:strSub X 0 a.length=a:=by
   apply cp
   rw[yr,Bx,ex,Nat.sub_zero, <- la,Bo]
   rfl
  have e2:strSub X (a.length+1) X.length=b:=by
   apply cp
   rw[yr,ex,show a.length+1=a.cps.toList.length+1 by rw[la],List.drop_append,Ak (by omega),List.nil_append]
   rw[show a.cps.toList.length+1-a.cps.toList.length=1 by omega]
   show b.cps.toList.take _=_
   exact xB (by omega)
  rw[e1,e2]
end L2
namespace HT
open PySem PyProof.Rows
def lexLe:List Int->List Int->Bool
 | [],_=>true
 | _ :: _,[]=>false
 | x :: xs,y :: ys=>if x=y then lexLe xs ys else decide (x<=y)
theorem fi (x y:Int)(xs ys:List Int):lexLe (x :: xs) (y :: ys)=if x=y then lexLe xs ys else decide (x<=y):=rfl
theorem eY:lexLe [] []=true:=rfl
theorem iw (y:Int)(ys:List Int):lexLe [] (y :: ys)=true:=rfl
theorem iy (x:Int)(xs:List Int):lexLe (x :: xs) []=false:=rfl
theorem qB (A:xh)(s:v9)(a:Int)(t:Tok)(c:Int)(u:Tok)(prog:wx)(w:wZ)(E:v8->v9->Prop)(Q:v8->v9->Prop)(h:Q (.bool (decide (a<=c))) s) :
  wL (wV prog w) A (richCompare .LtE (.int a t) (.int c u)) Q E s :=
 (PyProof.Rows.le_int h:wL (wV prog w) A (xn .LtE (.int a t) (.int c u)) Q E s)
section
open PySem.SeqAt
open PySem.AutoSeq1 (wpAny_loadPart')
open PySem.MeetsSeq PySem.MeetsSeq2 PySem.MeetsSeq3
theorem jd (l b:Addr)(items items2:Array v8)(n n2:Nat)(dd dd2:Option Addr)(sl sl2:Array (Option v8))(ns ms:List Int)(hi:yf items.toList ns)(hj:yf items2.toList ms) :
  Meets (Builtin.«tuple.__le__» ⟨[.ref l,.ref b],[]⟩)
   (λ_ R s=>s.heap.get? l=some { cls :=.type "tuple",dict:=dd,data :=.seq items n,slots:=sl }/\s.heap.get? b=some { cls :=.type "tuple",dict:=dd2,data :=.seq items2 n2,slots:=sl2 } ∧
    R (.ok (.ret (.bool (lexLe ns ms)))) s) :=
 .of_wp λprog w A R s h=>by
  obtain ⟨hp,g,d,tk,os⟩:=s;obtain ⟨hl,hb,h⟩:=h
  have f2:=zO
  have z1:items.size=ns.length:=by rw[<- hi.length];simp
  have z2:items2.size=ms.length:=by rw[<- hj.length];simp
  wp_walk using wpAny_loadPart' hl,wpAny_loadPart' hb,wpAny_forIn_list _ (λrest b s'=>b.1=none/\s'=⟨hp,g,d,tk,os⟩/\∃(vs ws:List v8) (ns' ms':List Int),rest=vs.zip ws ∧
   yf vs ns'/\yf ws ms'/\ns'.length+items2.size=ms'.length+items.size/\R (.ok (.ret (.bool (lexLe ns' ms')))) ⟨hp,g,d,tk,os⟩) _
  case turn =>
   rintro ⟨y,x⟩ rest b s' ⟨hb',rfl,vs,ws,ns',ms',hz,hvi,hwi,hlen,hR⟩
   cases hvi with
   | nil=>rw[AY] at hz;cases hz
   | cons a t hvi' =>
    cases hwi with
    | nil=>rw[AN] at hz;cases hz
    | cons c u hwi' =>
     rw[yP] at hz
     injection hz with hyx hrest
     injection hyx with hy hx
     subst hy hx
     rw[fi] at hR
     simp only[wk] at hlen
     obtain ⟨e,he,hiff⟩:=kQ A.in1 ⟨hp,g,d,tk,os⟩ a t c u
     refine wb (he prog w _ _ ?_)
     cases e with
     | true =>
      rw[if_pos (hiff.mp rfl)] at hR
      wp_walk
      exact ⟨rfl,rfl,_,_,_,_,hrest,hvi',hwi',by omega,hR⟩
     | false =>
      rw[if_neg (λq=>absurd (hiff.mpr q) wz)] at hR
      have hri:=qB A.in1 ⟨hp,g,d,tk,os⟩ a t c u prog w
      wp_walk using hri
      exact ⟨_,rfl,by simpa using hR⟩
  case fin =>
   rintro ⟨b1,b2⟩ s' ⟨hb',rfl,vs,ws,ns',ms',hz,hvi,hwi,hlen,hR⟩
   simp only at hb'
   subst hb'
   have hv:lexLe ns' ms'=decide (items.size<=items2.size):=by
    cases hvi with
    | nil =>
     cases hwi with
     | nil =>
      simp only[w9] at hlen
      rw[eY]
      exact (decide_eq_true (by omega)).symm
     | cons c u hw =>
      simp only[w9,wk] at hlen
      rw[iw]
      exact (decide_eq_true (by omega)).symm
    | cons a t hv =>
     cases hwi with
     | nil =>
      simp only[w9,wk] at hlen
      rw[iy]
      exact (decide_eq_false (by omega)).symm
     | cons c u hw =>
      rw[yP] at hz
      cases hz
   rw[hv] at hR
   wp_walk
   exact ⟨_,rfl,by simpa [Builtin.Tuple.tupleCompareSizes] using hR⟩
  case h =>
   exact ⟨rfl,rfl,items.toList,items2.toList,ns,ms,rfl,hi,hj,by omega,h⟩
end
section
variable  {prog:wx}{w:wZ}{A:xh}{E:v8->v9->Prop}{s:v9}
theorem mJ {l b:Addr}{items items2:Array v8}{ns ms:List Int}{Q:v8->v9->Prop}(hl:IsTup s.heap l items)(hb:IsTup s.heap b items2)(hi:yf items.toList ns)(hj:yf items2.toList ms)
  (hu:A.units<cLine) (h:Q (.bool (lexLe ns ms)) s):wL (wV prog w) A (xn .LtE (.ref l) (.ref b)) Q E s:=by
 obtain ⟨⟨cls,dd,data,sl⟩,ho,hc,n,hd⟩:=id hl
 obtain ⟨⟨cls2,dd2,data2,sl2⟩,ho2,hc2,n2,hd2⟩:=id hb
 simp only at hc hd hc2 hd2
 subst hc hd hc2 hd2
 exact xC (op :=.LtE) ⟨_,ho,rfl⟩ ⟨_,ho2,rfl⟩ PySem.F.slot_tuple_le PySem.F.entry_tuple_le (PySem.F.args_tuple_le_2 _ _) (jd l b items items2 n n2 dd dd2 sl sl2 ns ms hi hj)
  ⟨ho,ho2,show Value.bool (lexLe ns ms)≠Value.notImplemented/\Q (.bool (lexLe ns ms)) s from ⟨(λx=>nomatch x),h⟩⟩ hu
end
end HT
namespace L2
open PySem PySem.Spec PyProof.Rows
section
variable  {X:Cx}
def rLeT (K:v5):R2:=λx y H Q=>∃a b ns ms,x = .ref a/\y = .ref b/\SqT K H a (ns.map V.int)/\SqT K H b (ms.map V.int)/\Q (.bl (HT.lexLe ns ms)) H
theorem u5 (hu:X.A.units<cLine):OpR X (xn .LtE) (rLeT X.K):=by
 intro pins s σ H x y v u Q I rx ry h
 obtain ⟨a,b,ns,ms,rfl,rfl,ha,hb,q⟩:=h
 cases rx
 cases ry
 obtain ⟨its,r1,p1,_⟩:=I.tuple ha
 obtain ⟨its2,r2,p2,_⟩:=I.tuple hb
 exact HT.mJ p1 p2 (intsAre_of r1:yf its.toArray.toList ns) (intsAre_of r2:yf its2.toArray.toList ms) hu ⟨.bl (HT.lexLe ns ms),H,I,rfl,q⟩
end
open PySem PySem.Spec PyProof.Rows PySem.NumText
abbrev aN (m:Nat):Str:=Str.ofString (toString (m:Int))
abbrev dg (m:Nat):List Char:=Nat.toDigits 10 m
theorem cc (m:Nat):(aN m).cps.toList=(dg m).map Char.toNat:=PySem.W.KIN.signs_num m
theorem d7 {m:Nat}(h:m<10):dg m=[Nat.digitChar m]:=zZ h
theorem gm {m:Nat}(h:¬ m<10):dg m=dg (m/10)++[Nat.digitChar (m%10)]:=by
 have hm:m%10<10:=Nat.mod_lt m (by decide)
 have t:Nat.toDigits 10 (m/10)++Nat.toDigits 10 (m%10)=Nat.toDigits 10 (10*(m/10)+m%10):=Nat.toDigits_append_toDigits (by decide) (by omega) hm
 rw[Nat.div_add_mod,zZ hm] at t
 exact t.symm
theorem mK (m:Nat):1<=(dg m).length:=by
 by_cases h:m<10
 ·rw[d7 h];exact wm 1
 ·rw[gm h,wc];exact Nat.le_add_left _ _
theorem sI:∀(k n:Nat),n<=k->(dg n).length<=(dg k).length:=by
 intro k
 induction k using Nat.strongRecOn with
 | _ k ih =>
  intro n hn
  by_cases h:n<10
  ·rw[d7 h];exact mK k
  ·rw[gm h,gm (m:=k) (by omega),wc,wc]
   have:=ih (k/10) (by omega) (n/10) (by omega)
   exact Nat.add_le_add_right this _
theorem lE (m:Nat):(aN m).length=(dg m).length:=by
 show (aN m).cps.size=_
 rw[<- xi,cc,vZ]
theorem jH {n k:Nat}(h:n<=k):(aN n).length<=(aN k).length:=by
 rw[lE,lE]
 exact sI k n h
theorem jJ:∀d:Nat,d<10->48<=(Nat.digitChar d).toNat/\(Nat.digitChar d).toNat<=57:=by decide
theorem qC:∀d:Nat,d<10->0<d->49<=(Nat.digitChar d).toNat:=by decide
theorem u6 (m:Nat):∀c∈dg m,48<=c.toNat/\c.toNat<=57:=by
 induction m using Nat.strongRecOn with
 | _ m ih =>
  intro c hc
  by_cases h:m<10
  ·rw[d7 h] at hc
   rw[wo.mp hc]
   exact jJ m h
  ·rw[gm h] at hc
   rcases wK.mp hc with y | y
   ·exact ih (m/10) (by omega) c y
   ·rw[wo.mp y]
    exact jJ _ (Nat.mod_lt m (by decide))
theorem sJ (m:Nat)(h0:0<m):∃c r,dg m=c :: r/\49<=c.toNat:=by
 induction m using Nat.strongRecOn with
 | _ m ih =>
  by_cases h:m<10
  ·exact ⟨_,[],d7 h,qC m h h0⟩
  ·obtain ⟨c,r,e,hc⟩:=ih (m/10) (by omega) (by omega)
   exact ⟨c,r++[Nat.digitChar (m%10)],by rw[gm h,e];rfl,hc⟩
theorem d8 (m:Nat):∀c∈(aN m).cps.toList,48<=c/\c<=57:=λc hc=>by
 rw[cc] at hc
 obtain ⟨x,hx,rfl⟩:=x9.mp hc
 exact u6 m x hx
theorem cj {m:Nat}(hl:(aN m).length<=4300):PySem.intText? (aN m)=some (m:Int):=by
 have hd:AllDigits (aN m).cps.toList:=λc hc=>d8 m c hc
 have hne:(aN m).cps.toList≠[]:=λz=>by
  have:=mK m
  rw[cc] at z
  rw[zz.mp z] at this
  exact absurd this (by decide)
 have e:=intText_digits hd hne hl
 rw[cc,zg] at e
 exact e
theorem oY {m:Nat}(h:0<m):Txt.startswith (aN m) "0" = false:=by
 obtain ⟨c,r,e,hc⟩:=sJ m h
 have e2:(aN m).cps.toList[0]? = some c.toNat:=by rw[cc,e];rfl
 cases z:Txt.startswith (aN m) "0" with
 | false=>rfl
 | true =>
  have z2:(decide (0+(Str.ofString "0").length<=(aN m).length) && Builtin.Str.subAt (aN m) "0" 0)=true:=z
  rw[w6,decide_eq_true_iff] at z2
  have:=(y3 (aN m) 48 0).mp ⟨z2.1,z2.2⟩
  rw[e2] at this
  have:=wJ this
  omega
open PySem PySem.Spec PyProof.Rows Builtin Builtin.Str
def qD (K:v5)(w:wZ)(d:Addr):Prop:=(d == sysModules)=false/\∃es n,K.lookup d=some ⟨.type "dict",none,.dict es n, #[]⟩/\PySem.W.KeysLit w.params es.toList
section
variable  {X:Cx}
theorem qD.map {pins:List (Addr×Obj)}{σ:St}{H:Hp}{s:v9}{d:Addr}(D:qD X.K X.w d)(I:Inv X pins σ H s):∃f,s.heap.MapOf (strKind X.prog X.w) d f/\∀z r,wC X.K d z=some r->f z=r:=by
 obtain ⟨_,es,n,hl,hk⟩:=D
 exact ⟨_,PySem.W.mapOf_K I.kIn hl hk,λz r e=>PySem.W.find_K hl e⟩
theorem mL:OpR X (xn .NotIn) (λx y H Q=>∃(z:Str) (d:Addr) (r:Option v8),x = .str z/\y = .ref d/\qD X.K X.w d/\wC X.K d z=some r/\Q (.bl (!r.isSome)) H):=by
 intro pins s σ H x y v u Q I rx ry h
 obtain ⟨z,d,r,rfl,rfl,D,e,q⟩:=h
 obtain ⟨tk,rfl⟩:=rx
 cases (show u=wO d from ry)
 obtain ⟨f,M,hf⟩:=D.map I
 refine wpAny_notIn_of (strKind_is X.prog X.w z tk) D.1 M ?_
 rw[hf z r e]
 exact ⟨.bl _,H,I.tok _,rfl,q⟩
def u7 (X:Cx)(td ty:TE):TE:=λσ H Q=>td σ H λx H1=>ty σ H1 λy H2=>∃(z:Str) (d:Addr) (i:Int) (t:Tok),x = .ref d/\y = .str z/\qD X.K X.w d/\wC X.K d z=some (some (.int i t))/\Q (.int i) H2
theorem qE {o i:Expr}{td ty:TE}{pos:Pos}(ho:PE X o td)(hi:PE X i ty)(hs:vG i):PE X (.Subscript o i pos) (u7 X td ty):=by
 intro pins s σ H Q I h
 refine rZ PySem.F.slot_dict_getitem.lookup hs (thn (ho pins s σ H _ I h) λu s1 ⟨x,H1,I1,rx,q1⟩=>thn (hi pins s1 σ H1 _ I1 q1) λiv s2 ⟨y,H2,I2,ry,p2⟩ =>?_)
 obtain ⟨z,d,i,t,rfl,rfl,D,e,q2⟩:=p2
 obtain ⟨tk,rfl⟩:=ry
 cases (show u=wO d from rx)
 obtain ⟨f,M,hf⟩:=D.map I2
 exact ⟨M.typeIs,wpAny_getItem_of (strKind_is X.prog X.w z tk) M (hf z _ e) ⟨.int i,H2,I2.tok _,⟨_,rfl⟩,q2⟩⟩
theorem oZ:cS X (.type "str") (λxs H Q=>∃x z,xs=[x]/\shown x=some z/\Q (.str z) H):=by
 intro pins s σ H xs us Q I r h
 obtain ⟨x,z,rfl,ez,q⟩:=h
 obtain ⟨u,rfl,r1⟩:=vals1 r
 cases x with
 | str y =>
  cases (wJ ez:y=z)
  obtain ⟨tk,rfl⟩:=r1
  exact P.str_of_str ⟨.str _,H,I,⟨_,rfl⟩,q⟩
 | int i =>
  by_cases hl:i.natAbs.log2<1920
  ·have e:=(if_pos hl).symm.trans ez
   cases (wJ e)
   obtain ⟨tk,rfl⟩:=r1
   exact P.str_of_int hl ⟨.str _,H,I.tok _,⟨_,rfl⟩,q⟩
  ·cases (if_neg hl).symm.trans ez
 | non=>cases ez
 | bl b=>cases ez
 | byt b=>cases ez
 | flt b=>cases ez
 | ref a=>cases ez
 | ty n=>cases ez
theorem qF {K:v5}(h:X.K=K:=by rfl):MtR X "str.join" (λx vs H Q=>∃(z:Str) (p:Addr) (ws:List Str),x = .str z/\vs=[.ref p]/\SqL K H p (ws.map V.str)/\JoinOk z ws=true/\Q (.str (Txt.join z ws)) H):=by
 subst h;exact gW
end
open PySem PySem.Spec PyProof.Rows Builtin Builtin.Str
theorem o7 (lo hi:Option Int)(n:Nat):(strSliceIndices lo hi 1 n).length<=n:=by
 have key:∀a b:Int,0<=a->b<=n->(sliceRange a b 1).length<=n:=by
  intro a b ha hb
  unfold sliceRange
  simp
  omega
 unfold strSliceIndices
 refine key _ _ ?_ ?_
 ·cases lo with
  | none=>simp
  | some i=>simp;omega
 ·cases hi with
  | none=>simp
  | some i=>simp;omega
section
variable  {X:Cx}
theorem qG:MtR X "str.strip" (λx vs H Q=>∃y z,x = .str y/\vs=[.str z]/\y.length<=wa/\Q (.str (Txt.stripChars y z)) H):=by
 intro pins s σ H x vs v us Q I rx rv h
 obtain ⟨y,z,rfl,rfl,hy,q⟩:=h
 obtain ⟨t1,rfl⟩:=rx
 obtain ⟨u,rfl,⟨t2,rfl⟩⟩:=vals1 rv
 exact SC.stripChars (λt' k=>⟨.str _,H,I.tok _,⟨_,rfl⟩,q⟩) hy
theorem nE:SlR X (λx lo hi H Q=>∃z:Str,x = .str z/\z.length<=wa/\∀y,y.length<=z.length->Q (.str y) H):=by
 intro pins s σ H x v vl vu lo hi sl Q I rx hs pl pu h
 obtain ⟨z,rfl,hz,q⟩:=h
 obtain ⟨t,rfl⟩:=rx
 refine ⟨"str",_,PySem.F.slot_str_getitem.lookup,y8 s z t,?_⟩
 have part:∀{u:v8} {o:Option Int},IsPart u o->∃p:Option (Int×Tok),u=partValue p/\p.map (·.1)=o:=λ{u o} hp=>by
  cases hp with
  | none=>exact ⟨none,rfl,rfl⟩
  | int i tk=>exact ⟨some (i,tk),rfl,rfl⟩
 obtain ⟨p1,rfl,e1⟩:=part pl
 obtain ⟨p2,rfl,e2⟩:=part pu
 refine wpAny_getItem_str_slice (l:=p1) (u:=p2) (st:=none) hs rfl ?_
 unfold sliceMade
 split
 ·exact ⟨.str z,H,I,⟨_,rfl⟩,q z (wm _)⟩
 ·have le:∀l:List Nat,(l.filterMap (z.cps[·]?)).length<=l.length:=λl=>List.length_filterMap_le _ _
  have b:=wy (le (strSliceIndices (p1.map (·.1)) (p2.map (·.1)) 1 z.length)) (o7 _ _ _)
  exact ⟨wy b hz,.str _,H,I.tok _,⟨_,rfl⟩,q _ b⟩
theorem nF:OpR X (binaryOp .Mult) (λx y H Q=>∃z n,x = .str z/\y = .int n/\MulOk z n/\Q (.str (Txt.mul z n)) H):=by
 intro pins s σ H x y v u Q I rx ry h
 obtain ⟨z,n,rfl,rfl,ok,q⟩:=h
 obtain ⟨t1,rfl⟩:=rx
 obtain ⟨t2,rfl⟩:=ry
 exact SB.mul ok λt' k=>⟨.str _,H,I.tok _,⟨_,rfl⟩,q⟩
end
open PySem PySem.Spec PyProof.Rows Builtin Builtin.Str
abbrev mM (cs:List Nat):Prop:=∀c∈cs,48<=c/\c<=57
theorem jK:∀d:Nat,d<10->(Nat.digitChar d).toNat=48+d:=by decide
theorem canon (k:Nat):∀cs:List Nat,cs.length<=k->cs≠[]->mM cs->(cs.head? = some 48->cs=[48])->∃n,(dg n).map Char.toNat=cs:=by
 induction k with
 | zero=>exact λcs hl ne=>absurd (xH.mp (Nat.le_zero.mp hl)) ne
 | succ k ih =>
  intro cs hl ne hd h0
  rcases yt cs with e | ⟨ds,d,e⟩
  ·exact absurd e ne
  rw[yu] at e
  subst e
  have dr:=hd d (wI _ wN)
  cases ds with
  | nil =>
   refine ⟨d-48,?_⟩
   rw[d7 (by omega)]
   show [(Nat.digitChar (d-48)).toNat]=[d]
   rw[jK _ (by omega),show 48+(d-48)=d by omega]
  | cons a r =>
   have a0:a≠48:=λz=>by
    have:=congrArg List.length (h0 (by rw[z];rfl))
    simp at this
   obtain ⟨n,hn⟩:=ih (a :: r) (by rw[wc,wj] at hl;omega) (by simp) (λc hc=>hd c (zd _ hc)) (λz=>absurd (wJ z) a0)
   have np:0<n:=by
    rcases yS n with rfl | p
    ·have:[48]=a :: r:=hn
     exact absurd (xx this).1.symm a0
    ·exact p
   refine ⟨10*n+(d-48),?_⟩
   rw[gm (by omega),show (10*n+(d-48))/10=n by omega,show (10*n+(d-48))%10=d-48 by omega,we,hn]
   show _++[(Nat.digitChar (d-48)).toNat]=_
   rw[jK _ (by omega),show 48+(d-48)=d by omega]
theorem mN {w:Str}(ne:w.cps.toList≠[])(hd:mM w.cps.toList)(h0:w.cps.toList.head? = some 48->w.cps.toList=[48]):∃n,w=aN n:=by
 obtain ⟨n,hn⟩:=canon _ _ (wm _) ne hd h0
 exact ⟨n,cp (by rw[cc,hn])⟩
theorem d9 {a b:Nat}(h:aN a=aN b):a=b:=by
 have e:(aN a).cps.toList=(aN b).cps.toList:=by rw[h]
 rw[cc,cc] at e
 have e2:=congrArg PySem.NumText.digitsVal e
 rwa [zg,zg] at e2
theorem lF (c:Nat):c∈(Str.ofString "0123456789").cps.toList↔48<=c/\c<=57:=by
 have e:(Str.ofString "0123456789").cps.toList=[48,49,50,51,52,53,54,55,56,57]:=by decide +kernel
 rw[e]
 simp only[wH,List.not_mem_nil,or_false]
 omega
theorem sL (c:Nat):(!(occurrences (Str.ofString "0123456789") ⟨#[c]⟩ 0 (Str.ofString "0123456789").length 1).isEmpty)=decide (48<=c/\c<=57):=by
 rw[A2]
 exact decide_eq_decide.mpr (lF c)
theorem kq (w:Str):w.cps.toList.length=w.length:=xi
theorem cq {w:Str}:w = "" ↔ w.cps.toList=[]:=⟨λh=>by rw[h];rfl,λh=>cp (by rw[h];rfl)⟩
theorem kr {α:Type}(p:α -> Bool):∀l:List α,(l.takeWhile p).length<=l.length
 | []=>wm _
 | a :: l=>by
  rw[yI]
  split
  ·exact Nat.succ_le_succ (kr p l)
  ·exact xj _
theorem take_all {α:Type}{p:α -> Bool}:∀{l:List α},(l.takeWhile p).length=l.length->∀c∈l,p c=true
 | [],_,_,h=>nomatch h
 | a :: l,e,c,h=>by
  rw[yI] at e
  split at e
  ·rename_i q
   rcases wH.mp h with rfl | h
   ·exact q
   ·exact take_all (Nat.succ.inj e) c h
  ·exact absurd e (by simp)
theorem lG {α:Type}{p:α -> Bool}:∀{l:List α},(∀c∈l,p c=true)->l.takeWhile p=l
 | [],_=>rfl
 | a :: l,h=>by
  rw[yI,if_pos (h a wN),lG λc hc=>h c (wD _ hc)]
theorem jL {α:Type}{p:α -> Bool}:∀{l:List α} {a:α} {r:List α},l.drop (l.takeWhile p).length=a :: r->p a=false
 | [],_,_,h=>nomatch h
 | b :: l,a,r,h=>by
  rw[yI] at h
  split at h
  ·exact jL h
  ·rename_i q
   cases h
   exact yz.mpr q
theorem strip_nil (w z:Str):Txt.stripChars w z = "" ↔ ∀c∈w.cps.toList,z.cps.contains c=true:=by
 have lw:=kq w
 unfold Txt.stripChars Txt.stripBy
 generalize z.cps.contains=p
 constructor
 ·intro h
  split at h
  ·intro c hc
   rw[h] at hc
   cases hc
  ·rw[cq] at h
   unfold stripped at h
   rw[yr] at h
   have hh:=congrArg List.length h
   rw[wG,wW,w9] at hh
   refine take_all ?_
   apply xE
   intro ne
   have le:=kr p w.cps.toList
   have lo:stripLo p true w=(w.cps.toList.takeWhile p).length:=rfl
   have hi:stripHi p true w (stripLo p true w)=w.length-((w.cps.toList.drop (stripLo p true w)).reverse.takeWhile p).length:=rfl
   cases e:w.cps.toList.drop (w.cps.toList.takeWhile p).length with
   | nil =>
    have:=congrArg List.length e
    rw[wW,w9] at this
    omega
   | cons a r =>
    have pa:=jL e
    have ra:((a :: r).reverse.takeWhile p).length≠(a :: r).reverse.length:=λz=>by
     have:=take_all z a (by simp)
     rw[pa] at this;cases this
    have rl:=kr p (a :: r).reverse
    have el:=congrArg List.length e
    rw[wW] at el
    rw[hi,lo,e] at hh
    rw[List.length_reverse] at ra rl
    omega
 ·intro h
  have e:=lG h
  split
  ·rename_i s
   unfold stripSame at s
   rw[w6,beq_iff_eq,beq_iff_eq] at s
   have lo:stripLo p true w=(w.cps.toList.takeWhile p).length:=rfl
   rw[lo,e] at s
   exact cq.mpr (xH.mp s.1)
  ·have lo:stripLo p true w=w.cps.toList.length:=congrArg List.length e
   refine cq.mpr ?_
   unfold stripped
   rw[yr,lo,xP,BI]
theorem iz (w:Str):Txt.stripChars w (Str.ofString "0123456789") = "" ↔ mM w.cps.toList:=by
 rw[strip_nil]
 have e:∀c,(Str.ofString "0123456789").cps.contains c=true↔(48<=c/\c<=57):=λc=>by
  rw[Array.contains_iff_mem, <- Az]
  exact lF c
 exact ⟨λh c hc=>(e c).mp (h c hc),λh c hc=>(e c).mpr (h c hc)⟩
noncomputable def num (w:Str)(most:Int):Option Nat:=by
 classical
 exact if h:∃n:Nat,w=aN n/\(n:Int)<=most then some h.choose else none
theorem bh {w:Str}{most:Int}{n:Nat}:num w most=some n↔w=aN n/\(n:Int)<=most:=by
 unfold num
 constructor
 ·intro h
  split at h
  ·rename_i q
   rw[<- wJ h]
   exact q.choose_spec
  ·cases h
 ·intro h
  have q:∃n:Nat,w=aN n/\(n:Int)<=most:=⟨n,h⟩
  rw[dif_pos q]
  exact congrArg some (d9 (q.choose_spec.1.symm.trans h.1))
theorem bJ {w:Str}{most:Int}:num w most=none↔∀n:Nat,(n:Int)<=most->w≠aN n:=by
 unfold num
 constructor
 ·intro h
  split at h
  ·cases h
  ·rename_i q
   exact λn hn e=>q ⟨n,e,hn⟩
 ·intro h
  exact dif_neg λ⟨n,e,hn⟩=>h n hn e
theorem ku {w:Str}:Txt.startswith w "0" = true↔w.cps.toList.head? = some 48:=by
 have key:=y3 w 48 0
 rw[<- List.head?_eq_getElem?] at key
 rw[<- key]
 show (decide (0+(Str.ofString "0").length<=w.length) && subAt w "0" 0)=true↔_
 rw[w6,decide_eq_true_iff]
 exact xr
theorem ef {w:Str}:w = "0" ↔ w.cps.toList=[48]:=⟨λh=>by rw[h];rfl,λh=>cp (by rw[h];rfl)⟩
theorem gX (n:Nat):(aN n).cps.toList≠[]:=λz=>by
 have h:=mK n
 rw[cc] at z
 rw[zz.mp z] at h
 exact absurd h (by decide)
theorem kv {n:Nat}(h:(aN n).cps.toList.head? = some 48):(aN n).cps.toList=[48]:=by
 rcases yS n with rfl | p
 ·rfl
 ·have:=ku.mpr h
  rw[oY p] at this;cases this
theorem fQ {w:Str}:(∃n,w=aN n)↔w.cps.toList≠[]/\mM w.cps.toList/\(w.cps.toList.head? = some 48->w.cps.toList=[48]):=by
 constructor
 ·rintro ⟨n,rfl⟩
  exact ⟨gX n,λc hc=>d8 n c hc,kv⟩
 ·rintro ⟨a,b,c⟩
  exact mN a b c
abbrev sgn (c:Nat):Str:=⟨#[c]⟩
def pwd (c:Nat)(a b:Nat):Str:=aN a++sgn c++aN b
def pop:Option Nat->Option Nat->Option (Nat×Nat)
 | some a,some b=>some (a,b)
 | _,_=>none
theorem lH {x y:Option Nat}{p:Nat×Nat}:pop x y=some p↔x=some p.1/\y=some p.2:=by
 cases x <;> cases y <;> simp[pop,Prod.ext_iff]
theorem qH {c:Nat}(hc:c<48\/57<c)(n:Nat):c∉(aN n).cps.toList:=λh=>by
 have:=d8 n c h
 omega
theorem qI {c:Nat}(hc:c<48\/57<c){w:Str}(h:c∈w.cps.toList)(m:Int):num w m=none:=bJ.mpr λn _ e=>qH hc n (by rw[<- e];exact h)
noncomputable def prs (m:Int):List Str->Option (Nat×Nat)
 | [x,y]=>pop (num x m) (num y m)
 | _=>none
noncomputable def prd (w:Str)(c:Nat)(m:Int):Option (Nat×Nat):=prs m (Txt.split w (sgn c))
theorem iA (x y:Str)(c:Nat):(x++sgn c++y).cps.toList=x.cps.toList++c :: y.cps.toList:=by
 rw[cV,cV,yA];rfl
theorem o8 {x y:Str}{c:Nat}(hx:c∉x.cps.toList)(hy:c∉y.cps.toList):Txt.split (x++sgn c++y) (sgn c)=[x,y]:=by
 have:=fP (c:=c) (ws:=[x,y]) (by simp) (λp hp=>by
  rcases wH.mp hp with rfl | hp
  ·exact hx
  ·rw[wo.mp hp];exact hy)
 rwa [show Txt.join ⟨#[c]⟩ [x,y]=x++sgn c++y from by unfold Txt.join;rw[xo];rfl] at this
theorem lI (w:Str)(c:Nat):Txt.split w (sgn c)≠[]:=λz=>by
 have:=split_pos w (sgn c)
 rw[z] at this
 exact absurd this (by decide)
theorem nG {x y:Str}{c:Nat}(hc:c<48\/57<c)(hx:c∉x.cps.toList)(m:Int):prd (x++sgn c++y) c m=pop (num x m) (num y m):=by
 unfold prd
 by_cases hy:c∈y.cps.toList
 ·rw[qI hc hy,show pop (num x m) none=none by cases num x m <;> rfl]
  have j:=xO (x++sgn c++y) (sgn c)
  have fr:=AQ (x++sgn c++y) c
  have ne:=lI (x++sgn c++y) c
  generalize Txt.split (x++sgn c++y) (sgn c)=ws at j fr ne
  match ws,ne with
  | [],ne=>exact absurd rfl ne
  | [a],_=>rfl
  | [a,b],_ =>
   have e:(Str.join (sgn c) [a,b]).cps.toList=(x++sgn c++y).cps.toList:=by rw[j]
   rw[iA,show Str.join (sgn c) [a,b]=a++sgn c++b from rfl,iA] at e
   obtain ⟨_,e2⟩:=ko (fr a (by simp)) hx e
   exact absurd (show c∈b.cps.toList by rw[e2];exact hy) (fr b (by simp))
  | a :: b :: d :: r,_=>rfl
 ·rw[o8 hx hy];rfl
theorem nH {w:Str}{c:Nat}(h:c∉w.cps.toList)(m:Int):prd w c m=none:=by
 unfold prd
 have:=fP (c:=c) (ws:=[w]) (by simp) (λp hp=>by rw[wo.mp hp];exact h)
 rw[show Txt.join ⟨#[c]⟩ [w]=w from by unfold Txt.join;rw[xo];rfl] at this
 rw[this];rfl
theorem o9 {w:Str}{c:Nat}(h:c∉w.cps.toList):parted w (sgn c)=[w, "", ""]:=by
 have e:=A2 w c
 rw[decide_eq_false h] at e
 unfold parted
 cases z:occurrences w ⟨#[c]⟩ 0 w.length 1 with
 | nil=>rfl
 | cons a l=>rw[z] at e;cases e
theorem qJ {w:Str}{c:Nat}(h:c∈w.cps.toList):∃x y,w=x++sgn c++y/\c∉x.cps.toList:=by
 obtain ⟨a,b,e,n⟩:∃a b,w.cps.toList=a++c :: b/\c∉a:=by
  generalize w.cps.toList=l at h
  induction l with
  | nil=>cases h
  | cons d l ih =>
   by_cases z:d=c
   ·exact ⟨[],l,by rw[z];rfl,by simp⟩
   ·obtain ⟨a,b,e,n⟩:=ih (by
     rcases wH.mp h with q | q
     ·exact absurd q.symm z
     ·exact q)
    exact ⟨d :: a,b,by rw[e];rfl,λq=>by
     rcases wH.mp q with q | q
     ·exact z q.symm
     ·exact n q⟩
 refine ⟨⟨a.toArray⟩,⟨b.toArray⟩,cp ?_,?_⟩
 ·rw[iA,e]
 ·simpa using n
theorem qK {w:Str}{c:Nat}(hc:c<48\/57<c){m:Int}{p:Nat×Nat}(h:prd w c m=some p):w=pwd c p.1 p.2/\(p.1:Int)<=m/\(p.2:Int)<=m:=by
 by_cases hw:c∈w.cps.toList
 ·obtain ⟨x,y,rfl,hx⟩:=qJ hw
  rw[nG hc hx] at h
  obtain ⟨h1,h2⟩:=lH.mp h
  obtain ⟨rfl,l1⟩:=bh.mp h1
  obtain ⟨rfl,l2⟩:=bh.mp h2
  exact ⟨rfl,l1,l2⟩
 ·rw[nH hw] at h;cases h
open PySem PySem.Spec PyProof.Rows Builtin Builtin.Str
abbrev PQ:=Nat×Nat
def je (p q:PQ):Prop:=p.1<q.1\/(p.1=q.1/\p.2<q.2)
def okB (c:Nat)(last:Option PQ)(p:PQ):Prop:=(c=45->p.1<=p.2)/\∀l,last=some l->¬ je p l/\(c=62->p≠l)
open Classical in
noncomputable def eg (c:Nat)(m:Int):Option PQ->Nat->List Str->Option Nat
 | _,_,[]=>none
 | last,n,w :: ws=>match prd w c m with
  | none=>some n
  | some p=>if n=202\/¬ okB c last p then some n else eg c m (some p) (n+1) ws
noncomputable def cM (hd:Str)(c:Nat):List Str->Option Nat
 | []=>some 0
 | w :: ws=>if w≠hd then some 0 else match ws with
  | []=>some 1
  | x :: r=>match num x 40 with
   | none=>some 1
   | some m=>eg c ((m:Int)-1) none 2 r
noncomputable def nums:Nat->List Str->Option Nat
 | _,[]=>none
 | n,w :: ws=>match num w (((10 ^ 60:Nat)):Int) with
  | none=>some n
  | some _=>if n=60 then some n else nums (n+1) ws
noncomputable def fR (ws:List Str):Option Nat:=if ws.head? = some "-" then (if 1<ws.length then some 1 else none) else nums 0 ws
abbrev Stp:=Str×List Nat
def Good (u:Stp):Prop:=((u.1 = "lone" \/ u.1 = "two" \/ u.1 = "loop")/\∃a,u.2=[a]/\a<40)\/(u.1 = "many" /\ ∃a b,u.2=[a,b]/\a<b/\b<40)
def sw (u:Stp):List Str:=u.1 :: u.2.map aN
def bK (w:Str):Prop:=w = "lone" \/ w = "two" \/ w = "loop" \/ w = "many"
open Classical in
noncomputable def bj (a:Nat):List Str->Nat ⊕ Stp
 | [] =>.inl a
 | w :: ws=>if ¬ bK w then .inl a else match ws with
  | [] =>.inl (a+1)
  | x :: ws1=>match num x 39 with
   | none =>.inl (a+1)
   | some i=>if w = "many" then match ws1 with
     | [] =>.inl (a+2)
     | y :: _=>match num y 39 with
      | none =>.inl (a+2)
      | some j=>if i<j then .inr (w,[i,j]) else .inl (a+2)
    else .inr (w,[i])
noncomputable def dO:Nat->Nat->Nat->List Str->Option Nat
 | 0,_,_,_=>none
 | _+1,_,_,[]=>none
 | k+1,a,n,w :: ws=>if n=300 then some a else match bj a (w :: ws) with
  | .inl b=>some b
  | .inr u=>dO k (a+1+u.2.length) (n+1) ((w :: ws).drop (1+u.2.length))
noncomputable def fS (ws:List Str):Option Nat:=if ws.head? = some "-" then (if 1<ws.length then some 1 else none) else dO (ws.length+1) 0 0 ws
theorem pd {a:Nat}{ws:List Str}{u:Stp}(h:bj a ws = .inr u):Good u/\ws=sw u++ws.drop (1+u.2.length):=by
 cases ws with
 | nil=>cases h
 | cons w ws =>
  rw[bj.eq_def] at h
  dsimp only at h
  split at h
  ·cases h
  rename_i hw
  have hw:=Classical.not_not.mp hw
  cases ws with
  | nil=>cases h
  | cons x ws1 =>
   dsimp only at h
   cases hx:num x 39 with
   | none=>rw[hx] at h;cases h
   | some i =>
    rw[hx] at h
    obtain ⟨rfl,li⟩:=bh.mp hx
    dsimp only at h
    split at h
    ·rename_i hm
     cases ws1 with
     | nil=>cases h
     | cons y ws2 =>
      dsimp only at h
      cases hy:num y 39 with
      | none=>rw[hy] at h;cases h
      | some j =>
       rw[hy] at h
       obtain ⟨rfl,lj⟩:=bh.mp hy
       dsimp only at h
       split at h
       ·rename_i ij
        cases h
        exact ⟨.inr ⟨hm,i,j,rfl,ij,by omega⟩,rfl⟩
       ·cases h
    ·rename_i hm
     cases h
     refine ⟨.inl ⟨?_,i,rfl,by omega⟩,rfl⟩
     rcases hw with h | h | h | h
     ·exact .inl h
     ·exact .inr (.inl h)
     ·exact .inr (.inr h)
     ·exact absurd h hm
section
variable  {c n:Nat}{m:Int}{last:Option PQ}{w:Str}{ws:List Str}{p:PQ}
theorem jM (h:prd w c m=none):eg c m last n (w :: ws)=some n:=by
 rw[eg,h]
theorem dk (h:prd w c m=some p)(b:n=202\/¬ okB c last p):eg c m last n (w :: ws)=some n:=by
 rw[eg,h]
 exact if_pos b
theorem nI (h:prd w c m=some p)(hn:n≠202)(ok:okB c last p):eg c m last n (w :: ws)=eg c m (some p) (n+1) ws:=by
 rw[eg,h]
 exact if_neg λb=>b.elim hn λz=>z ok
theorem gn (h:num w (((10 ^ 60:Nat)):Int)=none):nums n (w :: ws)=some n:=by
 rw[nums,h]
theorem lJ {a:Nat}(h:num w (((10 ^ 60:Nat)):Int)=some a)(b:n=60):nums n (w :: ws)=some n:=by
 rw[nums,h]
 exact if_pos b
theorem nJ {a:Nat}(h:num w (((10 ^ 60:Nat)):Int)=some a)(b:n≠60):nums n (w :: ws)=nums (n+1) ws:=by
 rw[nums,h]
 exact if_neg b
theorem gq {k a:Nat}(h:n=300):dO (k+1) a n (w :: ws)=some a:=by
 rw[dO,if_pos h]
theorem iC {k a b:Nat}(hn:n≠300)(h:bj a (w :: ws) = .inl b):dO (k+1) a n (w :: ws)=some b:=by
 rw[dO,if_neg hn,h]
theorem lK {k a:Nat}{u:Stp}(hn:n≠300)(h:bj a (w :: ws) = .inr u):dO (k+1) a n (w :: ws)=dO k (a+1+u.2.length) (n+1) ((w :: ws).drop (1+u.2.length)):=by
 rw[dO,if_neg hn,h]
end
def fT (ws us:List Str):Prop:=(ws.head? ≠ some "-" /\ us=ws)\/(ws=(["-"]:List Str)/\us=[])
theorem fT.fR {ws us:List Str}(h:fT ws us):fR ws=nums 0 us:=by
 rcases h with ⟨h,rfl⟩ | ⟨rfl,rfl⟩
 ·exact if_neg h
 ·rfl
theorem fT.fS {ws us:List Str}(h:fT ws us):fS ws=dO (us.length+1) 0 0 us:=by
 rcases h with ⟨h,rfl⟩ | ⟨rfl,rfl⟩
 ·exact if_neg h
 ·rfl
theorem lL {ws:List Str}(h:ws.head? = some "-")(l:1<ws.length):fR ws=some 1:=(if_pos h).trans (if_pos l)
theorem lM {ws:List Str}(h:ws.head? = some "-")(l:1<ws.length):fS ws=some 1:=(if_pos h).trans (if_pos l)
section
variable  {a i j:Nat}{w x y:Str}{ws:List Str}
theorem lN (h:¬ bK w):bj a (w :: ws) = .inl a:=by
 rw[bj.eq_def]
 exact if_pos h
theorem sM (h:bK w):bj a [w] = .inl (a+1):=by
 rw[bj.eq_def]
 exact if_neg λz=>z h
theorem sN (h:bK w)(hx:num x 39=none):bj a (w :: x :: ws) = .inl (a+1):=by
 rw[bj.eq_def]
 refine (if_neg λz=>z h).trans ?_
 dsimp only
 rw[hx]
theorem fU (h:bK w)(hx:num x 39=some i):bj a (w :: x :: ws)=if w = "many" then (match ws with
     | [] =>.inl (a+2)
     | y :: _=>match num y 39 with
      | none =>.inl (a+2)
      | some j=>if i<j then .inr (w,[i,j]) else .inl (a+2))
    else .inr (w,[i]):=by
 rw[bj.eq_def]
 refine (if_neg λz=>z h).trans ?_
 dsimp only
 rw[hx]
theorem pe (h:bK w)(hm:w ≠ "many")(hx:num x 39=some i):bj a (w :: x :: ws) = .inr (w,[i]):=by
 rw[fU h hx,if_neg hm]
theorem qL (h:bK w)(hm:w = "many")(hx:num x 39=some i):bj a [w,x] = .inl (a+2):=by
 rw[fU h hx,if_pos hm]
theorem qM (h:bK w)(hm:w = "many")(hx:num x 39=some i)(hy:num y 39=none):bj a (w :: x :: y :: ws) = .inl (a+2):=by
 rw[fU h hx,if_pos hm]
 dsimp only
 rw[hy]
theorem qN (h:bK w)(hm:w = "many")(hx:num x 39=some i)(hy:num y 39=some j)(n:¬ i<j):bj a (w :: x :: y :: ws) = .inl (a+2):=by
 rw[fU h hx,if_pos hm]
 dsimp only
 rw[hy]
 exact if_neg n
theorem qO (h:bK w)(hm:w = "many")(hx:num x 39=some i)(hy:num y 39=some j)(n:i<j):bj a (w :: x :: y :: ws) = .inr (w,[i,j]):=by
 rw[fU h hx,if_pos hm]
 dsimp only
 rw[hy]
 exact if_pos n
end
end L2
set_option maxHeartbeats 800000
namespace K81
open PySem L2
def top (i:Nat):Stmt:=PySem.Challenge.pw_ringfell_k81_texts_refused.main.body.getD i (.Pass ⟨0,0,0,0⟩)
abbrev gs:Stmt:=top 9
abbrev fj:Stmt:=top 15
abbrev iD:Stmt:=top 16
abbrev eh:Stmt:=top 17
abbrev fk:Stmt:=top 18
abbrev dA:Stmt:=top 19
abbrev iE:Stmt:=top 20
abbrev ej:Stmt:=top 21
abbrev gv:Stmt:=top 22
abbrev iF:Stmt:=top 23
abbrev fm:Stmt:=top 24
abbrev dB:Stmt:=top 25
abbrev cO:Stmt:=top 26
abbrev fo:Stmt:=top 27
abbrev iG:Stmt:=top 28
abbrev ek:Stmt:=top 29
abbrev dC:Stmt:=top 30
abbrev gw:Stmt:=top 31
abbrev iH:Stmt:=top 32
abbrev mO:Stmt:=top 34
abbrev mP:Stmt:=top 35
abbrev iI:Stmt:=top 36
abbrev mQ:Stmt:=top 37
abbrev fq:Stmt:=top 38
abbrev iJ:Stmt:=top 39
abbrev iK:Stmt:=top 40
abbrev kx:Stmt:=top 41
abbrev qP:Stmt:=top 42
abbrev iL:Stmt:=top 43
abbrev gx:Stmt:=top 44
abbrev gy:Stmt:=top 45
abbrev ky:Stmt:=top 46
abbrev qQ:Stmt:=top 47
abbrev pf:Stmt:=top 48
structure Blt (mg:Str->Option v8):Prop where
 b_all:mg "all" = none
 b_bool:mg "bool" = none
 b_enumerate:mg "enumerate" = none
 b_int:mg "int" = none
 b_isinstance:mg "isinstance" = none
 b_len:mg "len" = none
 b_list:mg "list" = none
 b_range:mg "range" = none
 b_str:mg "str" = none
 b_tuple:mg "tuple" = none
 b_zip:mg "zip" = none
 b_ValueError:mg "ValueError" = none
theorem qR:xu "all" = some (.builtin "all"):=by decide +kernel
theorem sO:xu "bool" = some (.type "bool"):=by decide +kernel
theorem dh:xu "int" = some (.type "int"):=by decide +kernel
theorem bL:xu "isinstance" = some (.builtin "isinstance"):=by decide +kernel
theorem aU:xu "len" = some (.builtin "len"):=by decide +kernel
theorem sP:xu "list" = some (.type "list"):=by decide +kernel
theorem cz:xu "str" = some (.type "str"):=by decide +kernel
theorem iM:xu "tuple" = some (.type "tuple"):=by decide +kernel
theorem jf:xu "ValueError" = some (.type "ValueError"):=by decide +kernel
structure Cst (mg:Str->Option v8):Prop where
 c_MOST_PLACES:∃t,mg "MOST_PLACES" = some (.int 40 t)
 c_MOST_TIES:∃t,mg "MOST_TIES" = some (.int 200 t)
 c_FIGURES:∃t,mg "FIGURES" = some (.str "0123456789" t)
 c_MOST_NUMBERS:∃t,mg "MOST_NUMBERS" = some (.int 60 t)
 c_MOST_STEPS:∃t,mg "MOST_STEPS" = some (.int 300 t)
theorem hu8 {A:xh}{k:Nat}(hr:bE k A):A.units+8<cLine:=xc (zA (by decide:8<=64) _) hr.units
def inDef:Stmt->Stmt
 | .ClassDef _ _ _ b _ _ _ _ _ _ _=>b.getD 0 (.Pass ⟨0,0,0,0⟩)
 | s=>s
abbrev ft:Stmt:=inDef (top 4)
abbrev nK:Sp:=λvs H Q _=>∃c m:Int,vs=[.int c,.int m]/\0<=m/\m<=1000/\∀n:Int,Q (.int n) H
@[irreducible] def kz:Sp:=nK
theorem fu {vs:List V}{H:Hp}{Q:VK}{E:XK}:kz vs H Q E↔nK vs H Q E:=by
 delta kz
 exact xr
abbrev nM:Sp:=λvs H Q _=>∃(p:Addr) (m:Int),vs=[.ref p,.int m]/\Pt 1 H p/\0<m/\Wd m/\∀(d:Int) (H':Hp),0<=d->d<m->Bu 1 p H H'->Q (.int d) H'
@[irreducible] def er:Sp:=nM
theorem aF {vs:List V}{H:Hp}{Q:VK}{E:XK}:er vs H Q E↔nM vs H Q E:=by
 delta er
 exact xr
section
variable  {P:wx}{w:wZ}{K:v5}{mg:Str->Option v8}{base:Heap}{f T:Addr}{fd:wR}
theorem nN:aJ ["pot", "many", "digit"] ["pot", "many"] (au mP):=⟨rfl,rfl,rfl,by decide +kernel,rfl,by decide +kernel,by decide +kernel⟩
theorem sQ (F:Fun K "_law_take" "_law_take" mP f fd)(B:Blt mg)(C:Cst mg):aW P w K mg base CX0 1 f fd ["pot", "many"] er:=by
 refine F.ok nN (λvs H Q E h =>?_) (λcdv A outer s H vs Q E hr h =>?_)
 ·obtain ⟨_,_,rfl,_⟩:=aF.mp h
  rfl
 obtain ⟨p,m,rfl,hp,h0,h1,q⟩:=aF.mp h
 refine ⟨_,(@ag _ _ _ _ _ (@ay _ _ 2 _ _ _ _ nN.nd rfl (Or.inl rfl) (@aH _ _ _ _ _ _ _ _ hZ (@aO _ _ _ _ _ _ _ aI (pv 0) ai (λ_ _=>rfl)) (pv 1)) rfl (by first | exact .inl rfl | exact .inr rfl | assumption))
  (@ag _ _ _ _ _ (@mn _ _ _ _ _ _ (@aH _ _ _ _ _ _ _ _ ql (@aO _ _ _ _ _ _ _ aI (pv 0) ai (λ_ _=>rfl)) (pv 1)) (ml (pv 0) ai set_list) rfl rfl rfl)
  (@aj _ _ _ (@az _ _ _ _ (pv 2))))),?_⟩
 have bt:=Bu.refl hp
 obtain ⟨xs,lx,ep⟩:=hp
 match xs,lx with
 | [x],_ =>
  refine ⟨_,rfl,p,_,0,_,rfl,rfl,SqL.of ep,rfl,_,rfl,_,_,rfl,rfl,h0,?_⟩
  refine ⟨_,rfl,p,_,0,_,rfl,rfl,SqL.of ep,rfl,_,rfl,_,_,rfl,rfl,⟨h0,h1⟩,_,rfl,p,_,0,0,rfl,rfl,ep,rfl,?_⟩
  refine ⟨_,rfl,?_⟩
  exact q _ _ (Au _ (by omega)) (zL _ h0) (bt.put (ys:=[x/m]) rfl)
end
section
variable  {P:wx}{w:wZ}{K:v5}{mg:Str->Option v8}{base:Heap}{f T:Addr}{fd:wR}
theorem dD:aJ ["cell", "many", "number", "one", "k", "two"] ["cell", "many"] (au mO):=⟨rfl,rfl,rfl,by decide +kernel,rfl,by decide +kernel,by decide +kernel⟩
theorem sR (F:Fun K "_law_deal" "_law_deal" mO f fd)(B:Blt mg)(C:Cst mg):aW P w K mg base CX0 1 f fd ["cell", "many"] kz:=by
 refine F.ok dD (λvs H Q E h =>?_) (λcdv A outer s H vs Q E hr h =>?_)
 ·obtain ⟨_,_,rfl,_⟩:=fu.mp h
  rfl
 obtain ⟨c,m,rfl,m0,m1,q⟩:=fu.mp h
 refine ⟨_,(@ag _ _ _ _ _ (@aP _ _ _ _ _ _ _ _ (ak nr (pv 0) (@aH _ _ _ _ _ _ _ _ fc ai ai) (ar _)) (@aj _ _ _ (@az _ _ _ _ (@aH _ _ _ _ _ _ _ _ gh (pv 0) (@aH _ _ _ _ _ _ _ _ fc ai ai)))) aB)
  (@ag _ _ _ _ _ (@ay _ _ 2 _ _ _ _ dD.nd rfl (Or.inl rfl) ai rfl (by first | exact .inl rfl | exact .inr rfl | assumption))
  (@ag _ _ _ _ _ (@ay _ _ 3 _ _ _ _ dD.nd rfl (Or.inl rfl) (@aH _ _ _ _ _ _ _ _ aX (@aH _ _ _ _ _ _ _ _ hZ (pv 0) ai) ai) rfl (by first | exact .inl rfl | exact .inr rfl | assumption))
  (@ag _ _ _ _ _ (@bY _ _ _ _ _ _ _ _ xt rfl (cf rfl B.b_range (@aa _ _ _ _ _ (pv 1) af rfl)) (aV (i:=4) dD.nd rfl (Or.inl rfl))
   (@ag _ _ _ _ _ (@ay _ _ 3 _ _ _ _ dD.nd rfl (Or.inl rfl) (@aH _ _ _ _ _ _ _ _ hZ (@aH _ _ _ _ _ _ _ _ aX (@aH _ _ _ _ _ _ _ _ aX (@aH _ _ _ _ _ _ _ _ gi (pv 3) ai) (@aH _ _ _ _ _ _ _ _ gi (@aH _ _ _ _ _ _ _ _ gi ai (pv 4)) (pv 4))) ai) ai) rfl (by first | exact .inl rfl | exact .inr rfl | assumption))
   (@ag _ _ _ _ _ (@ay _ _ 5 _ _ _ _ dD.nd rfl (Or.inl rfl) (@aH _ _ _ _ _ _ _ _ hZ (@aH _ _ _ _ _ _ _ _ gi (pv 3) (pv 3)) ai) rfl (by first | exact .inl rfl | exact .inr rfl | assumption))
   (@aj _ _ _ (@ay _ _ 2 _ _ _ _ dD.nd rfl (Or.inl rfl) (@aH _ _ _ _ _ _ _ _ aX (@aH _ _ _ _ _ _ _ _ gi (pv 2) ai) (@aH _ _ _ _ _ _ _ _ hZ (@aH _ _ _ _ _ _ _ _ rL (pv 5) ai) ai)) rfl (by first | exact .inl rfl | exact .inr rfl | assumption))))) (λ_=>rfl))
  (@aj _ _ _ (@az _ _ _ _ (pv 2))))))),?_⟩
 refine ⟨_,rfl,_,_,rfl,rfl,⟨by decide,by decide,by decide⟩,_,_,rfl,rfl,_,rfl,eS (λz =>?_) (λz =>?_)⟩
 ·exact ⟨_,rfl,_,_,rfl,rfl,⟨by decide,by decide,by decide⟩,_,_,rfl,rfl,q _⟩
 refine ⟨_,rfl,_,_,rfl,rfl,(by show (0:Int)<_;decide),_,_,rfl,rfl,?_⟩
 have b1:=Au c (b:=2147483647) (by decide)
 have b2:=zL c (b:=2147483647) (by decide)
 generalize c%2147483647+16807=o at b1 b2
 refine ⟨_,rfl,m,rfl,by omega,by omega,bH (λk σ H'=>(∃(gr on:Int) (c4 c5:Option V),σ=[some (.int c),some (.int m),some (.int gr),some (.int on),c4,c5])/\H'=H) ⟨⟨_,_,_,_,rfl⟩,rfl⟩ ?_ ?_⟩
 ·rintro k σ H' hk ⟨⟨gr,on,c4,c5,rfl⟩,rfl⟩
  have hk':(k:Int)<m:=by omega
  refine ⟨_,rfl,_,_,rfl,rfl,.inr ⟨by decide,by decide⟩,_,rfl,_,_,rfl,rfl,.inl ⟨by decide,by decide⟩,_,rfl,_,_,rfl,rfl,.inl ⟨by omega,by omega⟩,_,_,rfl,rfl,_,_,rfl,rfl,_,_,rfl,rfl,(by show (0:Int)<_;decide),?_⟩
  have d1:=Au (on*48271+7919*(0+(k:Int))*(0+(k:Int))+104729) (b:=2147483647) (by decide)
  have d2:=zL (on*48271+7919*(0+(k:Int))*(0+(k:Int))+104729) (b:=2147483647) (by decide)
  generalize (on*48271+7919*(0+(k:Int))*(0+(k:Int))+104729)%2147483647=o2 at d1 d2 ⊢
  refine ⟨_,rfl,_,rfl,_,_,rfl,rfl,.inl ⟨by omega,by omega⟩,_,_,rfl,rfl,(by show (0:Int)<_;decide),?_⟩
  exact ⟨_,rfl,_,_,rfl,rfl,.inr ⟨by decide,by decide⟩,_,rfl,_,_,rfl,rfl,⟨by decide,by decide⟩,_,_,rfl,rfl,(by show (0:Int)<_;decide),_,_,rfl,rfl,⟨_,_,_,_,rfl⟩,rfl⟩
 ·rintro σ H' ⟨⟨gr,on,c4,c5,rfl⟩,rfl⟩
  exact ⟨_,rfl,q _⟩
end
abbrev iv (n:Nat):V :=.int (n:Int)
theorem aR {m:Int}(h0:0<m)(h1:m<1000):Wd m:=xc (show m.natAbs<=1000 by omega) (by decide +kernel)
open PySem L2
def sv (u:Stp):List V :=.str u.1 :: u.2.map iv
theorem u9 {n:Nat}(h:n<=300000):n<wa:=xc h (by decide)
theorem dE {n:Nat}(h:n<=300000):n<=wa:=yJ (u9 h)
theorem lO:(" " : Str).length=1:=rfl
theorem aM (x y:Str):(x++y).length=x.length+y.length:=by
 show (x.cps++y.cps).size=_
 rw[Array.size_append];rfl
theorem nO {ws:List Str}(h:∀w∈ws,w.length<=200)(l:ws.length<=1000):JoinOk " " ws=true:=by
 unfold JoinOk
 rw[Ad (B:=200) h (by rw[lO];omega)]
 rfl
def wtx (ws:List Str):Str:=if ws=[] then "-" else Txt.join " " ws
theorem cW {n:Nat}(h:n<=10 ^ 60):(aN n).length<=61:=wy (jH h) (by decide +kernel)
theorem lg {n:Nat}(h:n<=10 ^ 60):(n:Int).natAbs.log2<1920:=by
 show n.log2<1920
 rcases yS n with rfl | p
 ·decide
 ·exact (Nat.log2_lt (by omega)).mpr (xc h (by decide +kernel))
theorem lP {n:Nat}(h:n<=10 ^ 60):shown (iv n)=some (aN n):=if_pos (lg h)
theorem item {α:Type}{f:α -> V}{ts:List α}{i:Nat}{x:V}(e:(ts.map f)[i]? = some x):∃u,ts[i]? = some u/\x=f u:=by
 rw[w5] at e
 cases z:ts[i]? with
 | none=>rw[z] at e;cases e
 | some tt=>rw[z] at e;exact ⟨tt,rfl,(wJ e).symm⟩
theorem lQ {c:Str}:∀{xs ys:List Str},xs≠[]->ys≠[]->Str.join c (xs++ys)=Str.join c xs++c++Str.join c ys
 | [],_,h,_=>absurd rfl h
 | [x],y :: ys,_,_=>rfl
 | [x],[],_,h=>absurd rfl h
 | x :: z :: xs,ys,_,h=>by
  show x++c++Str.join c (z :: xs++ys)=x++c++Str.join c (z :: xs)++c++Str.join c ys
  rw[lQ (xs:=z :: xs) (by simp) h]
  apply cp
  simp only[cV,yA]
theorem jN:∀{us:List Stp},Str.join " " (us.map λu=>Str.join " " (sw u))=Str.join " " (us.flatMap sw)
 | []=>rfl
 | [u]=>by
  rw[yB,Bi,xU];rfl
 | u :: v :: us=>by
  have ih:=jN (us:=v :: us)
  rw[yB,lQ (by unfold sw;simp) (by rw[yB];unfold sw;simp), <- ih]
  rfl
theorem qS (us:List Stp):wtx (us.map λu=>Txt.join " " (sw u))=wtx (us.flatMap sw):=by
 cases us with
 | nil=>rfl
 | cons u us =>
  unfold wtx
  rw[if_neg (by simp),if_neg (by rw[yB];unfold sw;simp)]
  unfold Txt.join
  simp only[xo]
  exact jN
abbrev ua:Sp:=λvs H Q _=>∃(l:Addr) (ws:List Str),vs=[.ref l]/\H l=some (.lst (ws.map V.str))/\(∀w∈ws,w.length<=200)/\ws.length<=1000/\Q (.str (wtx ws)) H
@[irreducible] def qT:Sp:=ua
theorem fV {vs:List V}{H:Hp}{Q:VK}{E:XK}:qT vs H Q E↔ua vs H Q E:=by
 delta qT
 exact xr
section
variable  {P:wx}{w:wZ}{K:v5}{mg:Str->Option v8}{base:Heap}{f T:Addr}{fd:wR}
theorem lR:aJ ["words"] ["words"] (au fk):=⟨rfl,rfl,rfl,by decide +kernel,rfl,by decide +kernel,by decide +kernel⟩
theorem lS (F:Fun K "words_text" "words_text" fk f fd)(B:Blt mg)(C:Cst mg):aW P w K mg base CX0 1 f fd ["words"] qT:=by
 refine F.ok lR (λvs H Q E h =>?_) (λcdv A outer s H vs Q E hr h =>?_)
 ·obtain ⟨_,_,rfl,_⟩:=fV.mp h
  rfl
 obtain ⟨l,ws,rfl,el,hw,l1,q⟩:=fV.mp h
 refine ⟨_,(@ag _ _ _ _ _ (@aP _ _ _ _ _ _ _ _ (ak aZ (aD aw rfl B.b_len aU (@aa _ _ _ _ _ (pv 0) af rfl)) ai (ar _)) (@aj _ _ _ (@az _ _ _ _ aq)) aB)
  (@aj _ _ _ (@az _ _ _ _ (df yv yw gW aq (@aa _ _ _ _ _ (pv 0) af rfl))))),?_⟩
 refine ⟨_,rfl,l,_,rfl,.inl (SqL.of el),rfl,_,rfl,?_⟩
 cases ws with
 | nil=>exact aE q
 | cons w ws =>
  rw[decide_eq_false λz=>by
   have:=V.int.inj z
   rw[xM,wk] at this
   omega]
  exact aK ⟨⟨_,rfl⟩,_,rfl, " ",l,_,rfl,rfl,SqL.of el,nO hw l1,q⟩
end
abbrev ub:Sp:=λvs H Q _=>∃(l:Addr) (ns:List Nat),vs=[.ref l]/\(H l=some (.lst (ns.map iv))\/H l=some (.tup (ns.map iv)))/\(∀n∈ns,n<=10 ^ 60)/\ns.length<=60/\∀H',aA H H'->Q (.str (wtx (ns.map aN))) H'
@[irreducible] def sS:Sp:=ub
theorem iN {vs:List V}{H:Hp}{Q:VK}{E:XK}:sS vs H Q E↔ub vs H Q E:=by
 delta sS
 exact xr
section
variable  {P:wx}{w:wZ}{K:v5}{mg:Str->Option v8}{base:Heap}{f T:Addr}{fd:wR}
theorem jg:aJ ["row"] ["row"] (au dA):=⟨rfl,rfl,rfl,by decide +kernel,rfl,by decide +kernel,by decide +kernel⟩
theorem ey:(["number"]:List Str).Nodup:=by decide +kernel
theorem jh (F:Fun K "numbers_text" "numbers_text" dA f fd)(B:Blt mg)(cWordsText:Cal P w K mg base 1 "words_text" ["words"] qT)(C:Cst mg):aW P w K mg base CX0 2 f fd ["row"] sS:=by
 refine F.ok jg (λvs H Q E h =>?_) (λcdv A outer s H vs Q E hr h =>?_)
 ·obtain ⟨_,_,rfl,_⟩:=iN.mp h
  rfl
 obtain ⟨l,ns,rfl,el,hn,l6,q⟩:=iN.mp h
 refine ⟨_,(@aj _ _ _ (@az _ _ _ _ (aG cWordsText hr (by decide) rfl (@aa _ _ _ _ _ (fJ ["number"] [none] rfl (qf (pv 0)) rfl (λ_ _ _ _ _=>(aV (i:=0) ey rfl (Or.inl rfl))) (λ_ _ _ _ _=>gk) (λ_ _ _ _ _=>(aL aY rfl B.b_str cz (@aa _ _ _ _ _ (pv 0) af rfl)))) af rfl)))),?_⟩
 refine ⟨_,rfl,l,rfl,jB (xs:=ns.map iv) (λi ys H'=>H'=H/\ys=((ns.take i).map aN).map V.str) el ⟨rfl,rfl⟩ (by rw[vZ];exact dE (by omega)) (λi ys H' z=>by rw[z.1]) ?_ ?_⟩
 ·rintro i x ys H' hx hy ⟨rfl,rfl⟩ R1 R0 r1 r0
  obtain ⟨n,en,rfl⟩:=item hx
  refine aE ⟨_,rfl,_,rfl,lg (hn n (xb en)),r1 _ _ ⟨rfl,?_⟩⟩
  rw[xy,en,we,we];rfl
 ·rintro ys H' hy ⟨rfl,rfl⟩ t ht
  rw[vZ,xF]
  refine fV.mpr ⟨t,_,rfl,ae,λw hw =>?_,by rw[vZ];omega,q _ (ah ht _)⟩
  obtain ⟨n,hn',rfl⟩:=x9.mp hw
  exact wy (cW (hn n hn')) (by decide)
end
theorem fW {u:Stp}(h:Good u):u.1.length<=4/\u.2.length<=2/\1<=u.2.length/\∀n∈u.2,n<=39:=by
 rcases h with ⟨h,a,e,a1⟩ | ⟨h,a,b,e,a1,b1⟩
 ·refine ⟨?_,by rw[e];simp,by rw[e];simp,λn hn =>?_⟩
  ·rcases h with h | h | h <;> rw[h] <;> decide
  ·rw[e] at hn
   rw[wo.mp hn];omega
 ·refine ⟨by rw[h];decide,by rw[e];simp,by rw[e];simp,λn hn =>?_⟩
  rw[e] at hn
  rcases wH.mp hn with rfl | hn
  ·omega
  ·rw[wo.mp hn];omega
theorem vU {n:Nat}(h:n<=39):n<=10 ^ 60:=wy h (by decide)
theorem qU {u:Stp}(h:Good u):∀w∈sw u,w.length<=61:=λw hw=>by
 obtain ⟨h1,_,_,h2⟩:=fW h
 rcases wH.mp hw with rfl | hw
 ·omega
 ·obtain ⟨n,hn,rfl⟩:=x9.mp hw
  exact cW (vU (h2 n hn))
theorem sT {u:Stp}(h:Good u):(Txt.join " " (sw u)).length<=200:=by
 have a:=Al " " (sw u)
 have b:∀ws:List Str,(∀w∈ws,w.length<=61)->(ws.map (·.length)).sum<=61*ws.length:=by
  intro ws
  induction ws with
  | nil=>simp
  | cons w ws ih =>
   intro h
   have h1:=h w wN
   have h2:=ih λx hx=>h x (wD _ hx)
   rw[xM,BJ,wk]
   omega
 have c:=b (sw u) (qU h)
 have d:(sw u).length<=3:=by
  unfold sw
  rw[wk,vZ]
  have:=(fW h).2.1
  omega
 show (Builtin.Str.glued " " (sw u)).length<=_
 rw[xo]
 rw[lO] at a
 omega
theorem qV {u:Stp}(h:Good u){i:Nat}{x:V}(e:(sv u)[i]? = some x):∃z,shown x=some z/\(sw u)[i]? = some z:=by
 cases i with
 | zero=>cases e;exact ⟨u.1,rfl,rfl⟩
 | succ i =>
  have e:(u.2.map iv)[i]? = some x:=e
  obtain ⟨n,en,rfl⟩:=item e
  exact ⟨_,lP (vU ((fW h).2.2.2 n (xb en))),(by show (u.2.map aN)[i]? = _;rw[w5,en];rfl)⟩
theorem kA (u:Stp):(sv u).length=(sw u).length:=by
 unfold sv sw
 rw[wk,wk,vZ,vZ]
theorem svl {u:Stp}(h:Good u):(sv u).length<=3:=by
 unfold sv
 rw[wk,vZ]
 have:=(fW h).2.1
 omega
abbrev qW:Sp:=λvs H Q _=>∃(l:Addr) (us:List (Addr×Stp)),vs=[.ref l]/\(H l=some (.lst (us.map λu =>.ref u.1))\/H l=some (.tup (us.map λu =>.ref u.1)))/\(∀u∈us,H u.1=some (.tup (sv u.2))/\Good u.2)/\us.length<=300/\∀H',aA H H'->Q (.str (wtx ((us.map (·.2)).flatMap sw))) H'
@[irreducible] def nP:Sp:=qW
theorem gz {vs:List V}{H:Hp}{Q:VK}{E:XK}:nP vs H Q E↔qW vs H Q E:=by
 delta nP
 exact xr
section
variable  {P:wx}{w:wZ}{K:v5}{mg:Str->Option v8}{base:Heap}{f T:Addr}{fd:wR}
theorem ph:aJ ["log"] ["log"] (au iE):=⟨rfl,rfl,rfl,by decide +kernel,rfl,by decide +kernel,by decide +kernel⟩
theorem iO:(["step"]:List Str).Nodup:=by decide +kernel
theorem iP:(["part"]:List Str).Nodup:=by decide +kernel
theorem pj (F:Fun K "log_text" "log_text" iE f fd)(B:Blt mg)(cWordsText:Cal P w K mg base 1 "words_text" ["words"] qT)(C:Cst mg):aW P w K mg base CX0 2 f fd ["log"] nP:=by
 refine F.ok ph (λvs H Q E h =>?_) (λcdv A outer s H vs Q E hr h =>?_)
 ·obtain ⟨_,_,rfl,_⟩:=gz.mp h
  rfl
 obtain ⟨l,us,rfl,el,tu,l3,q⟩:=gz.mp h
 refine ⟨_,(@aj _ _ _ (@az _ _ _ _ (aG cWordsText hr (by decide) rfl (@aa _ _ _ _ _ (fJ ["step"] [none] rfl (qf (pv 0)) rfl (λ_ _ _ _ _=>(aV (i:=0) iO rfl (Or.inl rfl))) (λ_ _ _ _ _=>gk) (λ_ _ _ _ _=>(df yv yw (qF (K:=K)) aq (@aa _ _ _ _ _ (fJ ["part"] [none] rfl (se (K:=K) (pv 0)) rfl (λ_ _ _ _ _=>(aV (i:=0) iP rfl (Or.inl rfl))) (λ_ _ _ _ _=>gk) (λ_ _ _ _ _=>(aL oZ rfl B.b_str cz (@aa _ _ _ _ _ (pv 0) af rfl)))) af rfl)))) af rfl)))),?_⟩
 refine ⟨_,rfl,l,rfl,jB (xs:=us.map λu =>.ref u.1) (λi ys H'=>aA H H'/\ys=(((us.take i).map (·.2)).map λu=>Txt.join " " (sw u)).map V.str) el ⟨aA.refl _,rfl⟩ (by rw[vZ];exact dE (by omega)) (λi ys H' z=>by rcases el with e | e <;> exact z.1.at e) ?_ ?_⟩
 ·rintro i x ys H1 hx hy ⟨s1,rfl⟩ R1 R0 r1 r0
  obtain ⟨u,eu,rfl⟩:=item hx
  obtain ⟨tu1,gu⟩:=tu u (xb eu)
  have tu2:=s1 _ _ tu1
  refine aE ⟨⟨_,rfl⟩,_,rfl,u.1,rfl,⟨_,SqT.of tu2⟩,jz (xs:=sv u.2) (λj zs H'=>H'=H1/\zs=((sw u.2).take j).map V.str) ⟨rfl,rfl⟩ (dE (wy (svl gu) (by decide))) (λj zs H' _ z=>by rw[z.1];exact SqT.of tu2) ?_ ?_⟩
  ·rintro j y zs H' hy' hz ⟨rfl,rfl⟩ P1 P0 p1 p0
   obtain ⟨z,sz,ez⟩:=qV gu hy'
   refine aE ⟨_,rfl,y,z,rfl,sz,p1 _ _ ⟨rfl,?_⟩⟩
   rw[xy,ez,we];rfl
  ·rintro zs H' hz ⟨rfl,rfl⟩ t ht
   rw[kA,xF]
   refine ⟨" ",t,_,rfl,rfl,SqL.of ae,nO (λw hw=>wy (qU gu w hw) (by decide)) (by rw[<- kA];exact wy (svl gu) (by decide)),r1 _ _ ⟨s1.trans (ah ht _),?_⟩⟩
   rw[xy,eu,we,we,we];rfl
 ·rintro ys H' hy ⟨s1,rfl⟩ t ht
  rw[vZ,xF]
  refine fV.mpr ⟨t,_,rfl,ae,λw hw =>?_,by rw[vZ,vZ];omega,?_⟩
  ·obtain ⟨v,hv,rfl⟩:=x9.mp hw
   obtain ⟨u,hu,rfl⟩:=x9.mp hv
   exact sT (tu u hu).2
  ·rw[qS]
   exact q _ (s1.trans (ah ht _))
end
structure Wp (H:Hp)(r:Addr)(m:Int)(ts:List (Addr×List Int)):Prop where
 at':∃t,H r=some (.tup [.int m,.ref t])/\H t=some (.tup (ts.map λu =>.ref u.1))
 tup:∀u∈ts,H u.1=some (.tup (u.2.map V.int))
 pr:∀u∈ts,∃a b:Int,u.2=[a,b]/\0<=a/\a<m/\0<=b/\b<m
 len:ts.length<=200
abbrev nT (i:Int):Str:=Str.ofString (toString i)
theorem va:∀n:Nat,n<41->(nT (n:Int)).length<=2:=by decide +kernel
theorem jP {i:Int}(h0:0<=i)(h1:i<=40):(nT i).length<=2:=by
 obtain ⟨n,rfl⟩:∃n:Nat,i=n:=⟨i.toNat,by omega⟩
 exact va n (by omega)
theorem vb {i:Int}(h0:0<=i)(h1:i<=40):i.natAbs.log2<1920:=xc (Nat.log2_le_self _) (by omega)
theorem shown_int {i:Int}(h0:0<=i)(h1:i<=40):shown (.int i)=some (nT i):=if_pos (vb h0 h1)
def pw (sg:Str)(p:List Int):Str:=Str.empty++nT (p.getD 0 0)++sg++nT (p.getD 1 0)
def hdw (wd:Str)(m:Int):Str:=Str.empty++wd ++ " " ++ nT m
def ptx (wd sg:Str)(m:Int)(ns:List (List Int)):Str:=Txt.join " " (hdw wd m :: ns.map (pw sg))
theorem len0:(Str.empty:Str).length=0:=rfl
theorem sU {wd:Str}{m:Int}(hw:wd.length<=10)(h0:0<=m)(h1:m<=40):(hdw wd m).length<=13:=by
 unfold hdw
 have:=jP h0 h1
 rw[aM,aM,aM,len0,lO]
 omega
theorem qX {sg:Str}{p:List Int}(hs:sg.length<=2)(h:∃a b:Int,p=[a,b]/\0<=a/\a<=40/\0<=b/\b<=40):(pw sg p).length<=13:=by
 obtain ⟨a,b,rfl,a0,a1,b0,b1⟩:=h
 unfold pw
 have h1:=jP a0 a1
 have h2:=jP b0 b1
 rw[aM,aM,aM,len0]
 show 0+(nT a).length+sg.length+(nT b).length<=13
 omega
theorem pk {ws:List Str}(h:∀w∈ws,w.length<=13)(l:ws.length<=300):JoinOk " " ws=true:=by
 unfold JoinOk
 rw[Ad (B:=13) h (by rw[lO];omega)]
 rfl
theorem sm5 {n:Nat}(h:n<=5000):n<wa:=xc h (by decide)
theorem sm6 {n:Nat}(h:n<=5000):n<=wa:=yJ (sm5 h)
abbrev uc:Sp:=λvs H Q _=>∃(wd sg:Str) (r:Addr) (m:Int) (ts:List (Addr×List Int)),vs=[.str wd,.ref r,.str sg]/\Wp H r m ts/\0<=m/\m<=40/\wd.length<=10/\sg.length<=2/\∀H',aA H H'->Q (.str (ptx wd sg m (ts.map (·.2)))) H'
@[irreducible] def qY:Sp:=uc
theorem fX {vs:List V}{H:Hp}{Q:VK}{E:XK}:qY vs H Q E↔uc vs H Q E:=by
 delta qY
 exact xr
section
variable  {P:wx}{w:wZ}{K:v5}{mg:Str->Option v8}{base:Heap}{f T:Addr}{fd:wR}
theorem bU:aJ ["word", "web", "sign", "many", "words", "pair", "one", "other"] ["word", "web", "sign"] (au fj):=⟨rfl,rfl,rfl,by decide +kernel,rfl,by decide +kernel,by decide +kernel⟩
theorem lT (F:Fun K "pairs_text" "pairs_text" fj f fd)(B:Blt mg)(C:Cst mg):aW P w K mg base CX0 1 f fd ["word", "web", "sign"] qY:=by
 refine F.ok bU (λvs H Q E h =>?_) (λcdv A outer s H vs Q E hr h =>?_)
 ·obtain ⟨_,_,_,_,_,rfl,_⟩:=fX.mp h
  rfl
 obtain ⟨wd,sg,r,m,ts,rfl,W,m0,m1,lw,ls,q⟩:=fX.mp h
 refine ⟨_,(@ag _ _ _ _ _ (@ay _ _ 3 _ _ _ _ bU.nd rfl (Or.inl rfl) (@aO _ _ _ _ _ _ _ da (pv 1) ai (λ_ _=>rfl)) rfl (by first | exact .inl rfl | exact .inr rfl | assumption))
  (@ag _ _ _ _ _ (@ay _ _ 4 _ _ _ _ bU.nd rfl (Or.inl rfl) (@aQ _ _ _ _ (@aa _ _ _ _ _ (kn (cw (dj (pv 0)) (cw aq (cw (dj (pv 3)) kj)))) af rfl)) rfl (by first | exact .inl rfl | exact .inr rfl | assumption))
  (@ag _ _ _ _ _ (@bY _ _ _ _ _ _ _ _ xt rfl (@pX _ _ _ _ (@aO _ _ _ _ _ _ _ da (pv 1) ai (λ_ _=>rfl))) (aV (i:=5) bU.nd rfl (Or.inl rfl))
   (@ag _ _ _ _ _ (@ay _ _ 6 _ _ _ _ bU.nd rfl (Or.inl rfl) (@aO _ _ _ _ _ _ _ da (pv 5) ai (λ_ _=>rfl)) rfl (by first | exact .inl rfl | exact .inr rfl | assumption))
   (@ag _ _ _ _ _ (@ay _ _ 7 _ _ _ _ bU.nd rfl (Or.inl rfl) (@aO _ _ _ _ _ _ _ da (pv 5) ai (λ_ _=>rfl)) rfl (by first | exact .inl rfl | exact .inr rfl | assumption))
   (@aj _ _ _ (bX (eU xa xk xl bT (pv 4) (@aa _ _ _ _ _ (kn (cw (dj (pv 6)) (cw (dj (pv 2)) (cw (dj (pv 7)) kj)))) af rfl)))))) (λ_=>rfl))
  (@aj _ _ _ (@az _ _ _ _ (df yv yw gW aq (@aa _ _ _ _ _ (pv 4) af rfl))))))),?_⟩
 obtain ⟨t,e1,e2⟩:=W.at'
 have lh:=sU lw m0 m1
 have hl1:(Str.empty++wd).length<=10:=by rw[aM,len0];omega
 have hl2:(Str.empty++wd ++ " ").length<=11:=by rw[aM,lO];omega
 refine ⟨_,rfl,r,_,0,_,rfl,rfl,SqT.of e1,rfl,_,rfl,wd,rfl,sm6 (by omega),wd,rfl,sm6 (by omega), " ",rfl,sm6 (by omega),_,rfl,nT m,shown_int m0 m1,sm6 (by have:=jP m0 m1;omega),nT m,rfl,sm6 (by show (hdw wd m).length<=5000;omega),sm6 (by show (hdw wd m).length<=5000;omega),(by show 1<=wa;decide),λl hl =>?_⟩
 have g1:=ah hl (.lst [.str (Str.empty++wd ++ " " ++ nT m)])
 have el:upd H l (.lst [.str (Str.empty++wd ++ " " ++ nT m)]) l=some (.lst [.str (hdw wd m)]):=ae
 have e2':=g1 _ _ e2
 generalize upd H l (.lst [.str (Str.empty++wd ++ " " ++ nT m)])=H1 at g1 el e2'
 refine ⟨_,rfl,r,_,1,_,rfl,rfl,SqT.of (g1 _ _ e1),rfl,t,rfl,⟨_,SqT.of e2'⟩,rJ (xs:=ts.map λu =>.ref u.1) (λi σ H'=>(∃c5 c6 c7,σ=[some (.str wd),some (.ref r),some (.str sg),some (.int m),some (.ref l),c5,c6,c7])/\aA H H'/\H' l=some (.lst ((hdw wd m :: ((ts.take i).map (·.2)).map (pw sg)).map V.str))) ⟨⟨_,_,_,rfl⟩,g1,el⟩ (λi σ H' _ k=>SqT.of (k.2.1 _ _ e2)) ?_ ?_⟩
 ·rintro i x σ H2 hx ⟨⟨c5,c6,c7,rfl⟩,s2,el2⟩
  obtain ⟨u,eu,rfl⟩:=item hx
  have mu:=xb eu
  obtain ⟨a,b,ep,a0,a1,b0,b1⟩:=W.pr u mu
  have tu:=s2 _ _ (W.tup u mu)
  rw[ep] at tu
  have lp:(pw sg u.2).length<=13:=qX ls ⟨a,b,ep,a0,by omega,b0,by omega⟩
  have ea:=jP a0 (show a<=40 by omega)
  have eb:=jP b0 (show b<=40 by omega)
  rw[ep] at lp
  have l1:(Str.empty++nT a).length<=2:=by rw[aM,len0];omega
  have l2:(Str.empty++nT a++sg).length<=4:=by rw[aM];omega
  refine ⟨_,rfl,u.1,_,0,.int a,rfl,rfl,SqT.of tu,rfl,_,rfl,u.1,_,1,.int b,rfl,rfl,SqT.of tu,rfl,?_⟩
  refine ⟨_,rfl,.inl ⟨rfl,_,SqL.of el2⟩,_,rfl,nT a,shown_int a0 (by omega),sm6 (by omega),nT a,rfl,sm6 (by omega),_,rfl,sg,rfl,sm6 (by omega),sg,rfl,sm6 (by omega),_,rfl,nT b,shown_int b0 (by omega),sm6 (by omega),nT b,rfl,sm6 (by show (pw sg [a,b]).length<=5000;omega),sm6 (by show (pw sg [a,b]).length<=5000;omega),l,_,_,rfl,rfl,el2,?_,⟨_,_,_,rfl⟩,?_,?_⟩
  ·have:=W.len
   rw[vZ,wk,vZ,vZ,wG]
   exact sm5 (by omega)
  ·exact λq o e=>by rw[ax (av e hl)];exact s2 _ _ e
  ·rw[ae,xy,eu,we,we,xM,xM,we]
   show _=some (HO.lst (V.str (hdw wd m) :: (_++[V.str (pw sg u.2)])))
   rw[ep]
   rfl
 ·rintro σ H2 ⟨⟨c5,c6,c7,rfl⟩,s2,el2⟩
  rw[vZ,xF] at el2
  refine ⟨⟨_,rfl⟩,_,rfl, " ",l,_,rfl,rfl,SqL.of el2,pk (λw hw =>?_) ?_,q _ s2⟩
  ·rcases wH.mp hw with rfl | hw
   ·exact lh
   ·obtain ⟨p,hp,rfl⟩:=x9.mp hw
    obtain ⟨u,hu,rfl⟩:=x9.mp hp
    obtain ⟨a,b,ep,a0,a1,b0,b1⟩:=W.pr u hu
    exact qX ls ⟨a,b,ep,a0,by omega,b0,by omega⟩
  ·have:=W.len
   rw[wk,vZ,vZ];omega
end
def pw2 (sg:Str)(p:List Int):Str:=nT (p.getD 0 0)++sg++nT (p.getD 1 0)
theorem nQ (x:Str):Str.empty++x=x:=Str.append_left_empty rfl
theorem vV (sg:Str):pw sg=pw2 sg:=by
 funext p
 unfold pw pw2
 rw[nQ]
def wds (wd sg:Str)(m:Int)(ns:List (List Int)):List Str:=wd :: nT m :: ns.map (pw2 sg)
theorem qZ (wd sg:Str)(m:Int)(ns:List (List Int)):ptx wd sg m ns=Txt.join " " (wds wd sg m ns):=by
 unfold ptx wds Txt.join hdw
 rw[xo,xo,vV,nQ]
 cases ns.map (pw2 sg) with
 | nil=>rfl
 | cons y r =>
  show wd ++ " " ++ nT m ++ " " ++ Str.join " " (y :: r)=wd ++ " " ++ (nT m ++ " " ++ Str.join " " (y :: r))
  apply cp
  simp only[cV,yA]
abbrev q8:Sp:=λvs H Q _=>∃(r:Addr) (m:Int) (ts:List (Addr×List Int)),vs=[.ref r]/\Wp H r m ts/\0<=m/\m<=40/\∀H',aA H H'->Q (.str (Txt.join " " (wds "web" "-" m (ts.map (·.2))))) H'
@[irreducible] def nR:Sp:=q8
theorem gA {vs:List V}{H:Hp}{Q:VK}{E:XK}:nR vs H Q E↔q8 vs H Q E:=by
 delta nR
 exact xr
section
variable  {P:wx}{w:wZ}{K:v5}{mg:Str->Option v8}{base:Heap}{f T:Addr}{fd:wR}
theorem pq:aJ ["web"] ["web"] (au iD):=⟨rfl,rfl,rfl,by decide +kernel,rfl,by decide +kernel,by decide +kernel⟩
theorem pz (F:Fun K "web_text" "web_text" iD f fd)(B:Blt mg)(cPairsText:Cal P w K mg base 1 "pairs_text" ["word", "web", "sign"] qY)(C:Cst mg):aW P w K mg base CX0 2 f fd ["web"] nR:=by
 refine F.ok pq (λvs H Q E h =>?_) (λcdv A outer s H vs Q E hr h =>?_)
 ·obtain ⟨_,_,_,rfl,_⟩:=gA.mp h
  rfl
 obtain ⟨r,m,ts,rfl,W,m0,m1,q⟩:=gA.mp h
 refine ⟨_,(@aj _ _ _ (@az _ _ _ _ (aG cPairsText hr (by decide) rfl (@aa _ _ _ _ _ aq (@aa _ _ _ _ _ (pv 0) (@aa _ _ _ _ _ aq af rfl) rfl) rfl)))),?_⟩
 refine ⟨_,rfl,fX.mpr ⟨"web", "-",r,m,ts,rfl,W,m0,m1,by decide,by decide,λH1 s1 =>?_⟩⟩
 rw[qZ]
 exact q H1 s1
end
abbrev ud:Sp:=λvs H Q _=>∃(r:Addr) (m:Int) (ts:List (Addr×List Int)),vs=[.ref r]/\Wp H r m ts/\0<=m/\m<=40/\∀H',aA H H'->Q (.str (Txt.join " " (wds "ways" ">" m (ts.map (·.2))))) H'
@[irreducible] def sV:Sp:=ud
theorem iQ {vs:List V}{H:Hp}{Q:VK}{E:XK}:sV vs H Q E↔ud vs H Q E:=by
 delta sV
 exact xr
section
variable  {P:wx}{w:wZ}{K:v5}{mg:Str->Option v8}{base:Heap}{f T:Addr}{fd:wR}
theorem kB:aJ ["web"] ["web"] (au eh):=⟨rfl,rfl,rfl,by decide +kernel,rfl,by decide +kernel,by decide +kernel⟩
theorem kC (F:Fun K "oneway_text" "oneway_text" eh f fd)(B:Blt mg)(cPairsText:Cal P w K mg base 1 "pairs_text" ["word", "web", "sign"] qY)(C:Cst mg):aW P w K mg base CX0 2 f fd ["web"] sV:=by
 refine F.ok kB (λvs H Q E h =>?_) (λcdv A outer s H vs Q E hr h =>?_)
 ·obtain ⟨_,_,_,rfl,_⟩:=iQ.mp h
  rfl
 obtain ⟨r,m,ts,rfl,W,m0,m1,q⟩:=iQ.mp h
 refine ⟨_,(@aj _ _ _ (@az _ _ _ _ (aG cPairsText hr (by decide) rfl (@aa _ _ _ _ _ aq (@aa _ _ _ _ _ (pv 0) (@aa _ _ _ _ _ aq af rfl) rfl) rfl)))),?_⟩
 refine ⟨_,rfl,fX.mpr ⟨"ways", ">",r,m,ts,rfl,W,m0,m1,by decide,by decide,λH1 s1 =>?_⟩⟩
 rw[qZ]
 exact q H1 s1
end
open PySem L2
def q9 (es:Array DictEntry):Bool:=es.toList.all λe => !e.refKey && (e.key.isStr "lone" || e.key.isStr "two" || e.key.isStr "loop" || e.key.isStr "many")
theorem fY {v:v8}{x:Str}(h:v.isStr x=true)(z:Str):v.isStr z=(x == z):=by
 cases v <;> simp only[Value.isStr] at h ⊢ <;> try cases h
 rw[eq_of_beq h]
theorem vW {K:v5}{c:Addr}{es:Array DictEntry}{n:Nat}(hl:K.lookup c=some ⟨.type "dict",none,.dict es n, #[]⟩)(h:q9 es=true)(z:Str)(hz:¬ bK z):wC K c z=some none:=by
 unfold wC
 rw[hl]
 unfold q9 at h
 dsimp only
 have f:es.toList.find? (·.key.isStr z)=none:=by
  rw[List.find?_eq_none]
  intro e he
  have q:=xv.mp h e he
  simp only[w6,Ap] at q
  intro k
  apply hz
  rcases q.2 with ((a | a) | a) | a
  ·rw[fY a] at k;exact .inl (eq_of_beq k).symm
  ·rw[fY a] at k;exact .inr (.inl (eq_of_beq k).symm)
  ·rw[fY a] at k;exact .inr (.inr (.inl (eq_of_beq k).symm))
  ·rw[fY a] at k;exact .inr (.inr (.inr (eq_of_beq k).symm))
 rw[f]
 dsimp only
 rw[if_neg]
 rw[Bool.not_eq_true,AV]
 intro e he
 have q:=xv.mp h e he
 simp only[w6,A1] at q
 rw[q.1];decide
structure Exs (w:wZ)(K:v5)(mg:Str->Option v8)(c_WebError c_BadWeb c_NoStep c_NoText c_NoRow c_STEP_NUMBERS:Addr):Prop where
 x_WebError:mg "WebError" = some (.ref c_WebError)
 x_BadWeb:mg "BadWeb" = some (.ref c_BadWeb)
 x_NoStep:mg "NoStep" = some (.ref c_NoStep)
 x_NoText:mg "NoText" = some (.ref c_NoText)
 x_NoRow:mg "NoRow" = some (.ref c_NoRow)
 x_STEP_NUMBERS:mg "STEP_NUMBERS" = some (.ref c_STEP_NUMBERS)
 xi_NoText:L2.sE K c_NoText=true
 xn_NoText:L2.sF K c_NoText "at" = true
 k_self:PySem.W.kitOne K (.ref c_NoText) (.ref c_NoText)=some true
 k_val:PySem.W.kitOne K (.ref c_NoText) (.type "ValueError")=some true
 xm_NoText:PySem.W.exmOne K (.ref c_NoText) (.ref c_WebError)=some true
 xo_NoText:PySem.W.kitAny K (.ref c_NoText) [.ref c_BadWeb,.ref c_NoStep,.ref c_NoRow]=some false
 w_ga:PySem.W.specialIn K (.ref c_WebError) "__getattribute__" = some (some (.builtin "type.__getattribute__"))
 w_rd:PySem.W.readsIn K c_WebError (.type "type")=true
 w_fd:PySem.W.findCls K (.ref c_WebError) (.type "type") "__init__" = some (.val (.builtin "ValueError.__init__"))
 dl:qD K w c_STEP_NUMBERS
 n1:∃t,wC K c_STEP_NUMBERS "lone" = some (some (.int 1 t))
 n2:∃t,wC K c_STEP_NUMBERS "two" = some (some (.int 1 t))
 n3:∃t,wC K c_STEP_NUMBERS "loop" = some (some (.int 1 t))
 n4:∃t,wC K c_STEP_NUMBERS "many" = some (some (.int 2 t))
 nn:∀z:Str,¬ bK z->wC K c_STEP_NUMBERS z=some none
theorem Exs.w {w:wZ}{K:v5}{mg:Str->Option v8}{c_WebError c_BadWeb c_NoStep c_NoText c_NoRow c_STEP_NUMBERS:Addr}(Z:Exs w K mg c_WebError c_BadWeb c_NoStep c_NoText c_NoRow c_STEP_NUMBERS):ExW K mg "WebError" c_WebError:=⟨Z.x_WebError,Z.w_ga,Z.w_rd,Z.w_fd⟩
theorem sW {H1:Hp}{ea dx:Addr}{o1 o2 o3:HO}(h:H1 ea=none)(hd:upd H1 ea o1 dx=none)(n:dx≠ea):aA H1 (rm (upd (upd (upd H1 ea o1) dx o2) ea o3) ea)/\rm (upd (upd (upd H1 ea o1) dx o2) ea o3) ea dx=some o2:=by
 refine ⟨λb u e =>?_,?_⟩
 ·have n1:b≠ea:=av e h
  have n2:b≠dx:=λz=>by
   rw[ax n] at hd
   rw[z,hd] at e;cases e
  rw[eX n1,ax n1,ax n2,ax n1];exact e
 ·rw[eX n,ax n,ae]
@[irreducible] def cX (C:Addr):Sp:=λvs H Q E=>∃(ea:Addr) (n:Nat),vs=[.ref ea,iv n]/\H ea=some (bF ea C none)/\n<=10 ^ 60/\∀dx,H dx=none->dx≠ea->Q .non (upd (upd H dx (.xd [("at",iv n)])) ea (bF ea C (some dx)))
theorem gB {C:Addr}{vs:List V}{H:Hp}{Q:VK}{E:XK}:cX C vs H Q E↔∃(ea:Addr) (n:Nat),vs=[.ref ea,iv n]/\H ea=some (bF ea C none)/\n<=10 ^ 60/\∀dx,H dx=none->dx≠ea->Q .non (upd (upd H dx (.xd [("at",iv n)])) ea (bF ea C (some dx))):=by
 delta cX
 exact xr
section
variable  {P:wx}{w:wZ}{K:v5}{mg:Str->Option v8}{base:Heap}{f:Addr}{fd:wR}{c_WebError c_BadWeb c_NoStep c_NoText c_NoRow c_STEP_NUMBERS:Addr}
theorem lU:aJ ["self", "at"] ["self", "at"] (au ft):=⟨rfl,rfl,rfl,by decide +kernel,rfl,by decide +kernel,by decide +kernel⟩
theorem lV (F:Fun K "__init__" "NoText.__init__" ft f fd)(Z:Exs w K mg c_WebError c_BadWeb c_NoStep c_NoText c_NoRow c_STEP_NUMBERS):aW P w K mg base CX0 1 f fd ["self", "at"] (cX c_NoText):=by
 refine F.ok lU (λvs H Q E h =>?_) (λcdv A outer s H vs Q E hr h =>?_)
 ·obtain ⟨_,_,rfl,_⟩:=gB.mp h
  rfl
 obtain ⟨ea,n,rfl,he,n0,q⟩:=gB.mp h
 obtain ⟨N,S⟩:=kh Z.xn_NoText
 have l0:=cW n0
 refine ⟨_,@ag _ _ _ _ _ (bX (oS (x := "WebError") Z.w rfl (@aa _ _ _ _ _ (pv 0) (@aa _ _ _ _ _ (kn (cw aq (cw (dj (pv 1)) kj))) af rfl) rfl))) (@aj _ _ _ (uV (pv 0) (pv 1) rfl)),?_⟩
 refine ⟨_,rfl,_,rfl,(by rw[aM];exact dE (by decide)),_,rfl,aN n,lP n0,dE (by omega),aN n,rfl,(by rw[aM,aM];exact wy (zA l0 _) (dE (by decide))),(by rw[aM,aM];exact wy (zA l0 _) (dE (by decide))),ea,_,none,_,rfl,he,N,(by show 1<=wa;decide),?_⟩
 exact ⟨_,rfl,_,rfl,ea,_,rfl,he,N,S,q⟩
end
open PySem L2
theorem sz {n:Nat}(h:n<=2000000):n<=wa:=wy h (by decide)
theorem sz' {n:Nat}(h:n<=2000000):n<wa:=xc h (by decide)
def nv:Option Nat->V
 | some n=>iv n
 | none =>.non
def sX (m:Int):Prop:=m = -1\/∃k:Nat,m=(k:Int)/\k<=10 ^ 60
theorem sX.facts {m:Int}(h:sX m):m.natAbs.log2<1920/\(nT m).length<=61/\∀n:Nat,(n:Int)<=m->(aN n).length<=(nT m).length:=by
 rcases h with rfl | ⟨k,rfl,hk⟩
 ·exact ⟨by decide,by decide +kernel,λn hn=>absurd hn (by omega)⟩
 ·exact ⟨lg hk,cW hk,λn hn=>jH (by omega)⟩
theorem lW (cs:List Nat):((cs.map λc=>decide (48<=c/\c<=57)).all id=true)↔mM cs:=by
 rw[List.all_map,xv]
 exact ⟨λh c hc=>of_decide_eq_true (h c hc),λh c hc=>decide_eq_true (h c hc)⟩
abbrev ue:Sp:=λvs H Q _=>∃(z:Str) (m:Int),vs=[.str z,.int m]/\z.length<=2000000/\sX m/\∀H',aA H H'->Q (nv (num z m)) H'
@[irreducible] def mR:Sp:=ue
theorem cP {vs:List V}{H:Hp}{Q:VK}{E:XK}:mR vs H Q E↔ue vs H Q E:=by
 delta mR
 exact xr
section
variable  {P:wx}{w:wZ}{K:v5}{mg:Str->Option v8}{base:Heap}{f T:Addr}{fd:wR}
theorem fZ:aJ ["word", "most", "number"] ["word", "most"] (au ej):=⟨rfl,rfl,rfl,by decide +kernel,rfl,by decide +kernel,by decide +kernel⟩
theorem f9:(["sign"]:List Str).Nodup:=by decide +kernel
theorem kD (F:Fun K "number_read" "number_read" ej f fd)(B:Blt mg)(C:Cst mg):aW P w K mg base CX0 1 f fd ["word", "most"] mR:=by
 refine F.ok fZ (λvs H Q E h =>?_) (λcdv A outer s H vs Q E hr h =>?_)
 ·obtain ⟨_,_,rfl,_⟩:=cP.mp h
  rfl
 obtain ⟨z,m,rfl,lz,hm,q⟩:=cP.mp h
 obtain ⟨t_FIGURES,w_FIGURES⟩:=C.c_FIGURES
 refine ⟨_,(@ag _ _ _ _ _ (@aP _ _ _ _ _ _ _ _ (PW.pt (bW (ak aZ (pv 0) aq (ar _)) (bS (hJ (cY (aD (kX rfl) rfl B.b_all qR (@aa _ _ _ _ _ (fJ ["sign"] [none] rfl (uZ (pv 0)) rfl (λ_ _ _ _ _=>(aV (i:=0) f9 rfl (Or.inl rfl))) (λ_ _ _ _ _=>gk) (λ_ _ _ _ _=>(bP ou (pv 0) (bA (v :=.str "0123456789") rfl w_FIGURES ⟨_,rfl⟩) rfl))) af rfl))))))) (@aj _ _ _ (@az _ _ _ _ bo)) aB)
  (@ag _ _ _ _ _ (@aP _ _ _ _ _ _ _ _ (PW.pt (cZ (cY (df PySem.F.slot_str_startswith PySem.F.type_str_startswith oV (pv 0) (@aa _ _ _ _ _ aq af rfl))) (cB (ak fE (pv 0) aq (ar _))))) (@aj _ _ _ (@az _ _ _ _ bo)) aB)
  (@ag _ _ _ _ _ (@aP _ _ _ _ _ _ _ _ (ak gF (aD cC rfl B.b_len aU (@aa _ _ _ _ _ (pv 0) af rfl)) (aD cC rfl B.b_len aU (@aa _ _ _ _ _ (aL aY rfl B.b_str cz (@aa _ _ _ _ _ (pv 1) af rfl)) af rfl)) (ar _)) (@aj _ _ _ (@az _ _ _ _ bo)) aB)
  (@ag _ _ _ _ _ (@ay _ _ 2 _ _ _ _ fZ.nd rfl (Or.inl rfl) (aL eJ rfl B.b_int dh (@aa _ _ _ _ _ (pv 0) af rfl)) rfl (by first | exact .inl rfl | exact .inr rfl | assumption))
  (@ag _ _ _ _ _ (@aP _ _ _ _ _ _ _ _ (ak gF (pv 2) (pv 1) (ar _)) (@aj _ _ _ (@az _ _ _ _ bo)) aB)
  (@aj _ _ _ (@az _ _ _ _ (pv 2)))))))),?_⟩
 have lc:=kq z
 obtain ⟨lm,l61,mono⟩:=hm.facts
 have no:(∀n,z≠aN n)->∀H',aA H H'->Q .non H':=λh H' s=>by
  have e:num z m=none:=bJ.mpr λn _=>h n
  have:=q H' s
  rw[e] at this
  exact this
 refine ⟨_,rfl,rfl,_,rfl,?_⟩
 by_cases h0:z = ""
 ·rw[decide_eq_true (congrArg V.str h0)]
  exact aE (aE (no (λn e=>gX n (by rw[<- e];exact cq.mp h0)) _ (aA.refl _)))
 rw[decide_eq_false (λy=>h0 (V.str.inj y))]
 refine aK ⟨_,rfl,z,rfl,?_⟩
 refine oW (λi ys H'=>H'=H/\ys=((z.cps.toList.take i).map λc=>decide (48<=c/\c<=57)).map V.bl) ⟨rfl,rfl⟩ (sz lz) ?_ ?_
 ·rintro i c ys H' hc hy ⟨rfl,rfl⟩ R1 R0 r1 r0
  refine aE ⟨_,rfl,⟨#[c]⟩, "0123456789",rfl,rfl,?_⟩
  rw[show (Str.ofString "0123456789").length=(Str.ofString "0123456789").length from rfl,sL]
  have hc':z.cps.toList[i]? = some c:=by rw[Array.getElem?_toList];exact hc
  refine r1 _ _ ⟨rfl,?_⟩
  rw[xy,hc',we,we];rfl
 rintro ys H' hy ⟨rfl,rfl⟩ l hl
 rw[show z.cps.size=z.cps.toList.length from xi.symm,xF]
 have g1:=ah hl (.lst ((z.cps.toList.map λc=>decide (48<=c/\c<=57)).map V.bl))
 refine ⟨l,_,rfl,SqL.of ae,?_⟩
 by_cases hf:mM z.cps.toList
 case neg =>
  rw[yz.mpr (λy=>hf ((lW _).mp y))]
  exact ⟨_,rfl,aE (no (λn e=>hf (by rw[e];exact λc hc=>d8 n c hc)) _ g1)⟩
 rw[(lW _).mpr hf]
 refine ⟨_,rfl,aK ⟨_,rfl,⟨_,rfl⟩,z, "0",rfl,rfl,_,rfl,?_⟩⟩
 cases hz:Txt.startswith z "0" with
 | false =>
  obtain ⟨n,rfl⟩:=fQ.mpr ⟨λy=>h0 (cq.mpr y),hf,λy=>by rw[ku.mpr y] at hz;cases hz⟩
  refine aK (aK ?_)
  refine ⟨_,rfl,aN n,rfl,sz lz,_,rfl,m,rfl,lm,nT m,rfl,dE (by omega),_,_,rfl,rfl,_,rfl,?_⟩
  by_cases hl2:((nT m).length:Int)<((aN n).length:Int)
  ·rw[decide_eq_true hl2]
   refine aE ?_
   have e:num (aN n) m=none:=bJ.mpr λk hk e=>by
    have:=mono k hk
    rw[<- e] at this
    omega
   have:=q _ g1
   rw[e] at this
   exact this
  rw[decide_eq_false hl2]
  refine aK ⟨_,rfl,aN n,(n:Int),rfl,cj (by omega),by omega,_,rfl,_,rfl,_,_,rfl,rfl,_,rfl,?_⟩
  by_cases hn:m<(n:Int)
  ·rw[decide_eq_true hn]
   refine aE ?_
   have e:num (aN n) m=none:=bJ.mpr λk hk e=>by
    have:=d9 e
    omega
   have:=q _ g1
   rw[e] at this
   exact this
  rw[decide_eq_false hn]
  have e:num (aN n) m=some n:=bh.mpr ⟨rfl,by omega⟩
  have:=q _ g1
  rw[e] at this
  exact aK ⟨_,rfl,this⟩
 | true =>
  refine aE ⟨_,rfl,rfl,_,rfl,?_⟩
  by_cases h1:z = "0"
  case neg =>
   rw[decide_eq_false (λy=>h1 (V.str.inj y))]
   exact aE (no (λn e=>h1 (ef.mpr (by rw[e];exact kv (by rw[<- e];exact ku.mp hz)))) _ g1)
  rw[decide_eq_true (congrArg V.str h1)]
  obtain ⟨n,rfl⟩:=fQ.mpr ⟨λy=>h0 (cq.mpr y),hf,λ_=>ef.mp h1⟩
  refine aK ?_
  refine ⟨_,rfl,aN n,rfl,sz lz,_,rfl,m,rfl,lm,nT m,rfl,dE (by omega),_,_,rfl,rfl,_,rfl,?_⟩
  by_cases hl2:((nT m).length:Int)<((aN n).length:Int)
  ·rw[decide_eq_true hl2]
   refine aE ?_
   have e:num (aN n) m=none:=bJ.mpr λk hk e=>by
    have:=mono k hk
    rw[<- e] at this
    omega
   have:=q _ g1
   rw[e] at this
   exact this
  rw[decide_eq_false hl2]
  refine aK ⟨_,rfl,aN n,(n:Int),rfl,cj (by omega),by omega,_,rfl,_,rfl,_,_,rfl,rfl,_,rfl,?_⟩
  by_cases hn:m<(n:Int)
  ·rw[decide_eq_true hn]
   refine aE ?_
   have e:num (aN n) m=none:=bJ.mpr λk hk e=>by
    have:=d9 e
    omega
   have:=q _ g1
   rw[e] at this
   exact this
  rw[decide_eq_false hn]
  have e:num (aN n) m=some n:=bh.mpr ⟨rfl,by omega⟩
  have:=q _ g1
  rw[e] at this
  exact aK ⟨_,rfl,this⟩
end
open PySem L2
theorem bG {X:Cx}{E:XK}{j k:Nat}{x:Str}{ps:List Str}{sp:Sp}{e:Expr}{es:List Expr}{t:TA}{p pos:Pos}(hx:Passes (CX2 X.prog X.w) X E)(C:cA X.prog X.w X.K X.mg X.base k x ps sp)(hr:bE j X.A)(hj:k<=j)(hg:Gl X x)(ha:PA X (e :: es) t)
  (hdb:(x == ("__debug__" : Str))=false:=by decide) (he:wX (e :: es) X.env=(false,eval e X.env) :: wX es X.env:=by rfl) (hpl:(yU pos (wX es X.env)).any (·.1)=false:=by rfl) :
  PE X (.Call (.Name x p) (e :: es) [] pos) (p5 sp [] E t):=by
 obtain ⟨f,fd,F,m,kp,b⟩:=C.ex
 exact ny F (hr.mono hj) hg m kp b .nil hx ha hdb he hpl
theorem lX {C:Addr}{H1:Hp}{n:Nat}{E:XK}{ea:Addr}(hn:n<=10 ^ 60)(be:∀dx H',aA H1 H'->H' dx=some (.xd [("at",iv n)])->E (.ref C) (some dx) H')(he:H1 ea=none):cX C [.ref ea,iv n] (upd H1 ea (bF ea C none)) (λv H2=>v = .non/\∃a d,V.ref ea = .ref a/\H2 a=some (bF a C d)/\E (.ref C) d (rm H2 a)) E :=
 gB.mpr ⟨ea,n,rfl,ae,hn,λdx hdx nx=>by
  obtain ⟨s2,ed⟩:=sW (o1:=bF ea C none) (o2 :=.xd [("at",iv n)]) (o3:=bF ea C (some dx)) he hdx nx
  exact ⟨rfl,ea,some dx,rfl,ae,be dx _ s2 ed⟩⟩
inductive Oth (H:Hp):V->Prop
 | non:Oth H .non
 | bl (b:Bool):Oth H (.bl b)
 | int (i:Int):Oth H (.int i)
 | lst {a:Addr} {xs:List V} (e:H a=some (.lst xs)):Oth H (.ref a)
 | tup {a:Addr} {xs:List V} (e:H a=some (.tup xs)):Oth H (.ref a)
 | dic {a:Addr} {kvs:List (Key×V)} (e:H a=some (.dK kvs)):Oth H (.ref a)
theorem Oth.ty {K:v5}{H:Hp}{x:V}(h:Oth H x):∃t,fF K H x t/\PySem.W.kitOne K t (.type "str")=some false:=by
 cases h with
 | non=>exact ⟨_,.non,rfl⟩
 | bl b=>exact ⟨_,.bl b,rfl⟩
 | int i=>exact ⟨_,.int i,rfl⟩
 | lst e=>exact ⟨_,.lst e,rfl⟩
 | tup e=>exact ⟨_,.tup e,rfl⟩
 | dic e=>exact ⟨_,.dK e,rfl⟩
theorem split_len (z:Str):(Txt.split z " ").length<=z.length+1:=by
 have j:=xO z " "
 have key:∀ws:List Str,ws.length<=(Str.join " " ws).length+1:=by
  intro ws
  induction ws with
  | nil=>exact xj _
  | cons w ws ih =>
   cases ws with
   | nil=>rw[wj];omega
   | cons x r =>
    rw[show Str.join " " (w :: x :: r)=w ++ " " ++ Str.join " " (x :: r) from rfl,aM,aM,wk]
    rw[lO]
    omega
 have:=key (Txt.split z " ")
 rwa [j] at this
theorem fv (z:Str):∀w∈Txt.split z " ",w.length<=z.length:=by
 have j:=xO z " "
 have key:∀ws:List Str,∀w∈ws,w.length<=(Str.join " " ws).length:=by
  intro ws
  induction ws with
  | nil=>exact λw h=>nomatch h
  | cons w ws ih =>
   cases ws with
   | nil=>exact λx h=>by rw[wo.mp h];exact wm _
   | cons x r =>
    intro y hy
    rw[show Str.join " " (w :: x :: r)=w ++ " " ++ Str.join " " (x :: r) from rfl,aM,aM]
    rcases wH.mp hy with rfl | hy
    ·omega
    ·have:=ih y hy
     omega
 have:=key (Txt.split z " ")
 rwa [j] at this
abbrev uf:Sp:=λvs H Q _=>∃(z:Str) (c m:Nat),vs=[.str z,iv m,.str (sgn c)]/\(c=45\/c=62)/\m<=40/\z.length<=2000000/\(prd z c ((m:Int)-1)=none->∀H',aA H H'->Q .non H')/\(∀p,prd z c ((m:Int)-1)=some p->∀(t:Addr) (H':Hp),aA H H'->H t=none->H' t=some (.tup [iv p.1,iv p.2])->Q (.ref t) H')
@[irreducible] def sY:Sp:=uf
theorem iR {vs:List V}{H:Hp}{Q:VK}{E:XK}:sY vs H Q E↔uf vs H Q E:=by
 delta sY
 exact xr
theorem part_of {z:Str}{c:Nat}(hc:c=45\/c=62)(l:z.length<=2000000)(m:Int):∃x w y:Str,parted z (sgn c)=[x,w,y]/\x.length<=2000000/\y.length<=2000000/\prd z c m=pop (num x m) (num y m):=by
 have hc':c<48\/57<c:=by omega
 by_cases h:c∈z.cps.toList
 ·obtain ⟨x,y,rfl,hx⟩:=qJ h
  rw[aM,aM] at l
  exact ⟨x,sgn c,y,oX hx,by omega,by omega,nG hc' hx m⟩
 ·refine ⟨z, "", "",o9 h,l,by decide,?_⟩
  rw[nH h,show num "" m=none from bJ.mpr λn _ e=>gX n (by rw[<- e];rfl)]
  cases num z m <;> rfl
theorem pA {m:Nat}(h:m<=40):sX ((m:Int)-1):=by
 rcases yS m with rfl | p
 ·exact .inl (by decide)
 ·exact .inr ⟨m-1,by omega,wy (show m-1<=40 by omega) (by decide)⟩
section
variable  {P:wx}{w:wZ}{K:v5}{mg:Str->Option v8}{base:Heap}{f T:Addr}{fd:wR}
theorem dF:aJ ["word", "many", "sign", "halves", "one", "other"] ["word", "many", "sign"] (au gv):=⟨rfl,rfl,rfl,by decide +kernel,rfl,by decide +kernel,by decide +kernel⟩
theorem mS (F:Fun K "pair_read" "pair_read" gv f fd)(B:Blt mg)(cNumberRead:Cal P w K mg base 1 "number_read" ["word", "most"] mR)(C:Cst mg):aW P w K mg base CX0 2 f fd ["word", "many", "sign"] sY:=by
 refine F.ok dF (λvs H Q E h =>?_) (λcdv A outer s H vs Q E hr h =>?_)
 ·obtain ⟨_,_,_,rfl,_⟩:=iR.mp h
  rfl
 obtain ⟨z,c,m,rfl,hc,m4,lz,q0,q1⟩:=iR.mp h
 refine ⟨_,(@ag _ _ _ _ _ (@ay _ _ 3 _ _ _ _ dF.nd rfl (Or.inl rfl) (df PySem.F.slot_str_partition PySem.F.type_str_partition ki (pv 0) (@aa _ _ _ _ _ (pv 2) af rfl)) rfl (by first | exact .inl rfl | exact .inr rfl | assumption))
  (@ag _ _ _ _ _ (@ay _ _ 4 _ _ _ _ dF.nd rfl (Or.inl rfl) (aG cNumberRead hr (by decide) rfl (@aa _ _ _ _ _ (@aO _ _ _ _ _ _ _ da (pv 3) ai (λ_ _=>rfl)) (@aa _ _ _ _ _ (@aH _ _ _ _ _ _ _ _ gh (pv 1) ai) af rfl) rfl)) rfl (by first | exact .inl rfl | exact .inr rfl | assumption))
  (@ag _ _ _ _ _ (@ay _ _ 5 _ _ _ _ dF.nd rfl (Or.inl rfl) (aG cNumberRead hr (by decide) rfl (@aa _ _ _ _ _ (@aO _ _ _ _ _ _ _ da (pv 3) ai (λ_ _=>rfl)) (@aa _ _ _ _ _ (@aH _ _ _ _ _ _ _ _ gh (pv 1) ai) af rfl) rfl)) rfl (by first | exact .inl rfl | exact .inr rfl | assumption))
  (@ag _ _ _ _ _ (@aP _ _ _ _ _ _ _ _ (PW.pt (bW (ak dW (pv 4) bo (ar _)) (bS (ak dW (pv 5) bo (ar _))))) (@aj _ _ _ (@az _ _ _ _ bo)) aB)
  (@aj _ _ _ (@az _ _ _ _ (@dX _ _ _ _ _ (@aa _ _ _ _ _ (pv 4) (@aa _ _ _ _ _ (pv 5) af rfl) rfl)))))))),?_⟩
 obtain ⟨x,w',y,ep,lx,ly,ee⟩:=part_of hc lz ((m:Int)-1)
 rw[ee] at q0 q1
 have mp:=pA m4
 refine ⟨_,rfl,⟨_,rfl⟩,_,rfl,_,sgn c,rfl,rfl,rfl,sz lz,λp hp =>?_⟩
 rw[ep]
 have g1:=ah hp (.tup ([x,w',y].map V.str))
 have ep:upd H p (.tup ([x,w',y].map V.str)) p=some (.tup ([x,w',y].map V.str)):=ae
 generalize upd H p (.tup ([x,w',y].map V.str))=H1 at g1 ep
 refine ⟨_,rfl,p,_,0,.str x,rfl,rfl,SqT.of ep,rfl,_,rfl,_,_,rfl,rfl,?_⟩
 refine cP.mpr ⟨x,_,rfl,lx,mp,λH2 s2 =>?_⟩
 refine ⟨_,rfl,p,_,2,.str y,rfl,rfl,SqT.of (s2 _ _ ep),rfl,_,rfl,_,_,rfl,rfl,?_⟩
 refine cP.mpr ⟨y,_,rfl,ly,mp,λH3 s3 =>?_⟩
 have s13:=(g1.trans s2).trans s3
 cases hx:num x ((m:Int)-1) with
 | none=>exact ⟨_,rfl,rfl,_,rfl,aE (aE (q0 (by rw[hx];rfl) _ s13))⟩
 | some a =>
  refine ⟨_,rfl,rfl,_,rfl,aK ?_⟩
  cases hy:num y ((m:Int)-1) with
  | none=>exact ⟨_,rfl,rfl,_,rfl,aE (q0 (by rw[hx,hy];rfl) _ s13)⟩
  | some b=>exact ⟨_,rfl,rfl,_,rfl,aK ⟨_,rfl,_,rfl,(by show 2<=wa;decide),λt ht=>q1 (a,b) (by rw[hx,hy];rfl) t _ (s13.trans (ah ht _)) (s13.free ht) ae⟩⟩
end
@[irreducible] def rf (cN:Addr):Sp:=λvs H Q E=>∃x,vs=[x]/\((∃z:Str,x = .str z/\z.length<=1900000/\∀(l:Addr) (H':Hp),aA H H'->H l=none->H' l=some (.lst ((Txt.split z " ").map V.str))->Q (.ref l) H')\/(Oth H x/\(∀dx H',aA H H'->H' dx=some (.xd [("at",iv (0))])->E (.ref cN) (some dx) H')))
theorem dm {cN:Addr}{vs:List V}{H:Hp}{Q:VK}{E:XK}:rf cN vs H Q E↔∃x,vs=[x]/\((∃z:Str,x = .str z/\z.length<=1900000/\∀(l:Addr) (H':Hp),aA H H'->H l=none->H' l=some (.lst ((Txt.split z " ").map V.str))->Q (.ref l) H')\/(Oth H x/\(∀dx H',aA H H'->H' dx=some (.xd [("at",iv (0))])->E (.ref cN) (some dx) H'))):=by
 delta rf
 exact xr
section
variable  {P:wx}{w:wZ}{K:v5}{mg:Str->Option v8}{base:Heap}{f:Addr}{fd:wR}{c_WebError c_BadWeb c_NoStep c_NoText c_NoRow c_STEP_NUMBERS:Addr}
theorem pB:aJ ["thing"] ["thing"] (au iF):=⟨rfl,rfl,rfl,by decide +kernel,rfl,by decide +kernel,by decide +kernel⟩
theorem pC (F:Fun K "words_of" "words_of" iF f fd)(B:Blt mg)(Z:Exs w K mg c_WebError c_BadWeb c_NoStep c_NoText c_NoRow c_STEP_NUMBERS)(iB:mI P w K mg base 1 c_NoText ["self", "at"] (cX c_NoText))(C:Cst mg):aW P w K mg base (CX2 P w) 3 f fd ["thing"] (rf c_NoText):=by
 refine F.ke pB (λvs H Q E h =>?_) (λcdv A outer s H vs Q E hr h =>?_)
 ·obtain ⟨_,rfl,_⟩:=dm.mp h
  rfl
 obtain ⟨x,rfl,hh⟩:=dm.mp h
 obtain ⟨fB,fdB,MB,FB,bB⟩:=iB.ex
 refine ⟨_,(@ag _ _ _ _ _ (@aP _ _ _ _ _ _ _ _ (hJ (cY (aD gJ rfl B.b_isinstance bL (@aa _ _ _ _ _ (pv 0) (@aa _ _ _ _ _ (jW (v :=.ty "str") rfl B.b_str cz rfl) af rfl) rfl)))) (@aj _ _ _ (bq (x := "NoText") d6 MB (bc Z.xi_NoText).1.sb (bc Z.xi_NoText).2.2 FB (hr.mono (by decide)) rfl Z.x_NoText bB bI (@aa _ _ _ _ _ ai af rfl))) aB)
  (@aj _ _ _ (@az _ _ _ _ (df xI yZ iu (pv 0) (@aa _ _ _ _ _ aq af rfl))))),?_⟩
 rcases hh with ⟨z,rfl,lz,q⟩ | ⟨ho,be⟩
 ·refine ⟨_,rfl,.str z, "str",_,true,rfl,.str z,rfl,_,rfl,aK ?_⟩
  refine ⟨_,rfl,⟨_,rfl⟩,z, " ",rfl,rfl,rfl,sz (by omega),?_,λl hl =>?_⟩
  ·have e1:=yF z " " 0 z.length (z.length+1)
   rw[zB]
   exact sz (by omega)
  ·exact q l _ (ah hl _) hl ae
 ·obtain ⟨t,ty,k⟩:=ho.ty (K:=K)
  exact ⟨_,rfl,x, "str",t,false,rfl,ty,k,_,rfl,aE ⟨(by show 1<=wa;decide),λea he=>lX (by decide) be he⟩⟩
end
open PySem L2
theorem bM {C:Addr}{H1:Hp}{n:Nat}{i:Int}{E:XK}{ea:Addr}(ei:i=(n:Int))(hn:n<=2000000)(be:∀dx H',aA H1 H'->H' dx=some (.xd [("at",iv n)])->E (.ref C) (some dx) H')(he:H1 ea=none):cX C [.ref ea,.int i] (upd H1 ea (bF ea C none)) (λv H2=>v = .non/\∃a d,V.ref ea = .ref a/\H2 a=some (bF a C d)/\E (.ref C) d (rm H2 a)) E:=by
 rw[ei]
 exact lX (wy hn (by decide)) be he
theorem cut1 (xs:List V):cu xs (some 1) none=xs.drop 1:=by
 unfold cu HT.sIx
 cases xs with
 | nil=>rfl
 | cons a l=>simp
theorem cut2 (a b:Str)(ws:List Str):cu ((a :: b :: ws).map V.str) (some 2) none=ws.map V.str:=by
 unfold cu HT.sIx
 simp
 rw[xB (by rw[vZ];exact wm _)]
def ris:List Nat->Bool
 | [a,b]=>decide (a<b)
 | _=>true
theorem sZ:∀{ns:List Nat},ns.length<=2->(((yl (ns.length-1)).map λj=>decide (ns.getD j 0<ns.getD (j+1) 0)).all id)=ris ns
 | [],_=>rfl
 | [a],_=>rfl
 | [a,b],_=>by simp[ris]
 | _ :: _ :: _ :: _,h=>absurd h (by simp)
abbrev nS:Sp:=λvs H Q _=>∃(p:Addr) (ns:List Nat),vs=[.ref p]/\H p=some (.lst (ns.map iv))/\ns.length<=2/\∀H',aA H H'->Q (.bl (ris ns)) H'
@[irreducible] def kE:Sp:=nS
theorem fw {vs:List V}{H:Hp}{Q:VK}{E:XK}:kE vs H Q E↔nS vs H Q E:=by
 delta kE
 exact xr
section
variable  {P:wx}{w:wZ}{K:v5}{mg:Str->Option v8}{base:Heap}{f T:Addr}{fd:wR}
theorem mT:aJ ["row"] ["row"] (au gs):=⟨rfl,rfl,rfl,by decide +kernel,rfl,by decide +kernel,by decide +kernel⟩
theorem eA:(["one", "other"]:List Str).Nodup:=by decide +kernel
theorem mU (F:Fun K "is_rising" "is_rising" gs f fd)(B:Blt mg)(C:Cst mg):aW P w K mg base CX0 1 f fd ["row"] kE:=by
 refine F.ok mT (λvs H Q E h =>?_) (λcdv A outer s H vs Q E hr h =>?_)
 ·obtain ⟨_,_,rfl,_⟩:=fw.mp h
  rfl
 obtain ⟨p,ns,rfl,ep,l2,q⟩:=fw.mp h
 refine ⟨_,(@aj _ _ _ (@az _ _ _ _ (aD (kX rfl) rfl B.b_all qR (@aa _ _ _ _ _ (fJ ["one", "other"] [none,none] rfl (sd true true rfl B.b_zip (@aa _ _ _ _ _ (pv 0) (@aa _ _ _ _ _ (bp bZ (pv 0) (bC ai) bQ) af rfl) rfl)) rfl (λ_ _ _ _ _=>(qg (K:=K) (i:=0) (j:=1) eA rfl rfl (Or.inl rfl) (Or.inl rfl))) (λ_ _ _ _ _=>gk) (λ_ _ _ _ _=>(bP dM (pv 0) (pv 1) (ar _)))) af rfl)))),?_⟩
 have lm:(ns.map iv).length=ns.length:=vZ _
 refine ⟨_,rfl,_,rfl,1,rfl,p,_,rfl,SqL.of ep,λp2 hp2 =>?_⟩
 rw[cut1]
 have s2:=ah hp2 (.lst ((ns.map iv).drop 1))
 have e2:upd H p2 (.lst ((ns.map iv).drop 1)) p2=some (.lst ((ns.map iv).drop 1)):=ae
 have ep2:=s2 _ _ ep
 generalize upd H p2 (.lst ((ns.map iv).drop 1))=H2 at s2 e2 ep2
 have ld:((ns.map iv).drop 1).length=ns.length-1:=by rw[wW,lm]
 refine ⟨p,p2,rfl,⟨_,SqL.of ep2⟩,⟨_,SqL.of e2⟩,vM (ns.length-1) (by rw[lm];omega) (by rw[ld];omega) (.inr ld.symm) (λi zs H'=>aA H2 H'/\zs=((yl i).map λj=>decide (ns.getD j 0<ns.getD (j+1) 0)).map V.bl) (by decide) ⟨aA.refl _,rfl⟩ (sz (by omega)) (λi zs H' _ k=>⟨SqL.of (k.1 _ _ ep2),SqL.of (k.1 _ _ e2)⟩) ?_ ?_⟩
 ·rintro i x y zs H' T' hx hy lz hT' ⟨s',rfl⟩ R1 R0 r1 r0
  obtain ⟨u,eu,rfl⟩:=item hx
  rw[AR,Nat.add_comm] at hy
  obtain ⟨v,ev,rfl⟩:=item hy
  refine aE ⟨_,rfl,_,rfl,_,_,rfl,rfl,r1 _ _ ⟨s'.trans (ah hT' _),?_⟩⟩
  rw[List.range_succ,we,we]
  show _=_++[V.bl (decide (ns.getD i 0<ns.getD (i+1) 0))]
  rw[wY,wY,eu,ev]
  show _++[V.bl (decide ((u:Int)<v))]=_++[V.bl (decide (u<v))]
  rw[show decide ((u:Int)<v)=decide (u<v) from decide_eq_decide.mpr Int.ofNat_lt]
 ·rintro zs H' lz ⟨s',rfl⟩ c5 hc5
  refine ⟨c5,_,rfl,SqL.of ae,?_⟩
  rw[sZ l2]
  exact q _ (s2.trans (s'.trans (ah hc5 _)))
end
theorem pD {a b c d:Nat}:HT.lexLe [(a:Int),(b:Int)] [(c:Int),(d:Int)]=true↔¬ je (c,d) (a,b):=by
 rw[HT.fi,HT.fi,HT.eY]
 unfold je
 dsimp only
 split
 ·split
  ·exact ⟨λ_=>by omega,λ_=>rfl⟩
  ·rw[decide_eq_true_iff];omega
 ·rw[decide_eq_true_iff];omega
theorem pE {a b c d:Nat}:HT.lexLt [(a:Int),(b:Int)] [(c:Int),(d:Int)]=true↔¬ je (c,d) (a,b)/\(c,d)≠(a,b):=by
 rw[HT.cg,HT.cg,HT.c9]
 unfold je
 dsimp only
 have e:((c,d)≠(a,b))↔¬ (c=a/\d=b):=not_congr ⟨λh=>⟨congrArg Prod.fst h,congrArg Prod.snd h⟩,λ⟨h1,h2⟩=>by rw[h1,h2]⟩
 rw[e]
 split
 ·split
  ·exact ⟨(λh=>nomatch h),λh=>by omega⟩
  ·rw[decide_eq_true_iff];omega
 ·rw[decide_eq_true_iff];omega
theorem cQ {α:Type}{us:List α}{u:α}(h:us.getLast? = some u)(f:α -> V):atI (us.map f) (-1)=some (f u):=by
 obtain ⟨ys,rfl⟩:∃ys,us=ys++[u]:=by
  rcases yt us with e | ⟨ys,x,e⟩
  ·rw[e] at h;cases h
  ·rw[yu] at e
   rw[e,yE] at h
   exact ⟨ys,by rw[e,wJ h]⟩
 rw[we]
 exact qa _ _
def Prs (H:Hp)(l:Addr)(us:List (Addr×PQ)):Prop:=H l=some (.lst (us.map λu =>.ref u.1))/\∀u∈us,H u.1=some (.tup [iv u.2.1,iv u.2.2])
abbrev iS (us:List (Addr×PQ)):Option PQ:=us.getLast?.map (·.2)
abbrev ug:Sp:=λvs H Q _=>∃(l t:Addr) (us:List (Addr×PQ)) (p:PQ),vs=[.ref l,.ref t]/\Prs H l us/\H t=some (.tup [iv p.1,iv p.2])/\us.length<=300/\∀r:Bool,(r=true↔okB 45 (iS us) p)->∀H',aA H H'->Q (.bl r) H'
@[irreducible] def tj:Sp:=ug
theorem iT {vs:List V}{H:Hp}{Q:VK}{E:XK}:tj vs H Q E↔ug vs H Q E:=by
 delta tj
 exact xr
section
variable  {P:wx}{w:wZ}{K:v5}{mg:Str->Option v8}{base:Heap}{f T:Addr}{fd:wR}
theorem ji:aJ ["pairs", "pair"] ["pairs", "pair"] (au dB):=⟨rfl,rfl,rfl,by decide +kernel,rfl,by decide +kernel,by decide +kernel⟩
theorem jj (F:Fun K "is_tie_behind" "is_tie_behind" dB f fd)(B:Blt mg)(C:Cst mg):aW P w K mg base CX0 1 f fd ["pairs", "pair"] tj:=by
 refine F.ok ji (λvs H Q E h =>?_) (λcdv A outer s H vs Q E hr h =>?_)
 ·obtain ⟨_,_,_,_,rfl,_⟩:=iT.mp h
  rfl
 obtain ⟨l,t,us,p,rfl,⟨el,tu⟩,et,l3,q⟩:=iT.mp h
 refine ⟨_,(@aj _ _ _ (@az _ _ _ _ (ux (bP vx (@aO _ _ _ _ _ _ _ da (pv 1) ai (λ_ _=>rfl)) (@aO _ _ _ _ _ _ _ da (pv 1) ai (λ_ _=>rfl)) (ar _)) (mj (tW (bP aZ (aD aw rfl B.b_len aU (@aa _ _ _ _ _ (pv 0) af rfl)) ai (ar _)) (mj (bP (u5 (xc (Ae _ 8) (hu8 hr))) (@aO _ _ _ _ _ _ _ aI (pv 0) (gE dU ai) (λ_ _=>rfl)) (pv 1) (ar _)))))))),?_⟩
 refine ⟨_,rfl,t,_,0,iv p.1,rfl,rfl,SqT.of et,rfl,_,rfl,t,_,1,iv p.2,rfl,rfl,SqT.of et,rfl,_,_,rfl,rfl,_,rfl,?_⟩
 by_cases ab:(p.1:Int)<=(p.2:Int)
 case neg =>
  rw[decide_eq_false ab]
  exact aK (q false ⟨(λh=>nomatch h),λh=>absurd (h.1 rfl) (by omega)⟩ _ (aA.refl _))
 rw[decide_eq_true ab]
 refine aE ⟨_,rfl,l,_,rfl,.inl (SqL.of el),rfl,_,rfl,?_⟩
 rcases yt us with hu | ⟨ys,u,hu⟩
 ·subst hu
  exact q _ (⟨λ_=>⟨λ_=>by omega,(λl h=>nomatch h)⟩,λ_=>rfl⟩) _ (aA.refl _)
 rw[yu] at hu
 have gl:us.getLast? = some u:=by rw[hu,yE]
 have mu:u∈us:=by rw[hu];exact wI _ wN
 rw[decide_eq_false (show ¬ V.int ((us.map λu=>V.ref u.1).length:Int)=V.int 0 from λz=>by
  have:=V.int.inj z
  rw[hu,we,wc] at this
  simp at this
  omega)]
 refine aK ⟨_,rfl,1,rfl,l,_, -1,.ref u.1,rfl,rfl,SqL.of el,cQ gl _,_,rfl,u.1,t,[(u.2.1:Int),(u.2.2:Int)],[(p.1:Int),(p.2:Int)],rfl,rfl,SqT.of (tu u mu),SqT.of et,?_⟩
 refine q _ ?_ _ (aA.refl _)
 rw[show iS us=some u.2 by unfold iS;rw[gl];rfl]
 exact pD.trans ⟨λh=>⟨λ_=>by omega,λl e=>by cases e;exact ⟨h,λz=>absurd z (by decide)⟩⟩,λh=>(h.2 _ rfl).1⟩
end
abbrev uh:Sp:=λvs H Q _=>∃(l t:Addr) (us:List (Addr×PQ)) (p:PQ),vs=[.ref l,.ref t]/\Prs H l us/\H t=some (.tup [iv p.1,iv p.2])/\us.length<=300/\∀r:Bool,(r=true↔okB 62 (iS us) p)->∀H',aA H H'->Q (.bl r) H'
@[irreducible] def tm:Sp:=uh
theorem iU {vs:List V}{H:Hp}{Q:VK}{E:XK}:tm vs H Q E↔uh vs H Q E:=by
 delta tm
 exact xr
section
variable  {P:wx}{w:wZ}{K:v5}{mg:Str->Option v8}{base:Heap}{f T:Addr}{fd:wR}
theorem gP:aJ ["pairs", "pair"] ["pairs", "pair"] (au cO):=⟨rfl,rfl,rfl,by decide +kernel,rfl,by decide +kernel,by decide +kernel⟩
theorem gQ (F:Fun K "is_arrow_behind" "is_arrow_behind" cO f fd)(B:Blt mg)(C:Cst mg):aW P w K mg base CX0 1 f fd ["pairs", "pair"] tm:=by
 refine F.ok gP (λvs H Q E h =>?_) (λcdv A outer s H vs Q E hr h =>?_)
 ·obtain ⟨_,_,_,_,rfl,_⟩:=iU.mp h
  rfl
 obtain ⟨l,t,us,p,rfl,⟨el,tu⟩,et,l3,q⟩:=iU.mp h
 refine ⟨_,(@aj _ _ _ (@az _ _ _ _ (tW (bP aZ (aD aw rfl B.b_len aU (@aa _ _ _ _ _ (pv 0) af rfl)) ai (ar _)) (mj (bP (p9 (xc (Ae _ 8) (hu8 hr))) (@aO _ _ _ _ _ _ _ aI (pv 0) (gE dU ai) (λ_ _=>rfl)) (pv 1) (ar _)))))),?_⟩
 refine ⟨_,rfl,l,_,rfl,.inl (SqL.of el),rfl,_,rfl,?_⟩
 rcases yt us with hu | ⟨ys,u,hu⟩
 ·subst hu
  exact q _ (⟨λ_=>⟨λz=>absurd z (by decide),(λl h=>nomatch h)⟩,λ_=>rfl⟩) _ (aA.refl _)
 rw[yu] at hu
 have gl:us.getLast? = some u:=by rw[hu,yE]
 have mu:u∈us:=by rw[hu];exact wI _ wN
 rw[decide_eq_false (show ¬ V.int ((us.map λu=>V.ref u.1).length:Int)=V.int 0 from λz=>by
  have:=V.int.inj z
  rw[hu,we,wc] at this
  simp at this
  omega)]
 refine aK ⟨_,rfl,1,rfl,l,_, -1,.ref u.1,rfl,rfl,SqL.of el,cQ gl _,_,rfl,u.1,t,[(u.2.1:Int),(u.2.2:Int)],[(p.1:Int),(p.2:Int)],rfl,rfl,SqT.of (tu u mu),SqT.of et,?_⟩
 refine q _ ?_ _ (aA.refl _)
 rw[show iS us=some u.2 by unfold iS;rw[gl];rfl]
 exact pE.trans ⟨λh=>⟨λz=>absurd z (by decide),λl e=>by cases e;exact ⟨h.1,λ_=>h.2⟩⟩,λh=>⟨(h.2 _ rfl).1,(h.2 _ rfl).2 rfl⟩⟩
end
open PySem L2
theorem eL (z:Str):Txt.split z " " ≠ []:=lI z 32
theorem iV (z:Str):Txt.join " " (Txt.split z " ")=z:=by
 unfold Txt.join
 rw[xo,xO]
@[irreducible] def rg (cN:Addr):Sp:=λvs H Q E=>∃x,vs=[x]/\((∃z:Str,x = .str z/\z.length<=1900000/\(∀us,fT (Txt.split z " ") us->∀(l:Addr) (H':Hp),aA H H'->H l=none->H' l=some (.lst (us.map V.str))->Q (.ref l) H')/\((Txt.split z " ").head? = some "-" -> 1<(Txt.split z " ").length->(∀dx H',aA H H'->H' dx=some (.xd [("at",iv (1))])->E (.ref cN) (some dx) H')))\/(Oth H x/\(∀dx H',aA H H'->H' dx=some (.xd [("at",iv (0))])->E (.ref cN) (some dx) H')))
theorem dn {cN:Addr}{vs:List V}{H:Hp}{Q:VK}{E:XK}:rg cN vs H Q E↔∃x,vs=[x]/\((∃z:Str,x = .str z/\z.length<=1900000/\(∀us,fT (Txt.split z " ") us->∀(l:Addr) (H':Hp),aA H H'->H l=none->H' l=some (.lst (us.map V.str))->Q (.ref l) H')/\((Txt.split z " ").head? = some "-" -> 1<(Txt.split z " ").length->(∀dx H',aA H H'->H' dx=some (.xd [("at",iv (1))])->E (.ref cN) (some dx) H')))\/(Oth H x/\(∀dx H',aA H H'->H' dx=some (.xd [("at",iv (0))])->E (.ref cN) (some dx) H'))):=by
 delta rg
 exact xr
section
variable  {P:wx}{w:wZ}{K:v5}{mg:Str->Option v8}{base:Heap}{f:Addr}{fd:wR}{c_WebError c_BadWeb c_NoStep c_NoText c_NoRow c_STEP_NUMBERS:Addr}
theorem gL:aJ ["thing", "words"] ["thing"] (au fm):=⟨rfl,rfl,rfl,by decide +kernel,rfl,by decide +kernel,by decide +kernel⟩
theorem lY (F:Fun K "rows_words" "rows_words" fm f fd)(B:Blt mg)(Z:Exs w K mg c_WebError c_BadWeb c_NoStep c_NoText c_NoRow c_STEP_NUMBERS)(iB:mI P w K mg base 1 c_NoText ["self", "at"] (cX c_NoText))(xWordsOf:cA P w K mg base 3 "words_of" ["thing"] (rf c_NoText))(C:Cst mg):aW P w K mg base (CX2 P w) 4 f fd ["thing"] (rg c_NoText):=by
 refine F.ke gL (λvs H Q E h =>?_) (λcdv A outer s H vs Q E hr h =>?_)
 ·obtain ⟨_,rfl,_⟩:=dn.mp h
  rfl
 obtain ⟨x,rfl,hh⟩:=dn.mp h
 obtain ⟨fB,fdB,MB,FB,bB⟩:=iB.ex
 refine ⟨_,(@ag _ _ _ _ _ (@ay _ _ 1 _ _ _ _ gL.nd rfl (Or.inl rfl) (bG bI xWordsOf hr (by decide) rfl (@aa _ _ _ _ _ (pv 0) af rfl)) rfl (by first | exact .inl rfl | exact .inr rfl | assumption))
  (@ag _ _ _ _ _ (@aP _ _ _ _ _ _ _ _ (ak fE (@aO _ _ _ _ _ _ _ aI (pv 1) ai (λ_ _=>rfl)) aq (ar _)) (@aj _ _ _ (@az _ _ _ _ (pv 1))) aB)
  (@ag _ _ _ _ _ (@aP _ _ _ _ _ _ _ _ (ak gF (aD aw rfl B.b_len aU (@aa _ _ _ _ _ (pv 1) af rfl)) ai (ar _)) (@aj _ _ _ (bq (x := "NoText") d6 MB (bc Z.xi_NoText).1.sb (bc Z.xi_NoText).2.2 FB (hr.mono (by decide)) rfl Z.x_NoText bB bI (@aa _ _ _ _ _ ai af rfl))) aB)
  (@aj _ _ _ (@az _ _ _ _ (@aQ _ _ _ _ af)))))),?_⟩
 rcases hh with ⟨z,rfl,lz,q,be⟩ | ⟨ho,be⟩
 ·refine ⟨_,rfl,dm.mpr ⟨_,rfl,.inl ⟨z,rfl,lz,λl H1 s1 hl el =>?_⟩⟩⟩
  have le:=split_len z
  have ne:=eL z
  generalize Txt.split z " " = ws at q be el le ne
  cases ws with
  | nil=>exact absurd rfl ne
  | cons w rest =>
  refine ⟨_,rfl,l,_,0,.str w,rfl,rfl,SqL.of el,bf (j:=0) rfl,rfl,_,rfl,?_⟩
  by_cases hw:w = "-"
  case neg =>
   rw[decide_eq_false (λy=>hw (V.str.inj y))]
   exact aE ⟨_,rfl,q _ (.inl ⟨λy=>hw (wJ y),rfl⟩) l _ s1 hl el⟩
  rw[decide_eq_true (congrArg V.str hw)]
  refine aK ⟨_,rfl,l,_,rfl,.inl (SqL.of el),_,_,rfl,rfl,_,rfl,?_⟩
  subst hw
  cases rest with
  | nil=>exact aK ⟨(by show 0<=wa;decide),λr hr'=>q _ (.inr ⟨rfl,rfl⟩) r _ (s1.trans (ah hr' _)) (s1.free hr') ae⟩
  | cons y r =>
   rw[decide_eq_true (show (1:Int)<((("-" :: y :: r:List Str).map V.str).length:Int) by rw[vZ,wk,wk];omega)]
   exact aE ⟨(by show 1<=wa;decide),λea he=>bM rfl (by decide) (λdx H' s=>be rfl (by rw[wk,wk];omega) dx H' (s1.trans s)) he⟩
 ·exact ⟨_,rfl,dm.mpr ⟨_,rfl,.inr ⟨ho,be⟩⟩⟩
end
@[irreducible] def iW (P:wx)(w:wZ)(K:v5)(mg:Str->Option v8)(base:Heap)(cN:Addr):Sp:=λvs H Q E=>∃(x:V) (wd:Str) (c:Nat) (f:Addr) (sp:Sp),vs=[x,.str wd,.str (sgn c),.ref f]/\(c=45\/c=62)/\sH P w K mg base 1 f ["pairs", "pair"] sp/\(∀(l t:Addr) (us:List (Addr×PQ)) (p:PQ) (H1:Hp) (Q1:VK),Prs H1 l us->H1 t=some (.tup [iv p.1,iv p.2])->us.length<=300->(∀r:Bool,(r=true↔okB c (iS us) p)->∀H2,aA H1 H2->Q1 (.bl r) H2)->sp [.ref l,.ref t] H1 Q1 E0)/\((∃z:Str,x = .str z/\z.length<=1900000/\(∀k,cM wd c (Txt.split z " ")=some k->(∀dx H',aA H H'->H' dx=some (.xd [("at",iv (k))])->E (.ref cN) (some dx) H'))/\(cM wd c (Txt.split z " ")=none->∀(r:Addr) (m:Nat) (ts:List (Addr×List Int)) (H':Hp),m<=40->aA H H'->Wp H' r m ts->z=Txt.join " " (wds wd (sgn c) m (ts.map (·.2)))->Q (.ref r) H'))\/(Oth H x/\(∀dx H',aA H H'->H' dx=some (.xd [("at",iv (0))])->E (.ref cN) (some dx) H')))
theorem dG {P:wx}{w:wZ}{K:v5}{mg:Str->Option v8}{base:Heap}{cN:Addr}{vs:List V}{H:Hp}{Q:VK}{E:XK}:iW P w K mg base cN vs H Q E↔∃(x:V) (wd:Str) (c:Nat) (f:Addr) (sp:Sp),vs=[x,.str wd,.str (sgn c),.ref f]/\(c=45\/c=62)/\sH P w K mg base 1 f ["pairs", "pair"] sp/\(∀(l t:Addr) (us:List (Addr×PQ)) (p:PQ) (H1:Hp) (Q1:VK),Prs H1 l us->H1 t=some (.tup [iv p.1,iv p.2])->us.length<=300->(∀r:Bool,(r=true↔okB c (iS us) p)->∀H2,aA H1 H2->Q1 (.bl r) H2)->sp [.ref l,.ref t] H1 Q1 E0)/\((∃z:Str,x = .str z/\z.length<=1900000/\(∀k,cM wd c (Txt.split z " ")=some k->(∀dx H',aA H H'->H' dx=some (.xd [("at",iv (k))])->E (.ref cN) (some dx) H'))/\(cM wd c (Txt.split z " ")=none->∀(r:Addr) (m:Nat) (ts:List (Addr×List Int)) (H':Hp),m<=40->aA H H'->Wp H' r m ts->z=Txt.join " " (wds wd (sgn c) m (ts.map (·.2)))->Q (.ref r) H'))\/(Oth H x/\(∀dx H',aA H H'->H' dx=some (.xd [("at",iv (0))])->E (.ref cN) (some dx) H'))):=by
 delta iW
 exact xr
section
variable  {P:wx}{w:wZ}{K:v5}{mg:Str->Option v8}{base:Heap}{f:Addr}{fd:wR}{c_WebError c_BadWeb c_NoStep c_NoText c_NoRow c_STEP_NUMBERS:Addr}
theorem bV:aJ ["thing", "word", "sign", "can_stand", "words", "many", "pairs", "text", "pair"] ["thing", "word", "sign", "can_stand"] (au fo):=⟨rfl,rfl,rfl,by decide +kernel,rfl,by decide +kernel,by decide +kernel⟩
theorem lZ (F:Fun K "pairs_read" "pairs_read" fo f fd)(B:Blt mg)(Z:Exs w K mg c_WebError c_BadWeb c_NoStep c_NoText c_NoRow c_STEP_NUMBERS)(iB:mI P w K mg base 1 c_NoText ["self", "at"] (cX c_NoText))(xWordsOf:cA P w K mg base 3 "words_of" ["thing"] (rf c_NoText))(cNumberRead:Cal P w K mg base 1 "number_read" ["word", "most"] mR)(cPairRead:Cal P w K mg base 2 "pair_read" ["word", "many", "sign"] sY)(C:Cst mg):aW P w K mg base (CX2 P w) 4 f fd ["thing", "word", "sign", "can_stand"] (iW P w K mg base c_NoText):=by
 refine F.ke bV (λvs H Q E h =>?_) (λcdv A outer s H vs Q E hr h =>?_)
 ·obtain ⟨_,_,_,_,_,rfl,_⟩:=dG.mp h
  rfl
 obtain ⟨x,wd,c,f',sp,rfl,hc,CF,cs,hh⟩:=dG.mp h
 obtain ⟨t_MOST_PLACES,w_MOST_PLACES⟩:=C.c_MOST_PLACES
 obtain ⟨t_MOST_TIES,w_MOST_TIES⟩:=C.c_MOST_TIES
 obtain ⟨fB,fdB,MB,FB,bB⟩:=iB.ex
 refine ⟨_,(@ag _ _ _ _ _ (@ay _ _ 4 _ _ _ _ bV.nd rfl (Or.inl rfl) (bG bI xWordsOf hr (by decide) rfl (@aa _ _ _ _ _ (pv 0) af rfl)) rfl (by first | exact .inl rfl | exact .inr rfl | assumption))
  (@ag _ _ _ _ _ (@aP _ _ _ _ _ _ _ _ (ak fE (@aO _ _ _ _ _ _ _ aI (pv 4) ai (λ_ _=>rfl)) (pv 1) (ar _)) (@aj _ _ _ (bq (x := "NoText") d6 MB (bc Z.xi_NoText).1.sb (bc Z.xi_NoText).2.2 FB (hr.mono (by decide)) rfl Z.x_NoText bB bI (@aa _ _ _ _ _ ai af rfl))) aB)
  (@ag _ _ _ _ _ (@aP _ _ _ _ _ _ _ _ (ak aZ (aD aw rfl B.b_len aU (@aa _ _ _ _ _ (pv 4) af rfl)) ai (ar _)) (@aj _ _ _ (bq (x := "NoText") d6 MB (bc Z.xi_NoText).1.sb (bc Z.xi_NoText).2.2 FB (hr.mono (by decide)) rfl Z.x_NoText bB bI (@aa _ _ _ _ _ ai af rfl))) aB)
  (@ag _ _ _ _ _ (@ay _ _ 5 _ _ _ _ bV.nd rfl (Or.inl rfl) (aG cNumberRead hr (by decide) rfl (@aa _ _ _ _ _ (@aO _ _ _ _ _ _ _ aI (pv 4) ai (λ_ _=>rfl)) (@aa _ _ _ _ _ (bA (v :=.int 40) rfl w_MOST_PLACES ⟨_,rfl⟩) af rfl) rfl)) rfl (by first | exact .inl rfl | exact .inr rfl | assumption))
  (@ag _ _ _ _ _ (@aP _ _ _ _ _ _ _ _ (ak dW (pv 5) bo (ar _)) (@aj _ _ _ (bq (x := "NoText") d6 MB (bc Z.xi_NoText).1.sb (bc Z.xi_NoText).2.2 FB (hr.mono (by decide)) rfl Z.x_NoText bB bI (@aa _ _ _ _ _ ai af rfl))) aB)
  (@ag _ _ _ _ _ (@ay _ _ 6 _ _ _ _ bV.nd rfl (Or.inl rfl) (@aQ _ _ _ _ af) rfl (by first | exact .inl rfl | exact .inr rfl | assumption))
  (@ag _ _ _ _ _ (@bY _ _ _ _ _ _ _ _ y6 rfl (@gR _ _ _ _ (bp bZ (pv 4) (bC ai) bQ)) (aV (i:=7) bV.nd rfl (Or.inl rfl))
   (@ag _ _ _ _ _ (@ay _ _ 8 _ _ _ _ bV.nd rfl (Or.inl rfl) (aG cPairRead hr (by decide) rfl (@aa _ _ _ _ _ (pv 7) (@aa _ _ _ _ _ (pv 5) (@aa _ _ _ _ _ (pv 2) af rfl) rfl) rfl)) rfl (by first | exact .inl rfl | exact .inr rfl | assumption))
   (@ag _ _ _ _ _ (@aP _ _ _ _ _ _ _ _ (PW.pt (bW (ak dW (pv 8) bo (ar _)) (bW (ak aZ (aD aw rfl B.b_len aU (@aa _ _ _ _ _ (pv 6) af rfl)) (bA (v :=.int 200) rfl w_MOST_TIES ⟨_,rfl⟩) (ar _)) (bS (hJ (cY (qA 1 (pv 3) hr (by decide) (@aa _ _ _ _ _ (pv 6) (@aa _ _ _ _ _ (pv 8) af rfl) rfl)))))))) (@aj _ _ _ (bq (x := "NoText") d6 MB (bc Z.xi_NoText).1.sb (bc Z.xi_NoText).2.2 FB (hr.mono (by decide)) rfl Z.x_NoText bB bI (@aa _ _ _ _ _ (@aH _ _ _ _ _ _ _ _ aX ai (aD aw rfl B.b_len aU (@aa _ _ _ _ _ (pv 6) af rfl))) af rfl))) aB)
   (@aj _ _ _ (bX (eU xa xk xl bT (pv 6) (@aa _ _ _ _ _ (pv 8) af rfl)))))) (λ_=>rfl))
  (@aj _ _ _ (@az _ _ _ _ (@dX _ _ _ _ _ (@aa _ _ _ _ _ (pv 5) (@aa _ _ _ _ _ (aL de rfl B.b_tuple iM (@aa _ _ _ _ _ (pv 6) af rfl)) af rfl) rfl))))))))))),?_⟩
 rcases hh with ⟨z,rfl,lz,be,q⟩ | ⟨ho,be⟩
 case inr=>exact ⟨_,rfl,dm.mpr ⟨_,rfl,.inr ⟨ho,be⟩⟩⟩
 refine ⟨_,rfl,dm.mpr ⟨_,rfl,.inl ⟨z,rfl,lz,λl H1 s1 hl el =>?_⟩⟩⟩
 have le:=split_len z
 have ne:=eL z
 have wl:=fv z
 have zj:=iV z
 generalize Txt.split z " " = ws at q be el le ne wl zj
 cases ws with
 | nil=>exact absurd rfl ne
 | cons w0 rest =>
 refine ⟨_,rfl,l,_,0,.str w0,rfl,rfl,SqL.of el,bf (j:=0) rfl,_,rfl,rfl,_,rfl,?_⟩
 by_cases hw:w0=wd
 case neg =>
  rw[decide_eq_false (λy=>hw (V.str.inj y))]
  exact aE ⟨(by show 1<=wa;decide),λea he=>bM rfl (by decide) (λdx H' s=>be 0 (if_pos hw) dx H' (s1.trans s)) he⟩
 rw[decide_eq_true (congrArg V.str hw)]
 refine aK ⟨_,rfl,l,_,rfl,.inl (SqL.of el),rfl,_,rfl,?_⟩
 have bw:cM wd c (w0 :: rest)=_:=if_neg (λy=>y hw)
 cases rest with
 | nil=>exact aE ⟨(by show 1<=wa;decide),λea he=>bM rfl (by decide) (λdx H' s=>be 1 bw dx H' (s1.trans s)) he⟩
 | cons x r =>
 rw[decide_eq_false (show ¬ V.int (((w0 :: x :: r:List Str).map V.str).length:Int)=V.int 1 from λy=>by
  have:=V.int.inj y
  rw[vZ,wk,wk] at this
  omega)]
 refine aK ⟨_,rfl,l,_,1,.str x,rfl,rfl,SqL.of el,bf (j:=1) rfl,cP.mpr ⟨x,40,rfl,wy (wl x (by simp)) (by omega),.inr ⟨40,rfl,by decide⟩,λH2 s2 =>?_⟩⟩
 dsimp only at bw
 cases hx:num x 40 with
 | none =>
  rw[hx] at bw
  exact ⟨_,rfl,rfl,_,rfl,aE ⟨(by show 1<=wa;decide),λea he=>bM rfl (by decide) (λdx H' s=>be 1 bw dx H' ((s1.trans s2).trans s)) he⟩⟩
 | some m =>
 rw[hx] at bw
 dsimp only at bw
 obtain ⟨rfl,m40⟩:=bh.mp hx
 have m4:m<=40:=by omega
 refine ⟨_,rfl,rfl,_,rfl,aK ⟨(by show 0<=wa;decide),λlp hlp =>?_⟩⟩
 have g3:=ah hlp (.lst [])
 have el3:=g3 _ _ (s2 _ _ el)
 have elp:upd H2 lp (.lst []) lp=some (.lst []):=ae
 have s13:=(s1.trans s2).trans g3
 generalize upd H2 lp (.lst [])=H3 at g3 el3 elp s13
 refine ⟨_,rfl,2,rfl,l,_,rfl,SqL.of el3,λw2 hw2 =>?_⟩
 rw[cut2]
 have g4:=ah hw2 (.lst (r.map V.str))
 have ew2:upd H3 w2 (.lst (r.map V.str)) w2=some (.lst (r.map V.str)):=ae
 have nw:w2≠lp:=λz=>by rw[z,elp] at hw2;cases hw2
 have elp4:=g4 _ _ elp
 have s14:=s13.trans g4
 have hlp1:H lp=none:=(s1.trans s2).free hlp
 generalize upd H3 w2 (.lst (r.map V.str))=H4 at g4 ew2 elp4 s14
 have lr:r.length<=1900000:=by rw[wk,wk] at le;omega
 refine ⟨w2,rfl,⟨_,SqL.of ew2⟩,hX (xs:=r.map V.str) (λi σ H'=>∃(us:List (Addr×PQ)) (c7 c8:Option V),σ=[some (.str z),some (.str wd),some (.str (sgn c)),some (.ref f'),some (.ref l),some (iv m),some (.ref lp),c7,c8]/\(∀q o,q≠lp->H4 q=some o->H' q=some o)/\Prs H' lp us/\us.length=i/\i<=200/\(us.map λu=>pwd c u.2.1 u.2.2)=r.take i/\(∀u∈us,u.2.1<m/\u.2.2<m)/\eg c ((m:Int)-1) none 2 r=eg c ((m:Int)-1) (iS us) (2+i) (r.drop i)) ⟨[],_,_,rfl,λq o _ e=>e,⟨elp4,λu h=>nomatch h⟩,rfl,xj _,rfl,(λu h=>nomatch h),rfl⟩ (λi σ H' _ ⟨us,c7,c8,_,k,_⟩=>SqL.of (k _ _ nw ew2)) ?_ ?_⟩
 ·rintro i x σ H5 hx5 ⟨us,c7,c8,rfl,k5,⟨el5,tu5⟩,lu,i2,eu5,lt5,eb5⟩
  obtain ⟨wi,ew,rfl⟩:=item hx5
  have li:=(wF.mp ew).1
  have dr:r.drop i=wi :: r.drop (i+1):=by
   rw[xq li]
   rw[wt li] at ew
   rw[wJ ew]
  rw[dr] at eb5
  have s5:aA H H5:=λq o e=>k5 q o (av e hlp1) (s14 _ _ e)
  have bad:∀{H6:Hp} {ea:Addr},aA H5 H6->eg c ((m:Int)-1) (iS us) (2+i) (wi :: r.drop (i+1))=some (2+i)->H6 ea=none->cX c_NoText [.ref ea,.int (2+((us.map λu=>V.ref u.1).length:Int))] (upd H6 ea (bF ea c_NoText none)) (λv H2=>v = .non/\∃a d,V.ref ea = .ref a/\H2 a=some (bF a c_NoText d)/\E (.ref c_NoText) d (rm H2 a)) E:=λs6 e he=>bM (n:=2+i) (by rw[vZ,lu];omega) (by omega) (λdx H' s=>be (2+i) (bw.trans (eb5.trans e)) dx H' ((s5.trans s6).trans s)) he
  refine ⟨_,rfl,_,rfl,_,rfl,iR.mpr ⟨wi,c,m,rfl,hc,m4,wy (wl wi (wD _ (wD _ (xb ew)))) (by omega),λhn H6 s6 =>?_,λp hp t H6 s6 ht et =>?_⟩⟩
  ·exact ⟨_,rfl,rfl,_,rfl,aE (aE ⟨_,rfl,lp,_,rfl,.inl (SqL.of (s6 _ _ el5)),_,_,rfl,rfl,(by show 1<=wa;decide),λea he=>bad s6 (jM hn) he⟩)⟩
  have el6:=s6 _ _ el5
  have P6:Prs H6 lp us:=⟨el6,λu hu=>s6 _ _ (tu5 u hu)⟩
  refine ⟨_,rfl,rfl,_,rfl,aK ⟨_,rfl,lp,_,rfl,.inl (SqL.of el6),rfl,_,rfl,?_⟩⟩
  by_cases i20:i=200
  ·rw[decide_eq_true (show V.int ((us.map λu=>V.ref u.1).length:Int)=V.int 200 by rw[vZ,lu,i20];rfl)]
   exact aE (aE ⟨_,rfl,lp,_,rfl,.inl (SqL.of el6),_,_,rfl,rfl,(by show 1<=wa;decide),λea he=>bad s6 (dk hp (.inl (by omega))) he⟩)
  rw[decide_eq_false (show ¬ V.int ((us.map λu=>V.ref u.1).length:Int)=V.int 200 from λy=>by
   have:=V.int.inj y
   rw[vZ] at this
   omega)]
  refine aK ⟨_,rfl,f',_,sp,rfl,CF,_,rfl,_,rfl,cs lp t us p H6 _ P6 et (by omega) λrb hrb H7 s7=>⟨_,rfl,?_⟩⟩
  have s67:=s6.trans s7
  have el7:=s67 _ _ el5
  cases rb with
  | false=>exact aE ⟨_,rfl,lp,_,rfl,.inl (SqL.of el7),_,_,rfl,rfl,(by show 1<=wa;decide),λea he=>bad s67 (dk hp (.inr λy=>nomatch hrb.mpr y)) he⟩
  | true =>
  refine aK ?_
  have nt:t≠lp:=λz=>by rw[z,el5] at ht;cases ht
  obtain ⟨ep,pa,pb⟩:=qK (by omega) hp
  refine ⟨_,rfl,.inl ⟨rfl,_,SqL.of el7⟩,_,rfl,lp,_,_,rfl,rfl,el7,?_,us++[(t,p)],_,_,rfl,λq o n e=>by rw[ax n];exact s67 _ _ (k5 q o n e),⟨?_,λu hu =>?_⟩,?_,by omega,?_,λu hu =>?_,?_⟩
  ·rw[vZ];exact sz' (by omega)
  ·rw[ae,we];rfl
  ·rcases wK.mp hu with y | y
   ·have:=s67 _ _ (tu5 u y)
    rw[ax (tU this el7 nofun)];exact this
   ·rw[wo.mp y,ax nt];exact s7 _ _ et
  ·rw[wc,lu];rfl
  ·rw[we,eu5,xy,ew,ep];rfl
  ·rcases wK.mp hu with y | y
   ·exact lt5 u y
   ·rw[wo.mp y];exact ⟨show p.1<m by omega,show p.2<m by omega⟩
  ·rw[eb5,nI hp (by omega) (hrb.mp rfl),show 2+i+1=2+(i+1) by omega]
   unfold iS
   rw[yE];rfl
 ·rintro σ H5 ⟨us,c7,c8,rfl,k5,⟨el5,tu5⟩,lu,i2,eu5,lt5,eb5⟩
  rw[vZ] at lu i2 eu5 eb5
  rw[xF] at eu5
  rw[xP] at eb5
  refine ⟨_,rfl,_,rfl,lp,_,rfl,.inl ⟨SqL.of el5,λtt htt=>⟨(by show 2<=wa;decide),λrr hr' =>?_⟩⟩⟩
  have g6:=ah htt (.tup (us.map λu =>.ref u.1))
  have g7:=ah hr' (.tup [iv m,.ref tt])
  refine q (bw.trans eb5) rr m (us.map λu=>(u.1,[(u.2.1:Int),(u.2.2:Int)])) _ m4 (λq o e=>(g6.trans g7) _ _ (k5 q o (av e hlp1) (s14 _ _ e))) ⟨⟨tt,ae,?_⟩,λu hu =>?_,λu hu =>?_,by rw[vZ];omega⟩ ?_
  ·rw[A7];exact g7 _ _ ae
  ·obtain ⟨v,hv,rfl⟩:=x9.mp hu
   exact (g6.trans g7) _ _ (tu5 v hv)
  ·obtain ⟨v,hv,rfl⟩:=x9.mp hu
   have:=lt5 v hv
   exact ⟨_,_,rfl,by omega,by omega,by omega,by omega⟩
  ·rw[<- zj,hw, <- eu5,A7]
   unfold wds
   rw[A7];rfl
end
open PySem L2
@[irreducible] def nU (cN:Addr):Sp:=λvs H Q E=>∃x,vs=[x]/\((∃z:Str,x = .str z/\z.length<=1900000/\(∀k,cM "web" 45 (Txt.split z " ")=some k->(∀dx H',aA H H'->H' dx=some (.xd [("at",iv (k))])->E (.ref cN) (some dx) H'))/\(cM "web" 45 (Txt.split z " ")=none->∀(r:Addr) (m:Nat) (ts:List (Addr×List Int)) (H':Hp),m<=40->aA H H'->Wp H' r m ts->z=Txt.join " " (wds "web" (sgn 45) m (ts.map (·.2)))->Q (.ref r) H'))\/(Oth H x/\(∀dx H',aA H H'->H' dx=some (.xd [("at",iv (0))])->E (.ref cN) (some dx) H')))
theorem eM {cN:Addr}{vs:List V}{H:Hp}{Q:VK}{E:XK}:nU cN vs H Q E↔∃x,vs=[x]/\((∃z:Str,x = .str z/\z.length<=1900000/\(∀k,cM "web" 45 (Txt.split z " ")=some k->(∀dx H',aA H H'->H' dx=some (.xd [("at",iv (k))])->E (.ref cN) (some dx) H'))/\(cM "web" 45 (Txt.split z " ")=none->∀(r:Addr) (m:Nat) (ts:List (Addr×List Int)) (H':Hp),m<=40->aA H H'->Wp H' r m ts->z=Txt.join " " (wds "web" (sgn 45) m (ts.map (·.2)))->Q (.ref r) H'))\/(Oth H x/\(∀dx H',aA H H'->H' dx=some (.xd [("at",iv (0))])->E (.ref cN) (some dx) H'))):=by
 delta nU
 exact xr
section
variable  {P:wx}{w:wZ}{K:v5}{mg:Str->Option v8}{base:Heap}{f:Addr}{fd:wR}{c_WebError c_BadWeb c_NoStep c_NoText c_NoRow c_STEP_NUMBERS:Addr}
theorem pF:aJ ["thing"] ["thing"] (au iG):=⟨rfl,rfl,rfl,by decide +kernel,rfl,by decide +kernel,by decide +kernel⟩
theorem pG (F:Fun K "read_web" "read_web" iG f fd)(B:Blt mg)(Z:Exs w K mg c_WebError c_BadWeb c_NoStep c_NoText c_NoRow c_STEP_NUMBERS)(xPairsRead:cA P w K mg base 4 "pairs_read" ["thing", "word", "sign", "can_stand"] (iW P w K mg base c_NoText))(cIsTieBehind:Cal P w K mg base 1 "is_tie_behind" ["pairs", "pair"] tj)(C:Cst mg):aW P w K mg base (CX2 P w) 5 f fd ["thing"] (nU c_NoText):=by
 refine F.ke pF (λvs H Q E h =>?_) (λcdv A outer s H vs Q E hr h =>?_)
 ·obtain ⟨_,rfl,_⟩:=eM.mp h
  rfl
 obtain ⟨x,rfl,hh⟩:=eM.mp h
 obtain ⟨f',hm,CF⟩:=cIsTieBehind.val
 refine ⟨_,(@aj _ _ _ (@az _ _ _ _ (bG bI xPairsRead hr (by decide) rfl (@aa _ _ _ _ _ (pv 0) (@aa _ _ _ _ _ aq (@aa _ _ _ _ _ aq (@aa _ _ _ _ _ (bA (v :=.ref f') rfl hm rfl) af rfl) rfl) rfl) rfl)))),?_⟩
 exact ⟨_,rfl,dG.mpr ⟨x, "web",45,f',_,rfl,.inl rfl,CF,λl t us p H1 Q1 hp et l3 q1=>iT.mpr ⟨l,t,us,p,rfl,hp,et,l3,q1⟩,hh⟩⟩
end
@[irreducible] def tw (cN:Addr):Sp:=λvs H Q E=>∃x,vs=[x]/\((∃z:Str,x = .str z/\z.length<=1900000/\(∀k,cM "ways" 62 (Txt.split z " ")=some k->(∀dx H',aA H H'->H' dx=some (.xd [("at",iv (k))])->E (.ref cN) (some dx) H'))/\(cM "ways" 62 (Txt.split z " ")=none->∀(r:Addr) (m:Nat) (ts:List (Addr×List Int)) (H':Hp),m<=40->aA H H'->Wp H' r m ts->z=Txt.join " " (wds "ways" (sgn 62) m (ts.map (·.2)))->Q (.ref r) H'))\/(Oth H x/\(∀dx H',aA H H'->H' dx=some (.xd [("at",iv (0))])->E (.ref cN) (some dx) H')))
theorem gb {cN:Addr}{vs:List V}{H:Hp}{Q:VK}{E:XK}:tw cN vs H Q E↔∃x,vs=[x]/\((∃z:Str,x = .str z/\z.length<=1900000/\(∀k,cM "ways" 62 (Txt.split z " ")=some k->(∀dx H',aA H H'->H' dx=some (.xd [("at",iv (k))])->E (.ref cN) (some dx) H'))/\(cM "ways" 62 (Txt.split z " ")=none->∀(r:Addr) (m:Nat) (ts:List (Addr×List Int)) (H':Hp),m<=40->aA H H'->Wp H' r m ts->z=Txt.join " " (wds "ways" (sgn 62) m (ts.map (·.2)))->Q (.ref r) H'))\/(Oth H x/\(∀dx H',aA H H'->H' dx=some (.xd [("at",iv (0))])->E (.ref cN) (some dx) H'))):=by
 delta tw
 exact xr
section
variable  {P:wx}{w:wZ}{K:v5}{mg:Str->Option v8}{base:Heap}{f:Addr}{fd:wR}{c_WebError c_BadWeb c_NoStep c_NoText c_NoRow c_STEP_NUMBERS:Addr}
theorem kF:aJ ["thing"] ["thing"] (au ek):=⟨rfl,rfl,rfl,by decide +kernel,rfl,by decide +kernel,by decide +kernel⟩
theorem kG (F:Fun K "read_oneway" "read_oneway" ek f fd)(B:Blt mg)(Z:Exs w K mg c_WebError c_BadWeb c_NoStep c_NoText c_NoRow c_STEP_NUMBERS)(xPairsRead:cA P w K mg base 4 "pairs_read" ["thing", "word", "sign", "can_stand"] (iW P w K mg base c_NoText))(cIsArrowBehind:Cal P w K mg base 1 "is_arrow_behind" ["pairs", "pair"] tm)(C:Cst mg):aW P w K mg base (CX2 P w) 5 f fd ["thing"] (tw c_NoText):=by
 refine F.ke kF (λvs H Q E h =>?_) (λcdv A outer s H vs Q E hr h =>?_)
 ·obtain ⟨_,rfl,_⟩:=gb.mp h
  rfl
 obtain ⟨x,rfl,hh⟩:=gb.mp h
 obtain ⟨f',hm,CF⟩:=cIsArrowBehind.val
 refine ⟨_,(@aj _ _ _ (@az _ _ _ _ (bG bI xPairsRead hr (by decide) rfl (@aa _ _ _ _ _ (pv 0) (@aa _ _ _ _ _ aq (@aa _ _ _ _ _ aq (@aa _ _ _ _ _ (bA (v :=.ref f') rfl hm rfl) af rfl) rfl) rfl) rfl)))),?_⟩
 exact ⟨_,rfl,dG.mpr ⟨x, "ways",62,f',_,rfl,.inr rfl,CF,λl t us p H1 Q1 hp et l3 q1=>iU.mpr ⟨l,t,us,p,rfl,hp,et,l3,q1⟩,hh⟩⟩
end
theorem e60:(10:Int) ^ (60:Int).toNat=((10 ^ 60:Nat):Int):=by decide +kernel
theorem jQ {z:Str}{us:List Str}(h:fT (Txt.split z " ") us)(lz:z.length<=1900000):us.length<=1900001/\(∀w∈us,w.length<=1900000)/\z=wtx us:=by
 have le:=split_len z
 have wl:=fv z
 have zj:=iV z
 have ne:=eL z
 generalize Txt.split z " " = ws at h le wl zj ne
 rcases h with ⟨_,rfl⟩ | ⟨rfl,rfl⟩
 ·refine ⟨by omega,λw hw=>wy (wl w hw) lz,?_⟩
  unfold wtx
  rw[if_neg ne,zj]
 ·exact ⟨by decide,λw h=>(nomatch h),by rw[<- zj];rfl⟩
@[irreducible] def tD (cN:Addr):Sp:=λvs H Q E=>∃x,vs=[x]/\((∃z:Str,x = .str z/\z.length<=1900000/\(∀k,fR (Txt.split z " ")=some k->(∀dx H',aA H H'->H' dx=some (.xd [("at",iv (k))])->E (.ref cN) (some dx) H'))/\(fR (Txt.split z " ")=none->∀(t:Addr) (ns:List Nat) (H':Hp),aA H H'->H' t=some (.tup (ns.map iv))->(∀n∈ns,n<=10 ^ 60)->ns.length<=60->z=wtx (ns.map aN)->Q (.ref t) H'))\/(Oth H x/\(∀dx H',aA H H'->H' dx=some (.xd [("at",iv (0))])->E (.ref cN) (some dx) H')))
theorem gc {cN:Addr}{vs:List V}{H:Hp}{Q:VK}{E:XK}:tD cN vs H Q E↔∃x,vs=[x]/\((∃z:Str,x = .str z/\z.length<=1900000/\(∀k,fR (Txt.split z " ")=some k->(∀dx H',aA H H'->H' dx=some (.xd [("at",iv (k))])->E (.ref cN) (some dx) H'))/\(fR (Txt.split z " ")=none->∀(t:Addr) (ns:List Nat) (H':Hp),aA H H'->H' t=some (.tup (ns.map iv))->(∀n∈ns,n<=10 ^ 60)->ns.length<=60->z=wtx (ns.map aN)->Q (.ref t) H'))\/(Oth H x/\(∀dx H',aA H H'->H' dx=some (.xd [("at",iv (0))])->E (.ref cN) (some dx) H'))):=by
 delta tD
 exact xr
section
variable  {P:wx}{w:wZ}{K:v5}{mg:Str->Option v8}{base:Heap}{f:Addr}{fd:wR}{c_WebError c_BadWeb c_NoStep c_NoText c_NoRow c_STEP_NUMBERS:Addr}
theorem bN:aJ ["thing", "numbers", "at", "word", "number"] ["thing"] (au dC):=⟨rfl,rfl,rfl,by decide +kernel,rfl,by decide +kernel,by decide +kernel⟩
theorem jk (F:Fun K "read_numbers" "read_numbers" dC f fd)(B:Blt mg)(Z:Exs w K mg c_WebError c_BadWeb c_NoStep c_NoText c_NoRow c_STEP_NUMBERS)(iB:mI P w K mg base 1 c_NoText ["self", "at"] (cX c_NoText))(xRowsWords:cA P w K mg base 4 "rows_words" ["thing"] (rg c_NoText))(cNumberRead:Cal P w K mg base 1 "number_read" ["word", "most"] mR)(C:Cst mg):aW P w K mg base (CX2 P w) 5 f fd ["thing"] (tD c_NoText):=by
 refine F.ke bN (λvs H Q E h =>?_) (λcdv A outer s H vs Q E hr h =>?_)
 ·obtain ⟨_,rfl,_⟩:=gc.mp h
  rfl
 obtain ⟨x,rfl,hh⟩:=gc.mp h
 obtain ⟨t_MOST_NUMBERS,w_MOST_NUMBERS⟩:=C.c_MOST_NUMBERS
 obtain ⟨fB,fdB,MB,FB,bB⟩:=iB.ex
 refine ⟨_,(@ag _ _ _ _ _ (@ay _ _ 1 _ _ _ _ bN.nd rfl (Or.inl rfl) (@aQ _ _ _ _ af) rfl (by first | exact .inl rfl | exact .inr rfl | assumption))
  (@ag _ _ _ _ _ (@bY _ _ _ _ _ _ _ _ y6 rfl (rY rfl B.b_enumerate (@aa _ _ _ _ _ (bG bI xRowsWords hr (by decide) rfl (@aa _ _ _ _ _ (pv 0) af rfl)) af rfl)) (pV rfl (fC (aV (i:=2) bN.nd rfl (Or.inl rfl)) (fC (aV (i:=3) bN.nd rfl (Or.inl rfl)) nc)))
   (@ag _ _ _ _ _ (@ay _ _ 4 _ _ _ _ bN.nd rfl (Or.inl rfl) (aG cNumberRead hr (by decide) rfl (@aa _ _ _ _ _ (pv 3) (@aa _ _ _ _ _ (@aH _ _ _ _ _ _ _ _ fc ai ai) af rfl) rfl)) rfl (by first | exact .inl rfl | exact .inr rfl | assumption))
   (@ag _ _ _ _ _ (@aP _ _ _ _ _ _ _ _ (PW.pt (bW (ak dW (pv 4) bo (ar _)) (bS (ak aZ (pv 2) (bA (v :=.int 60) rfl w_MOST_NUMBERS ⟨_,rfl⟩) (ar _))))) (@aj _ _ _ (bq (x := "NoText") d6 MB (bc Z.xi_NoText).1.sb (bc Z.xi_NoText).2.2 FB (hr.mono (by decide)) rfl Z.x_NoText bB bI (@aa _ _ _ _ _ (pv 2) af rfl))) aB)
   (@aj _ _ _ (bX (eU xa xk xl bT (pv 1) (@aa _ _ _ _ _ (pv 4) af rfl)))))) (λ_=>rfl))
  (@aj _ _ _ (@az _ _ _ _ (aL de rfl B.b_tuple iM (@aa _ _ _ _ _ (pv 1) af rfl)))))),?_⟩
 refine ⟨(by show 0<=wa;decide),λlp hlp =>?_⟩
 have g1:=ah hlp (.lst [])
 have elp:upd H lp (.lst []) lp=some (.lst []):=ae
 rcases hh with ⟨z,rfl,lz,be,q⟩ | ⟨ho,be⟩
 case inr =>
  have ho:Oth (upd H lp (.lst [])) x:=by
   cases ho with
   | non=>exact .non
   | bl b=>exact .bl b
   | int i=>exact .int i
   | lst e=>exact .lst (g1 _ _ e)
   | tup e=>exact .tup (g1 _ _ e)
   | dic e=>exact .dic (g1 _ _ e)
  exact ⟨_,rfl,dn.mpr ⟨_,rfl,.inr ⟨ho,λdx H' s=>be dx H' (g1.trans s)⟩⟩⟩
 generalize upd H lp (.lst [])=H1 at g1 elp
 refine ⟨_,rfl,dn.mpr ⟨_,rfl,.inl ⟨z,rfl,lz,λus ro l H2 s2 hl el =>?_,λh1 h2 dx H' s=>be 1 (lL h1 h2) dx H' (g1.trans s)⟩⟩⟩
 obtain ⟨lu,wu,ez⟩:=jQ ro lz
 have bw:=ro.fR
 have nl:l≠lp:=λz=>by rw[z,elp] at hl;cases hl
 have s12:=g1.trans s2
 refine ⟨l,rfl,.inl ⟨⟨_,SqL.of el⟩,oI (xs:=us.map V.str) (λi σ H'=>(∃c2 c3 c4,σ=[some (.str z),some (.ref lp),c2,c3,c4])/\(∀q o,q≠lp->H2 q=some o->H' q=some o)/\∃ns:List Nat,H' lp=some (.lst (ns.map iv))/\ns.length=i/\i<=60/\ns.map aN=us.take i/\(∀n∈ns,n<=10 ^ 60)/\nums 0 us=nums i (us.drop i)) ⟨⟨_,_,_,rfl⟩,λq o _ e=>e,[],s2 _ _ elp,rfl,xj _,rfl,(λn h=>nomatch h),rfl⟩ (λi σ H' _ k=>SqL.of (k.2.1 _ _ nl el)) ?_ ?_⟩⟩
 ·rintro i x σ H3 T hx hT ⟨⟨c2,c3,c4,rfl⟩,k3,ns,el3,ln,i6,en,nb,eb⟩
  obtain ⟨wi,ew,rfl⟩:=item hx
  have li:=(wF.mp ew).1
  have dr:us.drop i=wi :: us.drop (i+1):=by
   rw[xq li]
   rw[wt li] at ew
   rw[wJ ew]
  rw[dr] at eb
  have s3:aA H H3:=λq o e=>k3 q o (av e hlp) (s12 _ _ e)
  have gT:=ah hT (.tup [.int i,.str wi])
  refine ⟨T,_,rfl,SqT.of ae,rfl,_,_,rfl,_,_,rfl,rfl,?_⟩
  have el4:=gT _ _ el3
  generalize upd H3 T (.tup [.int i,.str wi])=H4 at gT el4
  refine ⟨_,rfl,_,_,rfl,rfl,⟨by decide,by decide,by decide⟩,cP.mpr ⟨wi,((10 ^ 60:Nat):Int),(by show [V.str wi,V.int ((10:Int) ^ (60:Int).toNat)]=_;rw[e60]),wy (wu wi (xb ew)) (by decide),.inr ⟨_,rfl,wm _⟩,λH5 s5 =>?_⟩⟩
  have el5:=s5 _ _ el4
  have bad:∀{ea:Addr},nums i (wi :: us.drop (i+1))=some i->H5 ea=none->cX c_NoText [.ref ea,.int (i:Int)] (upd H5 ea (bF ea c_NoText none)) (λv H2=>v = .non/\∃a d,V.ref ea = .ref a/\H2 a=some (bF a c_NoText d)/\E (.ref c_NoText) d (rm H2 a)) E:=λe he=>bM (n:=i) rfl (by omega) (λdx H' s=>be i (bw.trans (eb.trans e)) dx H' (((s3.trans gT).trans s5).trans s)) he
  cases hn:num wi ((10 ^ 60:Nat):Int) with
  | none=>exact ⟨_,rfl,rfl,_,rfl,aE (aE ⟨_,rfl,(by show 1<=wa;decide),λea he=>bad (gn hn) he⟩)⟩
  | some n =>
  obtain ⟨en1,ln1⟩:=bh.mp hn
  refine ⟨_,rfl,rfl,_,rfl,aK ⟨_,rfl,rfl,_,rfl,?_⟩⟩
  by_cases h6:i=60
  ·rw[decide_eq_true (show V.int (i:Int)=V.int 60 by rw[h6];rfl)]
   exact aE ⟨_,rfl,(by show 1<=wa;decide),λea he=>bad (lJ hn h6) he⟩
  rw[decide_eq_false (show ¬ V.int (i:Int)=V.int 60 from λy=>by
   have:=V.int.inj y
   omega)]
  refine aK ⟨_,rfl,.inl ⟨rfl,_,SqL.of el5⟩,_,rfl,lp,_,_,rfl,rfl,el5,?_,⟨_,_,_,rfl⟩,λq o nq e=>by rw[ax nq];exact s5 _ _ (gT _ _ (k3 q o nq e)),ns++[n],?_,?_,by omega,?_,λk hk =>?_,?_⟩
  ·rw[vZ];exact sz' (by omega)
  ·rw[ae,we];rfl
  ·rw[wc,ln];rfl
  ·rw[we,en,xy,ew,en1];rfl
  ·rcases wK.mp hk with y | y
   ·exact nb k y
   ·rw[wo.mp y];exact Int.ofNat_le.mp ln1
  ·rw[eb,nJ hn h6]
 ·rintro σ H3 ⟨⟨c2,c3,c4,rfl⟩,k3,ns,el3,ln,i6,en,nb,eb⟩
  rw[vZ] at ln i6 en eb
  rw[xF] at en
  rw[xP] at eb
  refine ⟨_,rfl,lp,_,rfl,.inl ⟨SqL.of el3,λt ht=>q (bw.trans eb) t ns _ (λq o e =>?_) ae nb (by omega) (by rw[en];exact ez)⟩⟩
  exact (ah ht _) _ _ (k3 q o (av e hlp) (s12 _ _ e))
end
open PySem L2
theorem iX {i:Nat}{v:V}{σ:St}{H:Hp}{Q:St->Hp->Prop}(h:Q (σ.set i (some v)) H):dS i v σ H Q:=h
theorem kH {a b:TS}{D:Ends}{σ:St}{H:Hp}(h:a { D with nx:=b D } σ H):vi a b D σ H:=h
def cnt (w:Str):Nat:=if w = "many" then 2 else 1
theorem iY (w:Str):1<=cnt w/\cnt w<=2:=by
 unfold cnt
 split <;> omega
theorem Exs.num {w:wZ}{K:v5}{mg:Str->Option v8}{c_WebError c_BadWeb c_NoStep c_NoText c_NoRow c_STEP_NUMBERS:Addr}(Z:Exs w K mg c_WebError c_BadWeb c_NoStep c_NoText c_NoRow c_STEP_NUMBERS){x:Str}(h:bK x):∃t,wC K c_STEP_NUMBERS x=some (some (.int (cnt x:Nat) t)):=by
 rcases h with rfl | rfl | rfl | rfl
 ·exact Z.n1
 ·exact Z.n2
 ·exact Z.n3
 ·exact Z.n4
theorem tE {ws rest:List Str}{a:Nat}{x:Str}(k:Nat)(h:ws.drop a=x :: rest):cu (ws.map V.str) (some ((a:Int)+1)) (some ((a:Int)+(k:Nat)+1))=(rest.take k).map V.str:=by
 have hl:=congrArg List.length h
 rw[wW,wk] at hl
 unfold cu
 rw[show ((a:Int)+1)=((a+1:Nat):Int) by omega,show ((a:Int)+(k:Nat)+1)=((a+k+1:Nat):Int) by omega,HT.gS,HT.gS,vZ,yT (by omega:a+1<=ws.length)]
 have e:(ws.map V.str).drop (a+1)=rest.map V.str:=by rw[<- zo, <- AF,h];rfl
 rw[e]
 by_cases c:a+k+1<=ws.length
 ·rw[yT c,show a+k+1-(a+1)=k by omega,yk]
 ·rw[Bj (by omega),xB (by rw[vZ];omega),xB (by omega:rest.length<=k)]
theorem tF {ns:List Nat}{x:Str}(h:ns.map aN=[x]):∃n,ns=[n]/\x=aN n:=by
 match ns,h with
 | [n],h=>exact ⟨n,rfl,(xx h).1.symm⟩
theorem vX {ns:List Nat}{x y:Str}(h:ns.map aN=[x,y]):∃n m,ns=[n,m]/\x=aN n/\y=aN m:=by
 match ns,h with
 | [n,m],h=>exact ⟨n,m,rfl,(xx h).1.symm,(xx (xx h).2).1.symm⟩
theorem dH {n:Nat}(h:n<=39):num (aN n) 39=some n:=bh.mpr ⟨rfl,by omega⟩
theorem nV {a i:Nat}{w x:Str}{rest:List Str}{ns:List Nat}(hw:bK w)(hx:(rest.take (cnt w))[i]? = some x)(en:ns.map aN=(rest.take (cnt w)).take i)(nb:∀n∈ns,n<=39)(h:num x 39=none):bj a (w :: rest) = .inl (a+1+i):=by
 have li:=(wF.mp hx).1
 rw[wG] at li
 rw[yK (by omega)] at hx
 have:=iY w
 match i,rest,hx,en,li with
 | 0,y :: r,hx,_,_=>cases hx;exact sN hw h
 | 1,y :: z :: r,hx,en,li =>
  cases hx
  have hm:w = "many" := by
   apply xE
   intro q
   unfold cnt at li
   rw[if_neg q] at li
   omega
  have c2:cnt w=2:=if_pos hm
  rw[c2] at en
  obtain ⟨n,rfl,rfl⟩:=tF en
  exact qM hw hm (dH (nb n (by simp))) h
 | 1,[y],hx,_,_=>cases hx
 | i+2,_,_,_,li=>omega
theorem nW {a i:Nat}{w:Str}{rest:List Str}{ns:List Nat}(hw:bK w)(en:ns.map aN=(rest.take (cnt w)).take (i+1))(li:i<(rest.take (cnt w)).length)(nb:∀n∈ns,n<=39)(h:ris ns=false):bj a (w :: rest) = .inl (a+1+i):=by
 rw[wG] at li
 have:=iY w
 match i,rest,en,li with
 | 0,y :: r,en,li =>
  rw[List.take_take,yT (by omega)] at en
  obtain ⟨n,rfl,rfl⟩:=tF en
  cases h
 | 1,y :: z :: r,en,li =>
  have hm:w = "many" := by
   apply xE
   intro q
   unfold cnt at li
   rw[if_neg q] at li
   omega
  have c2:cnt w=2:=if_pos hm
  rw[c2] at en
  obtain ⟨n,m,rfl,rfl,rfl⟩:=vX en
  exact qN hw hm (dH (nb n (by simp))) (dH (nb m (by simp))) (of_decide_eq_false h)
 | 1,[y],_,li=>rw[wj] at li;omega
 | 0,[],_,li=>rw[w9] at li;omega
 | 1,[],_,li=>rw[w9] at li;omega
 | i+2,_,_,li=>omega
theorem rh {a:Nat}{w:Str}{rest:List Str}{ns:List Nat}(hw:bK w)(en:ns.map aN=rest.take (cnt w))(nb:∀n∈ns,n<=39)(h:rest.length<cnt w):bj a (w :: rest) = .inl (a+1+rest.length):=by
 have:=iY w
 match rest,en,h with
 | [],_,_=>exact sM hw
 | [y],en,h =>
  have hm:w = "many" := by
   apply xE
   intro q
   unfold cnt at h
   rw[if_neg q,wj] at h
   omega
  have c2:cnt w=2:=if_pos hm
  rw[c2] at en
  obtain ⟨n,rfl,rfl⟩:=tF en
  exact qL hw hm (dH (nb n (by simp)))
 | _ :: _ :: _,_,h=>rw[wk,wk] at h;omega
theorem nX {a:Nat}{w:Str}{rest:List Str}{ns:List Nat}(hw:bK w)(en:ns.map aN=rest.take (cnt w))(nb:∀n∈ns,n<=39)(r:ris ns=true)(h:¬ rest.length<cnt w):bj a (w :: rest) = .inr (w,ns):=by
 by_cases hm:w = "many"
 ·have c2:cnt w=2:=if_pos hm
  rw[c2] at en h
  match rest,en,h with
  | y :: z :: r',en,_ =>
   obtain ⟨n,m,rfl,rfl,rfl⟩:=vX en
   exact qO hw hm (dH (nb n (by simp))) (dH (nb m (by simp))) (of_decide_eq_true r)
  | [y],_,h=>rw[wj] at h;omega
  | [],_,h=>rw[w9] at h;omega
 ·have c1:cnt w=1:=if_neg hm
  rw[c1] at en h
  match rest,en,h with
  | y :: r',en,_ =>
   obtain ⟨n,rfl,rfl⟩:=tF en
   exact pe hw hm (dH (nb n (by simp)))
  | [],_,h=>rw[w9] at h;omega
@[irreducible] def tG (cN:Addr):Sp:=λvs H Q E=>∃(l:Addr) (ws:List Str) (a:Nat),vs=[.ref l,iv a]/\H l=some (.lst (ws.map V.str))/\a<ws.length/\ws.length<=1900001/\(∀w∈ws,w.length<=1900000)/\(∀k,bj a (ws.drop a) = .inl k->(∀dx H',aA H H'->H' dx=some (.xd [("at",iv (k))])->E (.ref cN) (some dx) H'))/\(∀u,bj a (ws.drop a) = .inr u->∀(t:Addr) (H':Hp),aA H H'->H t=none->H' t=some (.tup (sv u))->Q (.ref t) H')
theorem iZ {cN:Addr}{vs:List V}{H:Hp}{Q:VK}{E:XK}:tG cN vs H Q E↔∃(l:Addr) (ws:List Str) (a:Nat),vs=[.ref l,iv a]/\H l=some (.lst (ws.map V.str))/\a<ws.length/\ws.length<=1900001/\(∀w∈ws,w.length<=1900000)/\(∀k,bj a (ws.drop a) = .inl k->(∀dx H',aA H H'->H' dx=some (.xd [("at",iv (k))])->E (.ref cN) (some dx) H'))/\(∀u,bj a (ws.drop a) = .inr u->∀(t:Addr) (H':Hp),aA H H'->H t=none->H' t=some (.tup (sv u))->Q (.ref t) H'):=by
 delta tG
 exact xr
section
variable  {P:wx}{w:wZ}{K:v5}{mg:Str->Option v8}{base:Heap}{f:Addr}{fd:wR}{c_WebError c_BadWeb c_NoStep c_NoText c_NoRow c_STEP_NUMBERS:Addr}
theorem cR:aJ ["words", "at", "last", "places", "word", "place"] ["words", "at"] (au gw):=⟨rfl,rfl,rfl,by decide +kernel,rfl,by decide +kernel,by decide +kernel⟩
theorem mV (F:Fun K "step_read" "step_read" gw f fd)(B:Blt mg)(Z:Exs w K mg c_WebError c_BadWeb c_NoStep c_NoText c_NoRow c_STEP_NUMBERS)(iB:mI P w K mg base 1 c_NoText ["self", "at"] (cX c_NoText))(cNumberRead:Cal P w K mg base 1 "number_read" ["word", "most"] mR)(cIsRising:Cal P w K mg base 1 "is_rising" ["row"] kE)(C:Cst mg):aW P w K mg base (CX2 P w) 3 f fd ["words", "at"] (tG c_NoText):=by
 refine F.ke cR (λvs H Q E h =>?_) (λcdv A outer s H vs Q E hr h =>?_)
 ·obtain ⟨_,_,_,rfl,_⟩:=iZ.mp h
  rfl
 obtain ⟨l,ws,a,rfl,el,al,l1,wl,be,q⟩:=iZ.mp h
 obtain ⟨t_MOST_PLACES,w_MOST_PLACES⟩:=C.c_MOST_PLACES
 obtain ⟨fB,fdB,MB,FB,bB⟩:=iB.ex
 refine ⟨_,(@ag _ _ _ _ _ (@aP _ _ _ _ _ _ _ _ (ak mL (@aO _ _ _ _ _ _ _ aI (pv 0) (pv 1) (λ_ _=>rfl)) (bA (v :=.ref c_STEP_NUMBERS) rfl Z.x_STEP_NUMBERS rfl) rfl) (@aj _ _ _ (bq (x := "NoText") d6 MB (bc Z.xi_NoText).1.sb (bc Z.xi_NoText).2.2 FB (hr.mono (by decide)) rfl Z.x_NoText bB bI (@aa _ _ _ _ _ (pv 1) af rfl))) aB)
  (@ag _ _ _ _ _ (@ay _ _ 2 _ _ _ _ cR.nd rfl (Or.inl rfl) (@aH _ _ _ _ _ _ _ _ aX (pv 1) (qE (bA (v :=.ref c_STEP_NUMBERS) rfl Z.x_STEP_NUMBERS rfl) (@aO _ _ _ _ _ _ _ aI (pv 0) (pv 1) (λ_ _=>rfl)) (λ_ _=>rfl))) rfl (by first | exact .inl rfl | exact .inr rfl | assumption))
  (@ag _ _ _ _ _ (@ay _ _ 3 _ _ _ _ cR.nd rfl (Or.inl rfl) (@aQ _ _ _ _ af) rfl (by first | exact .inl rfl | exact .inr rfl | assumption))
  (@ag _ _ _ _ _ (@bY _ _ _ _ _ _ _ _ y6 rfl (@gR _ _ _ _ (bp bZ (pv 0) (bC (@aH _ _ _ _ _ _ _ _ aX (pv 1) ai)) (bC (@aH _ _ _ _ _ _ _ _ aX (pv 2) ai)))) (aV (i:=4) cR.nd rfl (Or.inl rfl))
   (@ag _ _ _ _ _ (@ay _ _ 5 _ _ _ _ cR.nd rfl (Or.inl rfl) (aG cNumberRead hr (by decide) rfl (@aa _ _ _ _ _ (pv 4) (@aa _ _ _ _ _ (@aH _ _ _ _ _ _ _ _ gh (bA (v :=.int 40) rfl w_MOST_PLACES ⟨_,rfl⟩) ai) af rfl) rfl)) rfl (by first | exact .inl rfl | exact .inr rfl | assumption))
   (@ag _ _ _ _ _ (bX (eU xa xk xl bT (pv 3) (@aa _ _ _ _ _ (pv 5) af rfl)))
   (@aj _ _ _ (@aP _ _ _ _ _ _ _ _ (PW.pt (bW (ak dW (pv 5) bo (ar _)) (bS (hJ (cY (aG cIsRising hr (by decide) rfl (@aa _ _ _ _ _ (pv 3) af rfl))))))) (@aj _ _ _ (bq (x := "NoText") d6 MB (bc Z.xi_NoText).1.sb (bc Z.xi_NoText).2.2 FB (hr.mono (by decide)) rfl Z.x_NoText bB bI (@aa _ _ _ _ _ (@aH _ _ _ _ _ _ _ _ aX (pv 1) (aD aw rfl B.b_len aU (@aa _ _ _ _ _ (pv 3) af rfl))) af rfl))) aB)))) (λ_=>rfl))
  (@ag _ _ _ _ _ (@aP _ _ _ _ _ _ _ _ (ak nr (pv 2) (aD aw rfl B.b_len aU (@aa _ _ _ _ _ (pv 0) af rfl)) (ar _)) (@aj _ _ _ (bq (x := "NoText") d6 MB (bc Z.xi_NoText).1.sb (bc Z.xi_NoText).2.2 FB (hr.mono (by decide)) rfl Z.x_NoText bB bI (@aa _ _ _ _ _ (aD aw rfl B.b_len aU (@aa _ _ _ _ _ (pv 0) af rfl)) af rfl))) aB)
  (@aj _ _ _ (@az _ _ _ _ (@aH _ _ _ _ _ _ _ _ qm (@dX _ _ _ _ _ (@aa _ _ _ _ _ (@aO _ _ _ _ _ _ _ aI (pv 0) (pv 1) (λ_ _=>rfl)) af rfl)) (aL de rfl B.b_tuple iM (@aa _ _ _ _ _ (pv 3) af rfl)))))))))),?_⟩
 have hat:atI (ws.map V.str) (a:Int)=some (.str ws[a]):=bf (by rw[w5,wt al];rfl)
 have dr:ws.drop a=ws[a] :: ws.drop (a+1):=xq al
 have lr:(ws.drop (a+1)).length=ws.length-(a+1):=wW ..
 rw[dr] at be q
 have wr:∀x∈ws.drop (a+1),x.length<=1900000:=λx hx=>wl x (xR hx)
 generalize ws[a]=w0 at hat dr be q
 generalize ws.drop (a+1)=rest at dr be q lr wr
 by_cases hw:bK w0
 case neg =>
  refine ⟨_,rfl,_,rfl,l,_,(a:Int),.str w0,rfl,rfl,SqL.of el,hat,w0,c_STEP_NUMBERS,_,rfl,rfl,Z.dl,Z.nn w0 hw,_,rfl,aE ⟨_,rfl,(by show 1<=wa;decide),λea he=>bM (n:=a) rfl (by omega) (be a (lN hw)) he⟩⟩
 obtain ⟨tk,hn⟩:=Z.num hw
 have cl:=iY w0
 refine ⟨_,rfl,_,rfl,l,_,(a:Int),.str w0,rfl,rfl,SqL.of el,hat,w0,c_STEP_NUMBERS,_,rfl,rfl,Z.dl,hn,_,rfl,aK ?_⟩
 refine ⟨_,rfl,_,rfl,_,rfl,l,_,(a:Int),.str w0,rfl,rfl,SqL.of el,hat,w0,c_STEP_NUMBERS,_,tk,rfl,rfl,Z.dl,hn,_,_,rfl,rfl,?_⟩
 refine ⟨(by show 0<=wa;decide),λlp hlp =>?_⟩
 have s1:=ah hlp (.lst [])
 have el1:=s1 _ _ el
 have elp:upd H lp (.lst []) lp=some (.lst []):=ae
 generalize upd H lp (.lst [])=H1 at s1 el1 elp
 refine ⟨_,rfl,_,rfl,_,_,rfl,rfl,_,rfl,_,rfl,_,_,rfl,rfl,_,rfl,l,_,rfl,SqL.of el1,λw2 hw2 =>?_⟩
 rw[show cu (ws.map V.str) (some ((a:Int)+1)) (some ((a:Int)+(cnt w0:Nat)+1))=_ from tE (cnt w0) dr]
 have s2:=ah hw2 (.lst ((rest.take (cnt w0)).map V.str))
 have ew2:upd H1 w2 (.lst ((rest.take (cnt w0)).map V.str)) w2=some (.lst ((rest.take (cnt w0)).map V.str)):=ae
 have el2:=s2 _ _ el1
 have elp2:=s2 _ _ elp
 have nw:w2≠lp:=λz=>by rw[z,elp] at hw2;cases hw2
 have nl:l≠lp:=λz=>by rw[z,hlp] at el;cases el
 have lt2:(rest.take (cnt w0)).length<=2:=by rw[wG];omega
 generalize upd H1 w2 (.lst ((rest.take (cnt w0)).map V.str))=H2 at s2 ew2 el2 elp2
 refine ⟨w2,rfl,⟨_,SqL.of ew2⟩,hX (xs:=(rest.take (cnt w0)).map V.str) (λi σ H'=>(∃c4 c5,σ=[some (.ref l),some (iv a),some (.int ((a:Int)+(cnt w0:Nat))),some (.ref lp),c4,c5])/\(∀q o,q≠lp->H2 q=some o->H' q=some o)/\∃ns:List Nat,H' lp=some (.lst (ns.map iv))/\ns.length=i/\ns.map aN=(rest.take (cnt w0)).take i/\(∀n∈ns,n<=39)/\ris ns=true) ⟨⟨_,_,rfl⟩,λq o _ e=>e,[],elp2,rfl,rfl,(λn h=>nomatch h),rfl⟩ (λi σ H' _ k=>SqL.of (k.2.1 _ _ nw ew2)) ?_ ?_⟩
 ·rintro i x σ H3 hx ⟨⟨c4,c5,rfl⟩,k3,ns,el3,ln,en,nb,hr3⟩
  obtain ⟨wi,ew,rfl⟩:=item hx
  have li:=(wF.mp ew).1
  have mi:=xA (xb ew)
  have s3:aA H H3:=λq o e=>k3 q o (av e hlp) (s2 _ _ (s1 _ _ e))
  refine ⟨_,rfl,_,_,rfl,rfl,cP.mpr ⟨wi,39,rfl,wy (wr wi mi) (by decide),.inr ⟨39,rfl,by decide⟩,λH4 s4 =>?_⟩⟩
  have el4:=s4 _ _ el3
  refine ⟨_,rfl,.inl ⟨rfl,_,SqL.of el4⟩,_,rfl,lp,_,_,rfl,rfl,el4,?_,?_⟩
  ·rw[vZ];exact sz' (by omega)
  have k5:∀(v:V) q o,q≠lp->H3 q=some o->upd H4 lp (.lst (ns.map iv++[v])) q=some o:=λv q o nq e=>by rw[ax nq];exact s4 _ _ e
  have bad:∀{v:V} {H6:Hp} {ea:Addr},aA (upd H4 lp (.lst (ns.map iv++[v]))) H6->bj a (w0 :: rest) = .inl (a+1+i)->H6 ea=none->cX c_NoText [.ref ea,.int ((a:Int)+((ns.map iv++[v]).length:Int))] (upd H6 ea (bF ea c_NoText none)) (λv H2=>v = .non/\∃a d,V.ref ea = .ref a/\H2 a=some (bF a c_NoText d)/\E (.ref c_NoText) d (rm H2 a)) E:=λs6 e he=>bM (n:=a+1+i) (by rw[wc,vZ,wj,ln];omega) (by omega) (λdx H' s=>be _ e dx H' (λq o e=>s _ _ (s6 _ _ (k5 _ q o (av e hlp) (s3 _ _ e))))) he
  cases hn:num wi 39 with
  | none =>
   have e5:upd H4 lp (.lst (ns.map iv++[V.non])) lp=some (.lst (ns.map iv++[V.non])):=ae
   exact ⟨_,rfl,rfl,_,rfl,aE (aE ⟨_,rfl,_,rfl,lp,_,rfl,.inl (SqL.of e5),_,_,rfl,rfl,(by show 1<=wa;decide),λea he=>bad (aA.refl _) (nV hw ew en nb hn) he⟩)⟩
  | some n =>
  obtain ⟨en1,ln1⟩:=bh.mp hn
  have e5:upd H4 lp (.lst (ns.map iv++[iv n])) lp=some (.lst ((ns++[n]).map iv)):=by rw[ae,we];rfl
  have en':(ns++[n]).map aN=(rest.take (cnt w0)).take (i+1):=by rw[we,en,xy,ew,en1];rfl
  have nb':∀k∈ns++[n],k<=39:=λk hk=>by
   rcases wK.mp hk with y | y
   ·exact nb k y
   ·rw[wo.mp y];omega
  refine ⟨_,rfl,rfl,_,rfl,aK ⟨_,rfl,fw.mpr ⟨lp,ns++[n],rfl,e5,by rw[wc,wj];omega,λH6 s6=>⟨_,rfl,?_⟩⟩⟩⟩
  cases hr6:ris (ns++[n]) with
  | false=>exact aE ⟨_,rfl,_,rfl,lp,_,rfl,.inl (SqL.of (s6 _ _ ae)),_,_,rfl,rfl,(by show 1<=wa;decide),λea he=>bad s6 (nW hw en' li nb' hr6) he⟩
  | true=>exact aK ⟨⟨_,_,rfl⟩,λq o nq e=>s6 _ _ (k5 _ q o nq (k3 q o nq e)),ns++[n],s6 _ _ e5,by rw[wc,ln];rfl,en',nb',hr6⟩
 ·rintro σ H3 ⟨⟨c4,c5,rfl⟩,k3,ns,el3,ln,en,nb,hr3⟩
  rw[vZ] at ln en
  rw[xF] at en
  have elw:=k3 _ _ nl el2
  have s3:aA H H3:=λq o e=>k3 q o (av e hlp) (s2 _ _ (s1 _ _ e))
  refine ⟨_,rfl,_,rfl,l,_,rfl,.inl (SqL.of elw),_,_,rfl,rfl,_,rfl,?_⟩
  by_cases few:rest.length<cnt w0
  ·rw[decide_eq_true (show ((ws.map V.str).length:Int)<=(a:Int)+(cnt w0:Nat) by rw[vZ];omega)]
   exact aE ⟨_,rfl,l,_,rfl,.inl (SqL.of elw),(by show 1<=wa;decide),λea he=>bM (n:=a+1+rest.length) (by rw[vZ];omega) (by omega) (λdx H' s=>be _ (rh hw en nb few) dx H' (s3.trans s)) he⟩
  rw[decide_eq_false (show ¬ ((ws.map V.str).length:Int)<=(a:Int)+(cnt w0:Nat) by rw[vZ];omega)]
  refine aK ⟨_,rfl,_,rfl,l,_,(a:Int),.str w0,rfl,rfl,SqL.of elw,hat,(by show 1<=wa;decide),λt1 ht1 =>?_⟩
  have s4:=ah ht1 (.tup [.str w0])
  have et1:upd H3 t1 (.tup [.str w0]) t1=some (.tup [.str w0]):=ae
  have el4:=s4 _ _ el3
  generalize upd H3 t1 (.tup [.str w0])=H4 at s4 et1 el4
  refine ⟨_,rfl,lp,_,rfl,.inl ⟨SqL.of el4,λt2 ht2 =>?_⟩⟩
  have s5:=ah ht2 (.tup (ns.map iv))
  have k5:aA H (upd H4 t2 (.tup (ns.map iv))):=λq o e=>s5 _ _ (s4 _ _ (s3 _ _ e))
  have l2:ns.length=cnt w0:=by
   rw[ln,wG];omega
  refine ⟨t1,t2,_,_,rfl,rfl,SqT.of (s5 _ _ et1),SqT.of ae,?_,?_,(λz=>nomatch z),λ_ t ht=>q (w0,ns) (nX hw en nb hr3 few) t _ (k5.trans (ah ht _)) (k5.free ht) ae⟩
  ·intro z
   rw[zz.mp z] at l2
   have:cnt w0=0:=l2.symm
   omega
  rw[vZ]
  exact sz (show 1+ns.length<=2000000 by omega)
end
open PySem L2
theorem rj {u:Stp}(h:Good u):1<=u.2.length:=(fW h).2.2.1
theorem eN (u:Stp):(sw u).length=1+u.2.length:=by
 unfold sw
 rw[wk,vZ];omega
@[irreducible] def tH (cN:Addr):Sp:=λvs H Q E=>∃x,vs=[x]/\((∃z:Str,x = .str z/\z.length<=1900000/\(∀k,fS (Txt.split z " ")=some k->(∀dx H',aA H H'->H' dx=some (.xd [("at",iv (k))])->E (.ref cN) (some dx) H'))/\(fS (Txt.split z " ")=none->∀(l:Addr) (ts:List (Addr×Stp)) (H':Hp),aA H H'->H' l=some (.lst (ts.map λu =>.ref u.1))->(∀u∈ts,H' u.1=some (.tup (sv u.2))/\Good u.2)->ts.length<=300->z=wtx ((ts.map (·.2)).flatMap sw)->Q (.ref l) H'))\/(Oth H x/\(∀dx H',aA H H'->H' dx=some (.xd [("at",iv (0))])->E (.ref cN) (some dx) H')))
theorem gd {cN:Addr}{vs:List V}{H:Hp}{Q:VK}{E:XK}:tH cN vs H Q E↔∃x,vs=[x]/\((∃z:Str,x = .str z/\z.length<=1900000/\(∀k,fS (Txt.split z " ")=some k->(∀dx H',aA H H'->H' dx=some (.xd [("at",iv (k))])->E (.ref cN) (some dx) H'))/\(fS (Txt.split z " ")=none->∀(l:Addr) (ts:List (Addr×Stp)) (H':Hp),aA H H'->H' l=some (.lst (ts.map λu =>.ref u.1))->(∀u∈ts,H' u.1=some (.tup (sv u.2))/\Good u.2)->ts.length<=300->z=wtx ((ts.map (·.2)).flatMap sw)->Q (.ref l) H'))\/(Oth H x/\(∀dx H',aA H H'->H' dx=some (.xd [("at",iv (0))])->E (.ref cN) (some dx) H'))):=by
 delta tH
 exact xr
section
variable  {P:wx}{w:wZ}{K:v5}{mg:Str->Option v8}{base:Heap}{f:Addr}{fd:wR}{c_WebError c_BadWeb c_NoStep c_NoText c_NoRow c_STEP_NUMBERS:Addr}
theorem cG:aJ ["thing", "words", "log", "at", "step"] ["thing"] (au iH):=⟨rfl,rfl,rfl,by decide +kernel,rfl,by decide +kernel,by decide +kernel⟩
theorem pH (F:Fun K "read_log" "read_log" iH f fd)(B:Blt mg)(Z:Exs w K mg c_WebError c_BadWeb c_NoStep c_NoText c_NoRow c_STEP_NUMBERS)(iB:mI P w K mg base 1 c_NoText ["self", "at"] (cX c_NoText))(xRowsWords:cA P w K mg base 4 "rows_words" ["thing"] (rg c_NoText))(xStepRead:cA P w K mg base 3 "step_read" ["words", "at"] (tG c_NoText))(C:Cst mg):aW P w K mg base (CX2 P w) 5 f fd ["thing"] (tH c_NoText):=by
 refine F.ke cG (λvs H Q E h =>?_) (λcdv A outer s H vs Q E hr h =>?_)
 ·obtain ⟨_,rfl,_⟩:=gd.mp h
  rfl
 obtain ⟨x,rfl,hh⟩:=gd.mp h
 obtain ⟨t_MOST_STEPS,w_MOST_STEPS⟩:=C.c_MOST_STEPS
 obtain ⟨fB,fdB,MB,FB,bB⟩:=iB.ex
 refine ⟨_,(@ag _ _ _ _ _ (@ay _ _ 1 _ _ _ _ cG.nd rfl (Or.inl rfl) (bG bI xRowsWords hr (by decide) rfl (@aa _ _ _ _ _ (pv 0) af rfl)) rfl (by first | exact .inl rfl | exact .inr rfl | assumption))
  (@ag _ _ _ _ _ (@ay _ _ 2 _ _ _ _ cG.nd rfl (Or.inl rfl) (@aQ _ _ _ _ af) rfl (by first | exact .inl rfl | exact .inr rfl | assumption))
  (@ag _ _ _ _ _ (@ay _ _ 3 _ _ _ _ cG.nd rfl (Or.inl rfl) ai rfl (by first | exact .inl rfl | exact .inr rfl | assumption))
  (@ag _ _ _ _ _ (kM y6 (ak dM (pv 3) (aD aw rfl B.b_len aU (@aa _ _ _ _ _ (pv 1) af rfl)) (ar _))
   (@ag _ _ _ _ _ (@aP _ _ _ _ _ _ _ _ (ak aZ (aD aw rfl B.b_len aU (@aa _ _ _ _ _ (pv 2) af rfl)) (bA (v :=.int 300) rfl w_MOST_STEPS ⟨_,rfl⟩) (ar _)) (@aj _ _ _ (bq (x := "NoText") d6 MB (bc Z.xi_NoText).1.sb (bc Z.xi_NoText).2.2 FB (hr.mono (by decide)) rfl Z.x_NoText bB bI (@aa _ _ _ _ _ (pv 3) af rfl))) aB)
   (@ag _ _ _ _ _ (@ay _ _ 4 _ _ _ _ cG.nd rfl (Or.inl rfl) (bG bI xStepRead hr (by decide) rfl (@aa _ _ _ _ _ (pv 1) (@aa _ _ _ _ _ (pv 3) af rfl) rfl)) rfl (by first | exact .inl rfl | exact .inr rfl | assumption))
   (@ag _ _ _ _ _ (bX (eU xa xk xl bT (pv 2) (@aa _ _ _ _ _ (pv 4) af rfl)))
   (@aj _ _ _ (uA (i:=3) cG.nd rfl (Or.inl rfl) (aD aw rfl B.b_len aU (@aa _ _ _ _ _ (pv 4) af rfl)) uB))))))
  (@aj _ _ _ (@az _ _ _ _ (pv 2))))))),?_⟩
 rcases hh with ⟨z,rfl,lz,be,q⟩ | ⟨ho,be⟩
 case inr=>exact ⟨_,rfl,dn.mpr ⟨_,rfl,.inr ⟨ho,be⟩⟩⟩
 refine ⟨_,rfl,dn.mpr ⟨_,rfl,.inl ⟨z,rfl,lz,λus ro l H1 s1 hl el =>?_,λh1 h2 dx H' s=>be 1 (lM h1 h2) dx H' s⟩⟩⟩
 obtain ⟨lu,wu,ez⟩:=jQ ro lz
 have bw:=ro.fS
 refine ⟨(by show 0<=wa;decide),λlp hlp =>?_⟩
 have s2:=ah hlp (.lst [])
 have elp:upd H1 lp (.lst []) lp=some (.lst []):=ae
 have el2:=s2 _ _ el
 have s12:=s1.trans s2
 have nl:l≠lp:=λz=>by rw[z,hlp] at el;cases el
 have hlp0:=s1.free hlp
 generalize upd H1 lp (.lst [])=H2 at s2 elp el2 s12
 refine iX ?_
 dsimp only
 refine kH ?_
 refine kO (λσ H'=>∃(a k:Nat) (ts:List (Addr×Stp)) (c4:Option V),σ=[some (.str z),some (.ref l),some (.ref lp),some (iv a),c4]/\a<=us.length/\us.length<a+k/\(∀q o,q≠lp->H2 q=some o->H' q=some o)/\H' lp=some (.lst (ts.map λu =>.ref u.1))/\(∀u∈ts,H' u.1=some (.tup (sv u.2))/\Good u.2)/\ts.length<=300/\(ts.map (·.2)).flatMap sw=us.take a/\dO (us.length+1) 0 0 us=dO k a ts.length (us.drop a)) (λσ _=>match σ with | [_,_,_,some (.int a),_]=>2000000-a.toNat | _=>0) ⟨0,us.length+1,[],_,rfl,xj _,by omega,λq o _ e=>e,elp,(λu h=>nomatch h),xj _,rfl,rfl⟩ ?_ ?_
 ·rintro σ H3 ⟨a,k,ts,c4,rfl,ha,hk,k3,el3,tt,l3,et,eb⟩
  have elw:=k3 _ _ nl el2
  have s3:aA H H3:=λq o e=>k3 q o (av e hlp0) (s12 _ _ e)
  refine ⟨_,rfl,_,rfl,l,_,rfl,.inl (SqL.of elw),_,_,rfl,rfl,_,rfl,eS (λz =>?_) λz =>?_⟩
  ·have z:=of_decide_eq_true z
   rw[vZ] at z
   have jl:a<us.length:=by omega
   have dr:us.drop a=us[a] :: us.drop (a+1):=xq jl
   obtain ⟨k,rfl⟩:∃j,k=j+1:=⟨k-1,by omega⟩
   refine ⟨_,rfl,lp,_,rfl,.inl (SqL.of el3),rfl,_,rfl,?_⟩
   by_cases h3:ts.length=300
   ·rw[decide_eq_true (show V.int ((ts.map λu=>V.ref u.1).length:Int)=V.int 300 by rw[vZ,h3];rfl)]
    exact aE ⟨_,rfl,(by show 1<=wa;decide),λea he=>bM (n:=a) rfl (by omega) (λdx H' s=>be a (bw.trans (eb.trans (by rw[dr];exact gq h3))) dx H' (s3.trans s)) he⟩
   rw[decide_eq_false λy=>by
    have:=V.int.inj y
    rw[vZ] at this
    omega]
   refine aK ⟨_,rfl,_,rfl,iZ.mpr ⟨l,us,a,rfl,elw,jl,lu,wu,λb hb dx H' s=>be b (bw.trans (eb.trans (by rw[dr] at hb ⊢;exact iC h3 hb))) dx H' (s3.trans s),λu hu t H4 s4 ht et4 =>?_⟩⟩
   obtain ⟨gu,eu⟩:=pd hu
   have gp:=rj gu
   have el4:=s4 _ _ el3
   have nt:t≠lp:=λz=>by rw[z,el3] at ht;cases ht
   have lsu:=congrArg List.length eu
   rw[wc,eN,wW,wW] at lsu
   refine ⟨_,rfl,.inl ⟨rfl,_,SqL.of el4⟩,_,rfl,lp,_,_,rfl,rfl,el4,?_,?_⟩
   ·rw[vZ];exact sz' (by omega)
   have et5:upd H4 lp (.lst ((ts.map λu=>V.ref u.1)++[.ref t])) t=some (.tup (sv u)):=by rw[ax nt];exact et4
   refine ⟨_,rfl,_,rfl,t,_,rfl,.inr (SqT.of et5),_,_,rfl,rfl,⟨a+1+u.2.length,k,ts++[(t,u)],some (.ref t),?_,by omega,by omega,λq o nq e=>by rw[ax nq];exact s4 _ _ (k3 q o nq e),by rw[ae,we];rfl,λv hv =>?_,by rw[wc,wj];omega,?_,?_⟩,?_⟩
   ·rw[kA,eN,show iv (a+1+u.2.length)=V.int ((a:Int)+((1+u.2.length:Nat):Int)) from congrArg V.int (by omega)]
    rfl
   ·rcases wK.mp hv with y | y
    ·have e:=s4 _ _ (tt v y).1
     exact ⟨by rw[ax (tU e el4 nofun)];exact e,(tt v y).2⟩
    ·rw[wo.mp y];exact ⟨et5,gu⟩
   ·rw[we,List.flatMap_append,et]
    show us.take a++([u].flatMap sw)=_
    rw[yB,Bi,xU,show a+1+u.2.length=a+(1+u.2.length) by omega,List.take_add]
    congr 1
    have:=congrArg (List.take (1+u.2.length)) eu
    rw[Bo (eN u)] at this
    exact this.symm
   ·rw[eb,wc,wj]
    rw[dr] at hu ⊢
    rw[lK h3 hu, <- dr,AF,show a+(1+u.2.length)=a+1+u.2.length by omega]
   ·show 2000000-((a:Int)+((sv u).length:Nat)).toNat<2000000-((a:Nat):Int).toNat
    rw[kA,eN]
    omega
  ·have jl:a=us.length:=by
    apply xE
    intro h
    apply z
    apply decide_eq_true
    rw[vZ]
    omega
   subst jl
   rw[xF] at et
   rw[xP] at eb
   have eb:dO (us.length+1) 0 0 us=none:=by
    rw[eb]
    cases k <;> rfl
   exact ⟨_,rfl,q (bw.trans eb) lp ts H3 s3 el3 tt l3 (by rw[et];exact ez)⟩
 ·rintro σ H Q Q' h ⟨v,e,w,e',p,xs,h1,h2,i,j,h3,h4,b,h5,y⟩
  exact ⟨v,e,w,e',p,xs,h1,h2,i,j,h3,h4,b,h5,h _ _ y⟩
end
open PySem L2
def nl:Option Nat->Int
 | some n=>n
 | none => -1
theorem i0 (r:Option Nat):nl r<0↔r=none:=by
 cases r with
 | none=>exact ⟨λ_=>rfl,λ_=>by decide⟩
 | some n=>exact ⟨λh=>absurd h (by show ¬ ((n:Int)<0);omega),λh=>(nomatch h)⟩
theorem tI {l:List Nat}{c:Nat}{r:List Nat}(h:l=c :: r):atI l 0=some c:=by rw[h];exact bf (j:=0) rfl
theorem tJ {c:Nat}:decide (V.str ⟨#[c]⟩=V.str "0")=decide (c=48):=decide_eq_decide.mpr ⟨λh=>by
 have:=ef.mp (V.str.inj h)
 exact (xx this).1,λh=>by rw[h];rfl⟩
abbrev ui:Sp:=λvs H Q _=>∃(z:Str) (m:Int),vs=[.str z,.int m]/\z.length<=2000000/\m<=((10 ^ 60:Nat):Int)/\Q (.int (nl (num z m))) H
@[irreducible] def mW:Sp:=ui
theorem dq {vs:List V}{H:Hp}{Q:VK}{E:XK}:mW vs H Q E↔ui vs H Q E:=by
 delta mW
 exact xr
section
variable  {P:wx}{w:wZ}{K:v5}{mg:Str->Option v8}{base:Heap}{f T:Addr}{fd:wR}
theorem pI:aJ ["word", "most"] ["word", "most"] (au iI):=⟨rfl,rfl,rfl,by decide +kernel,rfl,by decide +kernel,by decide +kernel⟩
theorem pJ (F:Fun K "_law_number" "_law_number" iI f fd)(B:Blt mg)(C:Cst mg):aW P w K mg base CX0 1 f fd ["word", "most"] mW:=by
 refine F.ok pI (λvs H Q E h =>?_) (λcdv A outer s H vs Q E hr h =>?_)
 ·obtain ⟨_,_,rfl,_⟩:=dq.mp h
  rfl
 obtain ⟨z,m,rfl,lz,hm,q⟩:=dq.mp h
 refine ⟨_,(@ag _ _ _ _ _ (@aP _ _ _ _ _ _ _ _ (PW.pt (bW (ak aZ (pv 0) aq (ar _)) (bW (ak fE (df PySem.F.slot_str_strip PySem.F.type_str_strip qG (pv 0) (@aa _ _ _ _ _ aq af rfl)) aq (ar _)) (bW (ak gF (aD cC rfl B.b_len aU (@aa _ _ _ _ _ (pv 0) af rfl)) ai (ar _)) (bS (PW.pt (cZ (ak fE (pv 0) aq (ar _)) (cB (ak aZ (@aO _ _ _ _ _ _ _ jZ (pv 0) ai (λ_ _=>rfl)) aq (ar _)))))))))) (@aj _ _ _ (@az _ _ _ _ (gE dU ai))) aB)
  (@ag _ _ _ _ _ (@aP _ _ _ _ _ _ _ _ (ak gF (aL eJ rfl B.b_int dh (@aa _ _ _ _ _ (pv 0) af rfl)) (pv 1) (ar _)) (@aj _ _ _ (@az _ _ _ _ (gE dU ai))) aB)
  (@aj _ _ _ (@az _ _ _ _ (aL eJ rfl B.b_int dh (@aa _ _ _ _ _ (pv 0) af rfl)))))),?_⟩
 have lc:=kq z
 have no:∀{G:Hp->VK->Prop} ,(∀n:Nat,(n:Int)<=m->z≠aN n)->Q (.int (-1)) H:=λh=>by
  have e:num z m=none:=bJ.mpr h
  rw[e] at q
  exact q
 refine ⟨_,rfl,rfl,_,rfl,?_⟩
 by_cases h0:z = ""
 ·rw[decide_eq_true (congrArg V.str h0)]
  exact aE (aE ⟨_,rfl,no (G:=λ_ _=>True) λn _ e=>gX n (by rw[<- e];exact cq.mp h0)⟩)
 rw[decide_eq_false (λy=>h0 (V.str.inj y))]
 refine aK ⟨_,rfl,⟨_,rfl⟩,z, "0123456789",rfl,rfl,sz lz,rfl,_,rfl,?_⟩
 by_cases hf:mM z.cps.toList
 case neg =>
  rw[decide_eq_false (λy=>hf ((iz z).mp (V.str.inj y)))]
  exact aE (aE ⟨_,rfl,no (G:=λ_ _=>True) λn _ e=>hf (by rw[e];exact λc hc=>d8 n c hc)⟩)
 rw[decide_eq_true (congrArg V.str ((iz z).mpr hf))]
 refine aK ⟨_,rfl,z,rfl,sz lz,_,_,rfl,rfl,_,rfl,?_⟩
 by_cases hl:(61:Int)<(z.length:Int)
 ·rw[decide_eq_true hl]
  refine aE (aE ⟨_,rfl,no (G:=λ_ _=>True) λn hn e =>?_⟩)
  have:=cW (n:=n) (Int.ofNat_le.mp (A8 hn hm))
  rw[<- e] at this
  omega
 rw[decide_eq_false hl]
 refine aK ⟨_,rfl,rfl,_,rfl,?_⟩
 have l61:z.length<=61:=by omega
 cases ez:z.cps.toList with
 | nil=>exact absurd (cq.mpr ez) h0
 | cons c r =>
 by_cases h1:z = "0"
 ·rw[decide_eq_true (congrArg V.str h1)]
  obtain ⟨n,rfl⟩:=fQ.mpr ⟨λy=>h0 (cq.mpr y),hf,λ_=>ef.mp h1⟩
  refine aK (aK ⟨_,rfl,aN n,(n:Int),rfl,cj (by omega),by omega,_,rfl,_,_,rfl,rfl,_,rfl,?_⟩)
  by_cases hn:m<(n:Int)
  ·rw[decide_eq_true hn]
   have e:num (aN n) m=none:=bJ.mpr λk hk e=>by
    have:=d9 e
    omega
   rw[e] at q
   exact aE ⟨_,rfl,q⟩
  rw[decide_eq_false hn]
  have e:num (aN n) m=some n:=bh.mpr ⟨rfl,by omega⟩
  rw[e] at q
  exact aK ⟨_,rfl,aN n,(n:Int),rfl,cj (by omega),by omega,q⟩
 rw[decide_eq_false (λy=>h1 (V.str.inj y))]
 refine aE ⟨_,rfl,z,0,c,rfl,rfl,sz lz,tI ez,rfl,_,rfl,?_⟩
 rw[tJ]
 by_cases hc:c=48
 ·rw[decide_eq_true hc]
  exact aE ⟨_,rfl,no (G:=λ_ _=>True) λn _ e=>h1 (ef.mpr (by rw[e];exact kv (by rw[<- e,ez,hc];rfl)))⟩
 rw[decide_eq_false hc]
 obtain ⟨n,rfl⟩:=fQ.mpr ⟨λy=>h0 (cq.mpr y),hf,λy=>by rw[ez] at y;exact absurd (wJ y) hc⟩
 refine aK ⟨_,rfl,aN n,(n:Int),rfl,cj (by omega),by omega,_,rfl,_,_,rfl,rfl,_,rfl,?_⟩
 by_cases hn:m<(n:Int)
 ·rw[decide_eq_true hn]
  have e:num (aN n) m=none:=bJ.mpr λk hk e=>by
   have:=d9 e
   omega
  rw[e] at q
  exact aE ⟨_,rfl,q⟩
 rw[decide_eq_false hn]
 have e:num (aN n) m=some n:=bh.mpr ⟨rfl,by omega⟩
 rw[e] at q
 exact aK ⟨_,rfl,aN n,(n:Int),rfl,cj (by omega),by omega,q⟩
end
open PySem L2
abbrev uj:Sp:=λvs H Q _=>∃(z:Str) (c m:Nat),vs=[.str z,.str (sgn c),iv m]/\(c=45\/c=62)/\m<=40/\z.length<=2000000/\(prd z c ((m:Int)-1)=none->∀H',aA H H'->Q .non H')/\(∀p,prd z c ((m:Int)-1)=some p->∀(t:Addr) (H':Hp),aA H H'->H t=none->H' t=some (.tup [iv p.1,iv p.2])->Q (.ref t) H')
@[irreducible] def tK:Sp:=uj
theorem i4 {vs:List V}{H:Hp}{Q:VK}{E:XK}:tK vs H Q E↔uj vs H Q E:=by
 delta tK
 exact xr
theorem l7 (z:Str)(c:Nat):∀w∈Txt.split z (sgn c),w.length<=z.length:=by
 have j:=xO z (sgn c)
 have key:∀ws:List Str,∀w∈ws,w.length<=(Str.join (sgn c) ws).length:=by
  intro ws
  induction ws with
  | nil=>exact λw h=>nomatch h
  | cons w ws ih =>
   cases ws with
   | nil=>exact λx h=>by rw[wo.mp h];exact wm _
   | cons x r =>
    intro y hy
    rw[show Str.join (sgn c) (w :: x :: r)=w++sgn c++Str.join (sgn c) (x :: r) from rfl,aM,aM]
    rcases wH.mp hy with rfl | hy
    ·omega
    ·have:=ih y hy
     omega
 have:=key (Txt.split z (sgn c))
 rwa [j] at this
theorem mX (z:Str)(c:Nat):(Txt.split z (sgn c)).length<=z.length+1:=by
 have j:=xO z (sgn c)
 have l1:(sgn c).length=1:=rfl
 have key:∀ws:List Str,ws.length<=(Str.join (sgn c) ws).length+1:=by
  intro ws
  induction ws with
  | nil=>exact xj _
  | cons w ws ih =>
   cases ws with
   | nil=>rw[wj];omega
   | cons x r =>
    rw[show Str.join (sgn c) (w :: x :: r)=w++sgn c++Str.join (sgn c) (x :: r) from rfl,aM,aM,wk,l1]
    omega
 have:=key (Txt.split z (sgn c))
 rwa [j] at this
theorem uk {a b:Option Nat}:((-1:Int)∈[nl a,nl b])↔pop a b=none:=by
 have na:∀r:Option Nat,(-1:Int)=nl r↔r=none:=λr=>by
  cases r with
  | none=>exact ⟨λ_=>rfl,λ_=>rfl⟩
  | some n=>exact ⟨λh=>absurd h (by show ¬ ((-1:Int)=n);omega),λh=>(nomatch h)⟩
 rw[wH,wH,na,na]
 cases a <;> cases b <;> simp[pop]
section
variable  {P:wx}{w:wZ}{K:v5}{mg:Str->Option v8}{base:Heap}{f T:Addr}{fd:wR}
theorem kI:aJ ["word", "sign", "many", "parts", "numbers"] ["word", "sign", "many"] (au mQ):=⟨rfl,rfl,rfl,by decide +kernel,rfl,by decide +kernel,by decide +kernel⟩
theorem gf:(["part", "many"]:List Str).Nodup:=by decide +kernel
theorem tL (F:Fun K "_law_pair" "_law_pair" mQ f fd)(B:Blt mg)(cLNumber:Cal P w K mg base 1 "_law_number" ["word", "most"] mW)(C:Cst mg):aW P w K mg base CX0 2 f fd ["word", "sign", "many"] tK:=by
 refine F.ok kI (λvs H Q E h =>?_) (λcdv A outer s H vs Q E hr h =>?_)
 ·obtain ⟨_,_,_,rfl,_⟩:=i4.mp h
  rfl
 obtain ⟨z,c,m,rfl,hc,m4,lz,q0,q1⟩:=i4.mp h
 refine ⟨_,(@ag _ _ _ _ _ (@ay _ _ 3 _ _ _ _ kI.nd rfl (Or.inl rfl) (df xI yZ iu (pv 0) (@aa _ _ _ _ _ (pv 1) af rfl)) rfl (by first | exact .inl rfl | exact .inr rfl | assumption))
  (@ag _ _ _ _ _ (mE (i:=4) ["part", "many"] [none,some 2] rfl kI.nd rfl rfl (@gR _ _ _ _ (pv 3)) rfl (λ_ _ _ _ _=>(aV (i:=0) gf rfl (Or.inl rfl))) (λ_ _ _ _ _=>gk) (λ_ _ _ _ _=>(aG cLNumber hr (by decide) rfl (@aa _ _ _ _ _ (pv 0) (@aa _ _ _ _ _ (@aH _ _ _ _ _ _ _ _ gh (pv 1) ai) af rfl) rfl))))
  (@ag _ _ _ _ _ (@aP _ _ _ _ _ _ _ _ (PW.pt (bW (ak fE (aD aw rfl B.b_len aU (@aa _ _ _ _ _ (pv 3) af rfl)) ai (ar _)) (bS (ak oA (gE dU ai) (pv 4) rfl)))) (@aj _ _ _ (@az _ _ _ _ bo)) aB)
  (@aj _ _ _ (@az _ _ _ _ (@dX _ _ _ _ _ (@aa _ _ _ _ _ (@aO _ _ _ _ _ _ _ aI (pv 4) ai (λ_ _=>rfl)) (@aa _ _ _ _ _ (@aO _ _ _ _ _ _ _ aI (pv 4) ai (λ_ _=>rfl)) af rfl) rfl))))))),?_⟩
 have lw:=l7 z c
 have ll:=mX z c
 have e1:=yF z (sgn c) 0 z.length (z.length+1)
 refine ⟨_,rfl,⟨_,rfl⟩,_,rfl,z,sgn c,rfl,rfl,rfl,sz lz,?_,λl hl =>?_⟩
 ·rw[zB]
  exact wy (show _<=2000002 by omega) (by decide)
 unfold prd at q0 q1
 generalize Txt.split z (sgn c)=ps at q0 q1 lw ll
 have g1:=ah hl (.lst (ps.map V.str))
 have el:upd H l (.lst (ps.map V.str)) l=some (.lst (ps.map V.str)):=ae
 generalize upd H l (.lst (ps.map V.str))=H1 at g1 el
 refine ⟨_,rfl,l,rfl,⟨_,SqL.of el⟩,ik (xs:=ps.map V.str) (λi ys H'=>H'=H1/\ys=((ps.take i).map λw=>nl (num w ((m:Int)-1))).map V.int) ⟨rfl,rfl⟩ (by rw[vZ];exact wy (show _<=2000002 by omega) (by decide)) (λi ys H' _ z=>by rw[z.1];exact SqL.of el) ?_ ?_⟩
 ·rintro i x ys H' hx hy ⟨rfl,rfl⟩ R1 R0 r1 r0
  obtain ⟨wi,ew,rfl⟩:=item hx
  refine aE ⟨_,rfl,_,rfl,_,_,rfl,rfl,dq.mpr ⟨wi,(m:Int)-1,rfl,wy (lw wi (xb ew)) lz,by omega,r1 _ _ ⟨rfl,?_⟩⟩⟩
  rw[xy,ew,we,we];rfl
 rintro ys H' hy ⟨rfl,rfl⟩ l2 hl2
 rw[vZ,xF]
 have g2:=ah hl2 (.lst ((ps.map λw=>nl (num w ((m:Int)-1))).map V.int))
 have el2:=g2 _ _ el
 have en2:upd H' l2 (.lst ((ps.map λw=>nl (num w ((m:Int)-1))).map V.int)) l2=some (.lst ((ps.map λw=>nl (num w ((m:Int)-1))).map V.int)):=ae
 have s12:=g1.trans g2
 generalize upd H' l2 (.lst ((ps.map λw=>nl (num w ((m:Int)-1))).map V.int))=H2 at g2 el2 en2 s12
 refine ⟨_,rfl,l,_,rfl,.inl (SqL.of el2),rfl,_,rfl,?_⟩
 by_cases h2:ps.length=2
 case neg =>
  rw[decide_eq_false (show ¬ V.int ((ps.map V.str).length:Int)=V.int 2 from λy=>h2 (by
   have:=V.int.inj y
   rw[vZ] at this
   omega))]
  refine aE (aE (q0 ?_ _ s12))
  match ps,h2 with
  | [],_=>rfl
  | [_],_=>rfl
  | [_,_],h=>exact absurd rfl h
  | _ :: _ :: _ :: _,_=>rfl
 match ps,h2 with
 | [x,y],_ =>
  refine aK ⟨1,rfl,_,rfl,l2,_,rfl,.inl (SqL.of en2),rfl,vJ _,_,rfl,?_⟩
  rw[if_neg wz,vK,show ([x,y].map λw=>nl (num w ((m:Int)-1)))=[nl (num x ((m:Int)-1)),nl (num y ((m:Int)-1))] from rfl]
  cases hp:pop (num x ((m:Int)-1)) (num y ((m:Int)-1)) with
  | none =>
   rw[decide_eq_true (show (-(1:Int))∈_ from uk.mpr hp)]
   exact aE (q0 hp _ s12)
  | some p =>
   obtain ⟨hx,hy2⟩:=lH.mp hp
   rw[decide_eq_false (show ¬ (-(1:Int))∈_ from λh=>by
    have:=uk.mp h
    rw[hp] at this;cases this)]
   have en2:H2 l2=some (.lst [iv p.1,iv p.2]):=by
    rw[en2]
    show some (HO.lst [V.int (nl (num x ((m:Int)-1))),V.int (nl (num y ((m:Int)-1)))])=_
    rw[hx,hy2];rfl
   refine aK ⟨_,rfl,l2,_,0,iv p.1,rfl,rfl,SqL.of en2,rfl,_,rfl,l2,_,1,iv p.2,rfl,rfl,SqL.of en2,rfl,(by show 2<=wa;decide),λt ht=>q1 p hp t _ (s12.trans (ah ht _)) (s12.free ht) ae⟩
end
def eB:Option PQ->List Int
 | some p=>[(p.1:Int),(p.2:Int)]
 | none=>[-1, -1]
theorem nY {a b:Nat}{last:Option PQ}:HT.lexLt [(a:Int),(b:Int)] (eB last)=true↔∃l,last=some l/\je (a,b) l:=by
 cases last with
 | none =>
  have e:HT.lexLt [(a:Int),(b:Int)] [-1, -1]=false:=by
   rw[HT.cg,if_neg (by omega)]
   exact decide_eq_false (by omega)
  rw[show eB none=[-1, -1] from rfl,e]
  exact ⟨(λh=>nomatch h),λ⟨l,e,_⟩=>nomatch e⟩
 | some p =>
  obtain ⟨c,d⟩:=p
  rw[show eB (some (c,d))=[(c:Int),(d:Int)] from rfl,HT.cg,HT.cg,HT.c9]
  have e:(∃l,some (c,d)=some l/\je (a,b) l)↔je (a,b) (c,d):=⟨λ⟨l,e,h⟩=>by cases e;exact h,λh=>⟨_,rfl,h⟩⟩
  rw[e]
  unfold je
  dsimp only
  split
  ·split
   ·exact ⟨(λh=>nomatch h),λh=>by omega⟩
   ·rw[decide_eq_true_iff];omega
  ·rw[decide_eq_true_iff];omega
theorem nZ {p:PQ}{last:Option PQ}:([(p.1:Int),(p.2:Int)]=eB last)↔last=some p:=by
 cases last with
 | none=>exact ⟨λh=>absurd (xx h).1 (by omega),λh=>(nomatch h)⟩
 | some q =>
  constructor
  ·intro h
   have h1:=(xx h).1
   have h2:=(xx (xx h).2).1
   exact congrArg some (Prod.ext (by omega) (by omega))
  ·intro h
   cases h;rfl
theorem pK:decide (V.str (sgn 45)=V.str "-")=true:=by decide +kernel
theorem rk:decide (V.str (sgn 62)=V.str "-")=false:=by decide +kernel
theorem mY:decide (V.str (sgn 45)=V.str ">")=false:=by decide +kernel
theorem pL:decide (V.str (sgn 62)=V.str ">")=true:=by decide +kernel
open PySem L2
abbrev rn:Sp:=λvs H Q _=>∃(l:Addr) (ws:List Str) (hd:Str) (c:Nat),vs=[.ref l,.str hd,.str (sgn c)]/\(c=45\/c=62)/\H l=some (.lst (ws.map V.str))/\ws≠[]/\ws.length<=1900001/\(∀w∈ws,w.length<=1900000)/\∀H',aA H H'->Q (nv (cM hd c ws)) H'
@[irreducible] def n6:Sp:=rn
theorem eO {vs:List V}{H:Hp}{Q:VK}{E:XK}:n6 vs H Q E↔rn vs H Q E:=by
 delta n6
 exact xr
section
variable  {P:wx}{w:wZ}{K:v5}{mg:Str->Option v8}{base:Heap}{f T:Addr}{fd:wR}
theorem cx:aJ ["words", "head", "sign", "last", "at", "pair"] ["words", "head", "sign"] (au fq):=⟨rfl,rfl,rfl,by decide +kernel,rfl,by decide +kernel,by decide +kernel⟩
theorem l8 (F:Fun K "_law_bad_pairs" "_law_bad_pairs" fq f fd)(B:Blt mg)(cLPair:Cal P w K mg base 2 "_law_pair" ["word", "sign", "many"] tK)(cLNumber:Cal P w K mg base 1 "_law_number" ["word", "most"] mW)(C:Cst mg):aW P w K mg base CX0 3 f fd ["words", "head", "sign"] n6:=by
 refine F.ok cx (λvs H Q E h =>?_) (λcdv A outer s H vs Q E hr h =>?_)
 ·obtain ⟨_,_,_,_,rfl,_⟩:=eO.mp h
  rfl
 obtain ⟨l,ws,hd,c,rfl,hc,el,ne,l1,wl,q⟩:=eO.mp h
 refine ⟨_,(@ag _ _ _ _ _ (@aP _ _ _ _ _ _ _ _ (ak fE (@aO _ _ _ _ _ _ _ aI (pv 0) ai (λ_ _=>rfl)) (pv 1) (ar _)) (@aj _ _ _ (@az _ _ _ _ ai)) aB)
  (@ag _ _ _ _ _ (@aP _ _ _ _ _ _ _ _ (PW.pt (bW (ak dM (aD aw rfl B.b_len aU (@aa _ _ _ _ _ (pv 0) af rfl)) ai (ar _)) (bS (ak dM (aG cLNumber hr (by decide) rfl (@aa _ _ _ _ _ (@aO _ _ _ _ _ _ _ aI (pv 0) ai (λ_ _=>rfl)) (@aa _ _ _ _ _ ai af rfl) rfl)) ai (ar _))))) (@aj _ _ _ (@az _ _ _ _ ai)) aB)
  (@ag _ _ _ _ _ (@ay _ _ 3 _ _ _ _ cx.nd rfl (Or.inl rfl) (@dX _ _ _ _ _ (@aa _ _ _ _ _ (gE dU ai) (@aa _ _ _ _ _ (gE dU ai) af rfl) rfl)) rfl (by first | exact .inl rfl | exact .inr rfl | assumption))
  (@ag _ _ _ _ _ (@bY _ _ _ _ _ _ _ _ xt rfl (jq rfl B.b_range (@aa _ _ _ _ _ ai (@aa _ _ _ _ _ (aD aw rfl B.b_len aU (@aa _ _ _ _ _ (pv 0) af rfl)) af rfl) rfl)) (aV (i:=4) cx.nd rfl (Or.inl rfl))
   (@ag _ _ _ _ _ (@ay _ _ 5 _ _ _ _ cx.nd rfl (Or.inl rfl) (aG cLPair hr (by decide) rfl (@aa _ _ _ _ _ (@aO _ _ _ _ _ _ _ aI (pv 0) (pv 4) (λ_ _=>rfl)) (@aa _ _ _ _ _ (pv 2) (@aa _ _ _ _ _ (aL eJ rfl B.b_int dh (@aa _ _ _ _ _ (@aO _ _ _ _ _ _ _ aI (pv 0) ai (λ_ _=>rfl)) af rfl)) af rfl) rfl) rfl)) rfl (by first | exact .inl rfl | exact .inr rfl | assumption))
   (@ag _ _ _ _ _ (@aP _ _ _ _ _ _ _ _ (PW.pt (bW (ak dW (pv 5) bo (ar _)) (bW (ak aZ (pv 4) ai (ar _)) (bS (ak (p9 (xc (Ae _ 8) (hu8 hr))) (pv 5) (pv 3) (ar _)))))) (@aj _ _ _ (@az _ _ _ _ (pv 4))) aB)
   (@ag _ _ _ _ _ (@aP _ _ _ _ _ _ _ _ (PW.pt (bW (PW.pt (cZ (ak aZ (pv 2) aq (ar _)) (cB (ak gF (@aO _ _ _ _ _ _ _ da (pv 5) ai (λ_ _=>rfl)) (@aO _ _ _ _ _ _ _ da (pv 5) ai (λ_ _=>rfl)) (ar _))))) (bS (PW.pt (cZ (ak aZ (pv 2) aq (ar _)) (cB (ak (r6 hr) (pv 5) (pv 3) (ar _)))))))) (@aj _ _ _ (@az _ _ _ _ (pv 4))) aB)
   (@aj _ _ _ (@ay _ _ 3 _ _ _ _ cx.nd rfl (Or.inl rfl) (pv 5) rfl (by first | exact .inl rfl | exact .inr rfl | assumption)))))) (λ_=>rfl))
  (@aj _ _ _ (@az _ _ _ _ bo)))))),?_⟩
 cases ws with
 | nil=>exact absurd rfl ne
 | cons w0 rest =>
 refine ⟨_,rfl,l,_,0,.str w0,rfl,rfl,SqL.of el,bf (j:=0) rfl,_,rfl,rfl,_,rfl,?_⟩
 by_cases hw:w0=hd
 case neg =>
  rw[decide_eq_false (λy=>hw (V.str.inj y))]
  have e:cM hd c (w0 :: rest)=some 0:=if_pos hw
  rw[e] at q
  exact aE (q _ (aA.refl _))
 rw[decide_eq_true (congrArg V.str hw)]
 have bw:cM hd c (w0 :: rest)=_:=if_neg (λy=>y hw)
 refine aK ⟨_,rfl,l,_,rfl,.inl (SqL.of el),_,_,rfl,rfl,_,rfl,?_⟩
 cases rest with
 | nil =>
  have e:cM hd c [w0]=some 1:=bw
  rw[e] at q
  exact aE (aE (q _ (aA.refl _)))
 | cons x r =>
 dsimp only at bw
 have el0:atI ((w0 :: x :: r).map V.str) 1=some (.str x):=bf (j:=1) rfl
 rw[decide_eq_false (show ¬ (((w0 :: x :: r:List Str).map V.str).length:Int)<2 by rw[vZ,wk,wk];omega)]
 refine aK ⟨_,rfl,l,_,1,.str x,rfl,rfl,SqL.of el,el0,dq.mpr ⟨x,40,rfl,wy (wl x (by simp)) (by decide),by decide,_,_,rfl,rfl,_,rfl,?_⟩⟩
 cases hx:num x 40 with
 | none =>
  rw[hx] at bw
  rw[bw] at q
  exact aE (q _ (aA.refl _))
 | some m =>
 rw[hx] at bw
 dsimp only at bw
 rw[bw] at q
 obtain ⟨rfl,m40⟩:=bh.mp hx
 have m4:m<=40:=by omega
 rw[decide_eq_false (show ¬ (nl (some m)<0) from λy=>nomatch (i0 _).mp y)]
 refine aK ⟨1,rfl,1,rfl,(by show 2<=wa;decide),λt0 ht0 =>?_⟩
 have g1:=ah ht0 (.tup [.int (-1),.int (-1)])
 have et0:upd H t0 (.tup [.int (-1),.int (-1)]) t0=some (.tup ((eB none).map V.int)):=ae
 generalize upd H t0 (.tup [.int (-1),.int (-1)])=H1 at g1 et0
 have el1:=g1 _ _ el
 have lr:(((w0 :: aN m :: r:List Str).map V.str).length:Int)=(r.length:Int)+2:=by rw[vZ,wk,wk];omega
 have lr1:r.length<=1900001:=by rw[wk,wk] at l1;omega
 refine ⟨_,rfl,l,_,rfl,.inl (SqL.of el1),_,_,rfl,⟨by decide,by decide,by omega,by omega⟩,?_⟩
 rw[show ((((w0 :: aN m :: r:List Str).map V.str).length:Int)-2).toNat=r.length by omega]
 refine bH (λi σ H'=>∃(t:Addr) (last:Option PQ) (c4 c5:Option V),σ=[some (.ref l),some (.str hd),some (.str (sgn c)),some (.ref t),c4,c5]/\aA H1 H'/\H' t=some (.tup ((eB last).map V.int))/\i<=200/\eg c ((m:Int)-1) none 2 r=eg c ((m:Int)-1) last (2+i) (r.drop i)) ⟨t0,none,_,_,rfl,aA.refl _,et0,xj _,rfl⟩ ?_ ?_
 ·rintro i σ H2 li ⟨t,last,c4,c5,rfl,s2,et,i2,eb⟩
  have el2:=s2 _ _ el1
  have dr:r.drop i=r[i] :: r.drop (i+1):=xq li
  rw[dr] at eb
  have hat:atI ((w0 :: aN m :: r).map V.str) (2+(i:Int))=some (.str r[i]):=by
   rw[show (2+(i:Int))=((i+2:Nat):Int) by omega]
   exact bf (by rw[w5,z0,z0,wt li];rfl)
  have wi:r[i].length<=1900000:=wl _ (wD _ (wD _ (xX li)))
  generalize r[i]=w at hat wi eb dr
  have s02:=g1.trans s2
  have bad:∀{H':Hp},aA H2 H'->eg c ((m:Int)-1) last (2+i) (w :: r.drop (i+1))=some (2+i)->Q (.int (2+(i:Int))) H':=λs e=>by
   have:=q _ (s02.trans s)
   rw[eb,e] at this
   rwa [show (2+(i:Int))=((2+i:Nat):Int) by omega]
  refine ⟨_,rfl,_,rfl,l,_,_,.str w,rfl,rfl,SqL.of el2,hat,_,rfl,_,rfl,l,_,1,.str (aN m),rfl,rfl,SqL.of el2,bf (j:=1) rfl,aN m,(m:Int),rfl,cj (wy (cW (wy m4 (by decide))) (by decide)),wy (cW (wy m4 (by decide))) (by decide),i4.mpr ⟨w,c,m,rfl,hc,m4,wy wi (by decide),λhn H3 s3 =>?_,λp hp t3 H3 s3 ht3 et3 =>?_⟩⟩
  ·exact ⟨_,rfl,rfl,_,rfl,aE (aE ⟨_,rfl,bad s3 (jM hn)⟩)⟩
  refine ⟨_,rfl,rfl,_,rfl,aK ⟨_,rfl,rfl,_,rfl,?_⟩⟩
  by_cases i20:i=200
  ·rw[decide_eq_true (show V.int (2+(i:Int))=V.int 202 by rw[i20];rfl)]
   exact aE (aE ⟨_,rfl,bad s3 (dk hp (.inl (by omega)))⟩)
  rw[decide_eq_false (show ¬ V.int (2+(i:Int))=V.int 202 from λy=>by
   have:=V.int.inj y
   omega)]
  have et2:=s3 _ _ et
  have et3':H3 t3=some (.tup (([(p.1:Int),(p.2:Int)]).map V.int)):=et3
  refine aK ⟨_,rfl,_,rfl,t3,t,[(p.1:Int),(p.2:Int)],eB last,rfl,rfl,SqT.of et3',SqT.of et2,_,rfl,?_⟩
  by_cases hlt:HT.lexLt [(p.1:Int),(p.2:Int)] (eB last)=true
  ·rw[hlt]
   obtain ⟨l',e1,e2⟩:=nY.mp hlt
   exact aE ⟨_,rfl,bad s3 (dk hp (.inr λy=>(y.2 l' e1).1 e2))⟩
  rw[yz.mpr hlt]
  refine aK ?_
  have nlt:∀l',last=some l'->¬ je p l':=λl' e y=>hlt (nY.mpr ⟨l',e,y⟩)
  have go:okB c last p->∃(t:Addr) (last':Option PQ) (c4 c5:Option V),([some (.ref l),some (.str hd),some (.str (sgn c)),some (.ref t3),some (.int (2+(i:Int))),some (.ref t3)]:St)=[some (.ref l),some (.str hd),some (.str (sgn c)),some (.ref t),c4,c5]/\aA H1 H3/\H3 t=some (.tup ((eB last').map V.int))/\i+1<=200/\eg c ((m:Int)-1) none 2 r=eg c ((m:Int)-1) last' (2+(i+1)) (r.drop (i+1)):=λok=>⟨t3,some p,_,_,rfl,s2.trans s3,et3',by omega,by rw[eb,nI hp (by omega) ok];rfl⟩
  rcases hc with rfl | rfl
  ·refine ⟨_,rfl,rfl,_,rfl,?_⟩
   rw[pK]
   refine aE ⟨_,rfl,t3,_,0,iv p.1,rfl,rfl,SqT.of et3,rfl,_,rfl,t3,_,1,iv p.2,rfl,rfl,SqT.of et3,rfl,_,_,rfl,rfl,_,rfl,?_⟩
   by_cases ab:(p.2:Int)<(p.1:Int)
   ·rw[decide_eq_true ab]
    exact aE (aE ⟨_,rfl,bad s3 (dk hp (.inr λy=>absurd (y.1 rfl) (by omega)))⟩)
   rw[decide_eq_false ab]
   refine aK ⟨_,rfl,rfl,_,rfl,?_⟩
   rw[mY]
   exact aK (aK ⟨_,rfl,go ⟨λ_=>by omega,λl' e=>⟨nlt l' e,λz=>absurd z (by decide)⟩⟩⟩)
  ·refine ⟨_,rfl,rfl,_,rfl,?_⟩
   rw[rk]
   refine aK (aK ⟨_,rfl,rfl,_,rfl,?_⟩)
   rw[pL]
   refine aE ⟨_,rfl,_,rfl,t3,t,[(p.1:Int),(p.2:Int)],eB last,rfl,rfl,SqT.of et3',SqT.of et2,_,rfl,?_⟩
   by_cases he:[(p.1:Int),(p.2:Int)]=eB last
   ·rw[decide_eq_true he]
    exact aE ⟨_,rfl,bad s3 (dk hp (.inr λy=>(y.2 p (nZ.mp he)).2 rfl rfl))⟩
   rw[decide_eq_false he]
   exact aK ⟨_,rfl,go ⟨λz=>absurd z (by decide),λl' e=>⟨nlt l' e,λ_ z=>he (nZ.mpr (by rw[e,z]))⟩⟩⟩
 ·rintro σ H2 ⟨t,last,c4,c5,rfl,s2,et,i2,eb⟩
  rw[xP] at eb
  have:=q _ (g1.trans s2)
  rw[eb] at this
  exact this
end
open PySem L2
abbrev rp:Sp:=λvs H Q _=>∃(l:Addr) (ws:List Str),vs=[.ref l]/\H l=some (.lst (ws.map V.str))/\ws≠[]/\ws.length<=1900001/\(∀w∈ws,w.length<=1900000)/\∀H',aA H H'->Q (nv (fR ws)) H'
@[irreducible] def n8:Sp:=rp
theorem gC {vs:List V}{H:Hp}{Q:VK}{E:XK}:n8 vs H Q E↔rp vs H Q E:=by
 delta n8
 exact xr
section
variable  {P:wx}{w:wZ}{K:v5}{mg:Str->Option v8}{base:Heap}{f T:Addr}{fd:wR}
theorem jR:aJ ["words", "at"] ["words"] (au iJ):=⟨rfl,rfl,rfl,by decide +kernel,rfl,by decide +kernel,by decide +kernel⟩
theorem pM (F:Fun K "_law_bad_row" "_law_bad_row" iJ f fd)(B:Blt mg)(cLNumber:Cal P w K mg base 1 "_law_number" ["word", "most"] mW)(C:Cst mg):aW P w K mg base CX0 2 f fd ["words"] n8:=by
 refine F.ok jR (λvs H Q E h =>?_) (λcdv A outer s H vs Q E hr h =>?_)
 ·obtain ⟨_,_,rfl,_⟩:=gC.mp h
  rfl
 obtain ⟨l,ws,rfl,el,ne,l1,wl,q⟩:=gC.mp h
 refine ⟨_,(@ag _ _ _ _ _ (@aP _ _ _ _ _ _ _ _ (ak aZ (@aO _ _ _ _ _ _ _ aI (pv 0) ai (λ_ _=>rfl)) aq (ar _)) (@aj _ _ _ (@az _ _ _ _ (@aO _ _ _ _ _ _ _ aI (@aQ _ _ _ _ (@aa _ _ _ _ _ bo (@aa _ _ _ _ _ ai af rfl) rfl)) (aL cF rfl B.b_int dh (@aa _ _ _ _ _ (bP gF (aD aw rfl B.b_len aU (@aa _ _ _ _ _ (pv 0) af rfl)) ai (ar _)) af rfl)) (λ_ _=>rfl)))) aB)
  (@ag _ _ _ _ _ (@bY _ _ _ _ _ _ _ _ xt rfl (cf rfl B.b_range (@aa _ _ _ _ _ (aD aw rfl B.b_len aU (@aa _ _ _ _ _ (pv 0) af rfl)) af rfl)) (aV (i:=1) jR.nd rfl (Or.inl rfl))
   (@aj _ _ _ (@aP _ _ _ _ _ _ _ _ (PW.pt (bW (ak aZ (pv 1) ai (ar _)) (bS (ak dM (aG cLNumber hr (by decide) rfl (@aa _ _ _ _ _ (@aO _ _ _ _ _ _ _ aI (pv 0) (pv 1) (λ_ _=>rfl)) (@aa _ _ _ _ _ (@aH _ _ _ _ _ _ _ _ fc ai ai) af rfl) rfl)) ai (ar _))))) (@aj _ _ _ (@az _ _ _ _ (pv 1))) aB)) (λ_=>rfl))
  (@aj _ _ _ (@az _ _ _ _ bo)))),?_⟩
 cases ws with
 | nil=>exact absurd rfl ne
 | cons w0 rest =>
 refine ⟨_,rfl,l,_,0,.str w0,rfl,rfl,SqL.of el,bf (j:=0) rfl,rfl,_,rfl,?_⟩
 by_cases hw:w0 = "-"
 ·rw[decide_eq_true (congrArg V.str hw)]
  have hh:(w0 :: rest).head? = some "-" := congrArg some hw
  refine aE ⟨(by show 2<=wa;decide),λl2 hl2 =>?_⟩
  have g1:=ah hl2 (.lst [.non,.int 1])
  have e2:upd H l2 (.lst [.non,.int 1]) l2=some (.lst [.non,.int 1]):=ae
  have el1:=g1 _ _ el
  have q:=q _ g1
  generalize upd H l2 (.lst [.non,.int 1])=H1 at g1 e2 el1 q
  refine ⟨_,rfl,l,_,rfl,.inl (SqL.of el1),_,_,rfl,rfl,.inr ⟨_,rfl,?_⟩⟩
  by_cases h1:1<(w0 :: rest).length
  ·rw[decide_eq_true (show (1:Int)<(((w0 :: rest).map V.str).length:Int) by rw[vZ];omega)]
   rw[lL hh h1] at q
   exact ⟨l2,_,1,.int 1,rfl,rfl,SqL.of e2,rfl,q⟩
  ·rw[decide_eq_false (show ¬ (1:Int)<(((w0 :: rest).map V.str).length:Int) by rw[vZ];omega)]
   have e:fR (w0 :: rest)=none:=(if_pos hh).trans (if_neg h1)
   rw[e] at q
   exact ⟨l2,_,0,.non,rfl,rfl,SqL.of e2,rfl,q⟩
 rw[decide_eq_false (λy=>hw (V.str.inj y))]
 have ro:fT (w0 :: rest) (w0 :: rest) :=.inl ⟨λy=>hw (wJ y),rfl⟩
 have bw:=ro.fR
 generalize w0 :: rest=ws at el ne l1 wl q bw
 refine aK ⟨_,rfl,l,_,rfl,.inl (SqL.of el),_,rfl,by omega,?_,?_⟩
 ·rw[vZ];omega
 rw[show (((ws.map V.str).length:Nat):Int).toNat=ws.length by rw[vZ];omega]
 refine bH (λi σ H'=>(∃c1,σ=[some (.ref l),c1])/\H'=H/\i<=60/\nums 0 ws=nums i (ws.drop i)) ⟨⟨_,rfl⟩,rfl,xj _,rfl⟩ ?_ ?_
 ·rintro i σ H2 li ⟨⟨c1,rfl⟩,rfl,i6,eb⟩
  have dr:ws.drop i=ws[i] :: ws.drop (i+1):=xq li
  rw[dr] at eb
  have hat:atI (ws.map V.str) (0+(i:Int))=some (.str ws[i]):=by
   rw[A9]
   exact bf (by rw[w5,wt li];rfl)
  have wi:ws[i].length<=1900000:=wl _ (xX li)
  generalize ws[i]=w at hat wi eb dr
  have bad:nums i (w :: ws.drop (i+1))=some i->Q (.int (0+(i:Int))) H2:=λe=>by
   have:=q _ (aA.refl _)
   rw[bw,eb,e] at this
   rwa [A9]
  refine ⟨_,rfl,rfl,_,rfl,?_⟩
  by_cases h6:i=60
  ·rw[decide_eq_true (show V.int (0+(i:Int))=V.int 60 by rw[h6];rfl)]
   refine aE (aE ⟨_,rfl,bad ?_⟩)
   cases hn:num w ((10 ^ 60:Nat):Int) with
   | none=>exact gn hn
   | some n=>exact lJ hn h6
  rw[decide_eq_false (show ¬ V.int (0+(i:Int))=V.int 60 from λy=>by
   have:=V.int.inj y
   omega)]
  refine aK ⟨_,rfl,_,rfl,l,_,_,.str w,rfl,rfl,SqL.of el,hat,_,_,rfl,rfl,⟨by decide,by decide,by decide⟩,dq.mpr ⟨w,((10 ^ 60:Nat):Int),(by show [V.str w,V.int ((10:Int) ^ (60:Int).toNat)]=_;rw[e60]),wy wi (by decide),Int.le_refl _,_,_,rfl,rfl,_,rfl,?_⟩⟩
  cases hn:num w ((10 ^ 60:Nat):Int) with
  | none =>
   rw[decide_eq_true (show nl none<0 from (i0 _).mpr rfl)]
   exact aE ⟨_,rfl,bad (gn hn)⟩
  | some n =>
   rw[decide_eq_false (show ¬ (nl (some n)<0) from λy=>nomatch (i0 _).mp y)]
   exact aK ⟨⟨_,rfl⟩,rfl,by omega,by rw[eb,nJ hn h6]⟩
 ·rintro σ H2 ⟨⟨c1,rfl⟩,rfl,i6,eb⟩
  rw[xP] at eb
  have:=q _ (aA.refl _)
  rw[bw,eb] at this
  exact this
end
open PySem L2
theorem oa (x:Str):inV (.str x) [.str "lone",.str "two",.str "loop",.str "many"]=true↔bK x:=by
 have e:∀p k:Str,eqV (.str p) (.str k)=(p == k):=λ_ _=>rfl
 unfold inV bK
 simp only[zV,List.any_nil,BG,Ap,e,beq_iff_eq]
 exact ⟨λh=>h.imp AI λh=>h.imp AI λh=>h.imp AI AI,λh=>h.imp AI λh=>h.imp AI λh=>h.imp AI AI⟩
theorem tM (x:Str):(1+(if decide (V.str x=V.str "many")=true then 1 else 0):Int)=(cnt x:Nat):=by
 unfold cnt
 by_cases h:x = "many"
 ·rw[if_pos (decide_eq_true (congrArg V.str h)),if_pos h];rfl
 ·rw[if_neg (λy=>h (V.str.inj (of_decide_eq_true y))),if_neg h];rfl
theorem pN {k a n:Nat}{ws:List Str}{w:Str}{b:Nat}(h:n=300\/bj a (w :: ws) = .inl b)(e:n=300->b=a):dO (k+1) a n (w :: ws)=some b:=by
 by_cases hn:n=300
 ·rw[e hn];exact gq hn
 ·exact iC hn (h.resolve_left hn)
abbrev rq:Sp:=λvs H Q _=>∃(l:Addr) (ws:List Str),vs=[.ref l]/\H l=some (.lst (ws.map V.str))/\ws≠[]/\ws.length<=1900001/\(∀w∈ws,w.length<=1900000)/\∀H',aA H H'->Q (nv (fS ws)) H'
@[irreducible] def og:Sp:=rq
theorem gD {vs:List V}{H:Hp}{Q:VK}{E:XK}:og vs H Q E↔rq vs H Q E:=by
 delta og
 exact xr
section
variable  {P:wx}{w:wZ}{K:v5}{mg:Str->Option v8}{base:Heap}{f T:Addr}{fd:wR}
theorem ck:aJ ["words", "steps", "at", "numbers", "k"] ["words"] (au iK):=⟨rfl,rfl,rfl,by decide +kernel,rfl,by decide +kernel,by decide +kernel⟩
theorem pO (F:Fun K "_law_bad_log" "_law_bad_log" iK f fd)(B:Blt mg)(cLNumber:Cal P w K mg base 1 "_law_number" ["word", "most"] mW)(C:Cst mg):aW P w K mg base CX0 2 f fd ["words"] og:=by
 refine F.ok ck (λvs H Q E h =>?_) (λcdv A outer s H vs Q E hr h =>?_)
 ·obtain ⟨_,_,rfl,_⟩:=gD.mp h
  rfl
 obtain ⟨l,ws,rfl,el,ne,l1,wl,q⟩:=gD.mp h
 refine ⟨_,(@ag _ _ _ _ _ (@aP _ _ _ _ _ _ _ _ (ak aZ (@aO _ _ _ _ _ _ _ aI (pv 0) ai (λ_ _=>rfl)) aq (ar _)) (@aj _ _ _ (@az _ _ _ _ (@aO _ _ _ _ _ _ _ aI (@aQ _ _ _ _ (@aa _ _ _ _ _ bo (@aa _ _ _ _ _ ai af rfl) rfl)) (aL cF rfl B.b_int dh (@aa _ _ _ _ _ (bP gF (aD aw rfl B.b_len aU (@aa _ _ _ _ _ (pv 0) af rfl)) ai (ar _)) af rfl)) (λ_ _=>rfl)))) aB)
  (@ag _ _ _ _ _ (@ay _ _ 1 _ _ _ _ ck.nd rfl (Or.inl rfl) ai rfl (by first | exact .inl rfl | exact .inr rfl | assumption))
  (@ag _ _ _ _ _ (@ay _ _ 2 _ _ _ _ ck.nd rfl (Or.inl rfl) ai rfl (by first | exact .inl rfl | exact .inr rfl | assumption))
  (@ag _ _ _ _ _ (kM xt (ak dM (pv 2) (aD aw rfl B.b_len aU (@aa _ _ _ _ _ (pv 0) af rfl)) (ar _))
   (@ag _ _ _ _ _ (@aP _ _ _ _ _ _ _ _ (PW.pt (bW (ak j6 (@aO _ _ _ _ _ _ _ aI (pv 0) (pv 2) (λ_ _=>rfl)) (@dX _ _ _ _ _ (@aa _ _ _ _ _ aq (@aa _ _ _ _ _ aq (@aa _ _ _ _ _ aq (@aa _ _ _ _ _ aq af rfl) rfl) rfl) rfl)) rfl) (bS (ak aZ (pv 1) ai (ar _))))) (@aj _ _ _ (@az _ _ _ _ (pv 2))) aB)
   (@ag _ _ _ _ _ (@ay _ _ 3 _ _ _ _ ck.nd rfl (Or.inl rfl) (@aQ _ _ _ _ af) rfl (by first | exact .inl rfl | exact .inr rfl | assumption))
   (@ag _ _ _ _ _ (@bY _ _ _ _ _ _ _ _ xt rfl (cf rfl B.b_range (@aa _ _ _ _ _ (@aH _ _ _ _ _ _ _ _ aX ai (aL cF rfl B.b_int dh (@aa _ _ _ _ _ (bP aZ (@aO _ _ _ _ _ _ _ aI (pv 0) (pv 2) (λ_ _=>rfl)) aq (ar _)) af rfl))) af rfl)) (aV (i:=4) ck.nd rfl (Or.inl rfl))
    (@ag _ _ _ _ _ (@aP _ _ _ _ _ _ _ _ (ak nr (@aH _ _ _ _ _ _ _ _ aX (@aH _ _ _ _ _ _ _ _ aX (pv 2) ai) (pv 4)) (aD aw rfl B.b_len aU (@aa _ _ _ _ _ (pv 0) af rfl)) (ar _)) (@aj _ _ _ (@az _ _ _ _ (aD aw rfl B.b_len aU (@aa _ _ _ _ _ (pv 0) af rfl)))) aB)
    (@ag _ _ _ _ _ (bX (eU xa xk xl bT (pv 3) (@aa _ _ _ _ _ (aG cLNumber hr (by decide) rfl (@aa _ _ _ _ _ (@aO _ _ _ _ _ _ _ aI (pv 0) (@aH _ _ _ _ _ _ _ _ aX (@aH _ _ _ _ _ _ _ _ aX (pv 2) ai) (pv 4)) (λ_ _=>rfl)) (@aa _ _ _ _ _ ai af rfl) rfl)) af rfl)))
    (@aj _ _ _ (@aP _ _ _ _ _ _ _ _ (PW.pt (bW (ak dM (@aO _ _ _ _ _ _ _ aI (pv 3) (pv 4) (λ_ _=>rfl)) ai (ar _)) (bS (PW.pt (cZ (ak aZ (pv 4) ai (ar _)) (cB (ak nr (@aO _ _ _ _ _ _ _ aI (pv 3) ai (λ_ _=>rfl)) (@aO _ _ _ _ _ _ _ aI (pv 3) ai (λ_ _=>rfl)) (ar _)))))))) (@aj _ _ _ (@az _ _ _ _ (@aH _ _ _ _ _ _ _ _ aX (@aH _ _ _ _ _ _ _ _ aX (pv 2) ai) (pv 4)))) aB)))) (λ_=>rfl))
   (@ag _ _ _ _ _ (@ay _ _ 1 _ _ _ _ ck.nd rfl (Or.inl rfl) (@aH _ _ _ _ _ _ _ _ aX (pv 1) ai) rfl (by first | exact .inl rfl | exact .inr rfl | assumption))
   (@aj _ _ _ (@ay _ _ 2 _ _ _ _ ck.nd rfl (Or.inl rfl) (@aH _ _ _ _ _ _ _ _ aX (@aH _ _ _ _ _ _ _ _ aX (pv 2) ai) (aD aw rfl B.b_len aU (@aa _ _ _ _ _ (pv 3) af rfl))) rfl (by first | exact .inl rfl | exact .inr rfl | assumption))))))))
  (@aj _ _ _ (@az _ _ _ _ bo)))))),?_⟩
 cases ws with
 | nil=>exact absurd rfl ne
 | cons w0 rest =>
 refine ⟨_,rfl,l,_,0,.str w0,rfl,rfl,SqL.of el,bf (j:=0) rfl,rfl,_,rfl,?_⟩
 by_cases hw:w0 = "-"
 ·rw[decide_eq_true (congrArg V.str hw)]
  have hh:(w0 :: rest).head? = some "-" := congrArg some hw
  refine aE ⟨(by show 2<=wa;decide),λl2 hl2 =>?_⟩
  have g1:=ah hl2 (.lst [.non,.int 1])
  have e2:upd H l2 (.lst [.non,.int 1]) l2=some (.lst [.non,.int 1]):=ae
  have el1:=g1 _ _ el
  have q:=q _ g1
  generalize upd H l2 (.lst [.non,.int 1])=H1 at g1 e2 el1 q
  refine ⟨_,rfl,l,_,rfl,.inl (SqL.of el1),_,_,rfl,rfl,.inr ⟨_,rfl,?_⟩⟩
  by_cases h1:1<(w0 :: rest).length
  ·rw[decide_eq_true (show (1:Int)<(((w0 :: rest).map V.str).length:Int) by rw[vZ];omega)]
   rw[lM hh h1] at q
   exact ⟨l2,_,1,.int 1,rfl,rfl,SqL.of e2,rfl,q⟩
  ·rw[decide_eq_false (show ¬ (1:Int)<(((w0 :: rest).map V.str).length:Int) by rw[vZ];omega)]
   have e:fS (w0 :: rest)=none:=(if_pos hh).trans (if_neg h1)
   rw[e] at q
   exact ⟨l2,_,0,.non,rfl,rfl,SqL.of e2,rfl,q⟩
 rw[decide_eq_false (λy=>hw (V.str.inj y))]
 have ro:fT (w0 :: rest) (w0 :: rest) :=.inl ⟨λy=>hw (wJ y),rfl⟩
 have bw:=ro.fS
 generalize w0 :: rest=ws at el ne l1 wl q bw
 refine aK ?_
 unfold tX
 dsimp only
 refine kH ?_
 refine iX ?_
 dsimp only
 refine kH ?_
 refine iX ?_
 dsimp only
 refine kH ?_
 refine kO (λσ H'=>∃(a k n:Nat) (c3 c4:Option V),σ=[some (.ref l),some (iv n),some (iv a),c3,c4]/\a<=ws.length/\ws.length<a+k/\n<=300/\aA H H'/\dO (ws.length+1) 0 0 ws=dO k a n (ws.drop a)) (λσ _=>match σ with | [_,_,some (.int a),_,_]=>2000000-a.toNat | _=>0) ⟨0,ws.length+1,0,_,_,rfl,xj _,by omega,xj _,aA.refl _,rfl⟩ ?_ ?_
 ·rintro σ H1 ⟨a,k,n,c3,c4,rfl,ha,hk,n3,s1,eb⟩
  have el1:=s1 _ _ el
  refine ⟨_,rfl,_,rfl,l,_,rfl,.inl (SqL.of el1),_,_,rfl,rfl,_,rfl,eS (λz =>?_) λz =>?_⟩
  ·have z:=of_decide_eq_true z
   rw[vZ] at z
   have al:a<ws.length:=by omega
   have hat:atI (ws.map V.str) (a:Int)=some (.str ws[a]):=bf (by rw[w5,wt al];rfl)
   have dr:ws.drop a=ws[a] :: ws.drop (a+1):=xq al
   have lr:(ws.drop (a+1)).length=ws.length-(a+1):=wW ..
   have hrest:∀(i:Nat) (x:Str),(ws.drop (a+1))[i]? = some x->atI (ws.map V.str) ((a:Int)+1+(0+(i:Int)))=some (.str x):=λi x e=>by
    rw[AR] at e
    rw[show ((a:Int)+1+(0+(i:Int)))=((a+1+i:Nat):Int) by omega]
    exact bf (by rw[w5,e];rfl)
   obtain ⟨k,rfl⟩:∃j,k=j+1:=⟨k-1,by omega⟩
   have wr:∀x∈ws.drop (a+1),x.length<=1900000:=λx hx=>wl x (xR hx)
   have dr2:∀m,ws.drop (a+1+m)=(ws.drop (a+1)).drop m:=λm=>by rw[AF]
   rw[dr] at eb
   generalize ws[a]=w0 at hat eb
   generalize ws.drop (a+1)=rest at eb lr wr hrest dr2
   have bad:∀{H':Hp} {b:Nat} {i:Int},aA H1 H'->i=(b:Int)->dO (k+1) a n (w0 :: rest)=some b->Q (.int i) H':=λs ei e=>by
    have:=q _ (s1.trans s)
    rw[bw,eb,e] at this
    rw[ei]
    exact this
   refine ⟨_,rfl,_,rfl,l,_,(a:Int),.str w0,rfl,rfl,SqL.of el1,hat,(by show 4<=wa;decide),λtp htp=>⟨tp,_,rfl,.inr (SqT.of ae),rfl,rfl,_,rfl,?_⟩⟩
   have s2:=ah htp (.tup [.str "lone",.str "two",.str "loop",.str "many"])
   have el2:=s2 _ _ el1
   generalize upd H1 tp (.tup [.str "lone",.str "two",.str "loop",.str "many"])=H2 at s2 el2
   rw[if_pos rfl]
   by_cases hw0:bK w0
   case neg =>
    rw[yz.mpr (λy=>hw0 ((oa w0).mp y))]
    exact aE (aE ⟨_,rfl,bad s2 rfl (pN (.inr (lN hw0)) λ_=>rfl)⟩)
   rw[(oa w0).mpr hw0]
   refine aK ⟨_,rfl,rfl,_,rfl,?_⟩
   by_cases h3:n=300
   ·rw[decide_eq_true (show iv n=V.int 300 by rw[h3];rfl)]
    exact aE ⟨_,rfl,bad s2 rfl (gq h3)⟩
   rw[decide_eq_false (show ¬ iv n=V.int 300 from λy=>by
    have:=V.int.inj y
    omega)]
   refine aK ⟨(by show 0<=wa;decide),λlp hlp =>?_⟩
   have s3:=ah hlp (.lst [])
   have elp:upd H2 lp (.lst []) lp=some (.lst []):=ae
   have el3:=s3 _ _ el2
   have s13:=s2.trans s3
   have hlp1:H1 lp=none:=s2.free hlp
   have nlp:l≠lp:=λz=>by rw[z,hlp1] at el1;cases el1
   generalize upd H2 lp (.lst [])=H3 at s3 elp el3 s13
   have cl:=iY w0
   have bad:=λ{H':Hp} {b:Nat} {i:Int} (k':∀q o,q≠lp->H3 q=some o->H' q=some o) (ei:i=(b:Int)) (e:bj a (w0 :: rest) = .inl b)=>bad (H':=H') (λq o e=>k' q o (av e hlp1) (s13 _ _ e)) ei (iC h3 e)
   refine ⟨_,rfl,_,rfl,l,_,(a:Int),.str w0,rfl,rfl,SqL.of el3,hat,rfl,.inr ⟨_,rfl,_,_,rfl,rfl,_,rfl,?_⟩⟩
   rw[tM]
   refine ⟨by omega,by omega,?_⟩
   rw[show ((cnt w0:Nat):Int).toNat=cnt w0 by omega]
   refine bH (λi σ H'=>(∃c4,σ=[some (.ref l),some (iv n),some (iv a),some (.ref lp),c4])/\(∀q o,q≠lp->H3 q=some o->H' q=some o)/\∃ns:List Nat,H' lp=some (.lst (ns.map iv))/\ns.length=i/\ns.map aN=(rest.take (cnt w0)).take i/\(∀n∈ns,n<=39)/\ris ns=true) ⟨⟨_,rfl⟩,λq o _ e=>e,[],elp,rfl,rfl,(λn h=>nomatch h),rfl⟩ ?_ ?_
   ·rintro i σ H4 li ⟨⟨c4,rfl⟩,k4,ns,el4,ln,en,nb,hr4⟩
    have elw:=k4 _ _ nlp el3
    have lns:=congrArg List.length en
    rw[vZ,wG,wG] at lns
    refine ⟨_,rfl,_,_,rfl,rfl,_,rfl,_,_,rfl,rfl,_,rfl,l,_,rfl,.inl (SqL.of elw),_,_,rfl,rfl,_,rfl,?_⟩
    by_cases few:rest.length<=i
    ·rw[decide_eq_true (show ((ws.map V.str).length:Int)<=(a:Int)+1+(0+(i:Int)) by rw[vZ];omega)]
     refine aE ⟨_,rfl,l,_,rfl,.inl (SqL.of elw),bad (b:=a+1+rest.length) k4 (by rw[vZ];omega) (rh hw0 ?_ nb (by omega))⟩
     rw[en,xB (by rw[wG];omega)]
    rw[decide_eq_false (show ¬ ((ws.map V.str).length:Int)<=(a:Int)+1+(0+(i:Int)) by rw[vZ];omega)]
    have ir:i<rest.length:=by omega
    have ex:rest[i]? = some rest[i]:=wt ir
    have exc:(rest.take (cnt w0))[i]? = some rest[i]:=by rw[yK li,ex]
    have hx:=hrest i _ ex
    have lx:=wr _ (xX ir)
    have lit:i<(rest.take (cnt w0)).length:=by rw[wG];omega
    generalize rest[i]=x at ex exc hx lx
    refine aK ⟨_,rfl,.inl ⟨rfl,_,SqL.of el4⟩,_,rfl,_,rfl,_,_,rfl,rfl,_,rfl,_,_,rfl,rfl,l,_,_,.str x,rfl,rfl,SqL.of elw,hx,dq.mpr ⟨x,39,rfl,wy lx (by decide),by decide,lp,_,_,rfl,rfl,el4,?_,?_⟩⟩
    ·rw[vZ];exact sz' (by omega)
    have e5:upd H4 lp (.lst (ns.map iv++[.int (nl (num x 39))])) lp=some (.lst (ns.map iv++[.int (nl (num x 39))])):=ae
    have k5:∀q o,q≠lp->H3 q=some o->upd H4 lp (.lst (ns.map iv++[.int (nl (num x 39))])) q=some o:=λq o nq e=>by rw[ax nq];exact k4 q o nq e
    generalize upd H4 lp (.lst (ns.map iv++[.int (nl (num x 39))]))=H5 at e5 k5
    refine ⟨_,rfl,_,rfl,lp,_,_,.int (nl (num x 39)),rfl,rfl,SqL.of e5,?_,_,_,rfl,rfl,_,rfl,?_⟩
    ·rw[show (0+(i:Int))=((ns.map iv).length:Nat) by rw[vZ,ln];omega]
     exact bf (by rw[yC (wm _),Nat.sub_self];rfl)
    cases hn:num x 39 with
    | none =>
     rw[decide_eq_true (show nl none<0 from (i0 _).mpr rfl)]
     exact aE (aE ⟨_,rfl,_,_,rfl,rfl,_,rfl,_,_,rfl,rfl,bad (b:=a+1+i) k5 (by omega) (nV hw0 exc en nb hn)⟩)
    | some m =>
    rw[hn] at e5
    obtain ⟨ex1,lx1⟩:=bh.mp hn
    have e5:H5 lp=some (.lst ((ns++[m]).map iv)):=by rw[e5,we];rfl
    have en':(ns++[m]).map aN=(rest.take (cnt w0)).take (i+1):=by rw[we,en,xy,exc,ex1];rfl
    have nb':∀k∈ns++[m],k<=39:=λk hk=>by
     rcases wK.mp hk with y | y
     ·exact nb k y
     ·rw[wo.mp y];omega
    rw[decide_eq_false (show ¬ (nl (some m)<0) from λy=>nomatch (i0 _).mp y)]
    refine aK ⟨_,rfl,rfl,_,rfl,?_⟩
    by_cases i1:i=1
    ·rw[decide_eq_true (show V.int (0+(i:Int))=V.int 1 by rw[i1];rfl)]
     obtain ⟨n0,rfl⟩:∃n0,ns=[n0]:=by
      match ns,ln with
      | [n0],_=>exact ⟨n0,rfl⟩
      | [],h=>rw[i1] at h;cases h
      | _ :: _ :: _,h=>rw[i1] at h;cases h
     refine aE ⟨_,rfl,lp,_,0,iv n0,rfl,rfl,SqL.of e5,rfl,_,rfl,lp,_,1,iv m,rfl,rfl,SqL.of e5,rfl,_,_,rfl,rfl,_,rfl,?_⟩
     by_cases fall:(m:Int)<=(n0:Int)
     ·rw[decide_eq_true fall]
      exact aE ⟨_,rfl,_,_,rfl,rfl,_,rfl,_,_,rfl,rfl,bad (b:=a+1+i) k5 (by omega) (nW hw0 en' lit nb' (decide_eq_false (by omega)))⟩
     rw[decide_eq_false fall]
     exact aK ⟨⟨_,rfl⟩,k5,[n0]++[m],e5,by rw[wc,ln];rfl,en',nb',decide_eq_true (by omega)⟩
    rw[decide_eq_false (show ¬ V.int (0+(i:Int))=V.int 1 from λy=>i1 (by
     have:=V.int.inj y
     omega))]
    have ns0:ns=[]:=xH.mp (by omega)
    exact aK (aK ⟨⟨_,rfl⟩,k5,ns++[m],e5,by rw[wc,ln];rfl,en',nb',by rw[ns0];rfl⟩)
   ·rintro σ H4 ⟨⟨c4,rfl⟩,k4,ns,el4,ln,en,nb,hr4⟩
    have lns:=congrArg List.length en
    rw[vZ,wG,wG] at lns
    have en2:ns.map aN=rest.take (cnt w0):=by rw[en,xB (by rw[wG];omega)]
    have hs:=nX (a:=a) hw0 en2 nb hr4 (by omega)
    refine ⟨_,rfl,_,_,rfl,rfl,_,rfl,_,_,rfl,rfl,_,rfl,lp,_,rfl,.inl (SqL.of el4),_,_,rfl,rfl,⟨a+1+ns.length,k,n+1,some (.ref lp),c4,?_,by omega,by omega,by omega,s1.trans λq o e=>k4 q o (av e hlp1) (s13 _ _ e),?_⟩,?_⟩
    ·rw[vZ];rfl
    ·rw[eb,lK h3 hs,dr2,Nat.add_comm 1,List.drop_succ_cons]
    ·show 2000000-((a:Int)+1+((ns.map iv).length:Nat)).toNat<2000000-((a:Nat):Int).toNat
     rw[vZ]
     omega
  ·have al:a=ws.length:=by
    apply xE
    intro h
    apply z
    apply decide_eq_true
    rw[vZ]
    omega
   subst al
   rw[xP] at eb
   have:=q _ s1
   rw[bw,eb,show dO k ws.length n []=none by cases k <;> rfl] at this
   exact this
 ·rintro σ H Q Q' h ⟨v,e,w,e',p,xs,h1,h2,i,j,h3,h4,b,h5,y⟩
  exact ⟨v,e,w,e',p,xs,h1,h2,i,j,h3,h4,b,h5,h _ _ y⟩
end
open PySem L2
noncomputable def l9 (k:Nat)(z:Str):Option Nat:=match k with
 | 0=>cM "web" 45 (Txt.split z " ")
 | 1=>cM "ways" 62 (Txt.split z " ")
 | 2=>fR (Txt.split z " ")
 | _=>fS (Txt.split z " ")
def pP (z:Str):Option Nat->V
 | none =>.str z
 | some n=>iv n
abbrev rz:Sp:=λvs H Q _=>∃(k:Nat) (z:Str),vs=[iv k,.str z]/\k<4/\z.length<=1900000/\∀H',aA H H'->Q (pP z (l9 k z)) H'
@[irreducible] def oh:Sp:=rz
theorem cH {vs:List V}{H:Hp}{Q:VK}{E:XK}:oh vs H Q E↔rz vs H Q E:=by
 delta oh
 exact xr
section
variable  {P:wx}{w:wZ}{K:v5}{mg:Str->Option v8}{base:Heap}{f T:Addr}{fd:wR}
theorem i5:aJ ["kind", "text", "words", "bad"] ["kind", "text"] (au qQ):=⟨rfl,rfl,rfl,by decide +kernel,rfl,by decide +kernel,by decide +kernel⟩
theorem vc (F:Fun K "_law_due" "_law_due" qQ f fd)(B:Blt mg)(cLBadPairs:Cal P w K mg base 3 "_law_bad_pairs" ["words", "head", "sign"] n6)(cLBadRow:Cal P w K mg base 2 "_law_bad_row" ["words"] n8)(cLBadLog:Cal P w K mg base 2 "_law_bad_log" ["words"] og)(C:Cst mg):aW P w K mg base CX0 4 f fd ["kind", "text"] oh:=by
 refine F.ok i5 (λvs H Q E h =>?_) (λcdv A outer s H vs Q E hr h =>?_)
 ·obtain ⟨_,_,rfl,_⟩:=cH.mp h
  rfl
 obtain ⟨k,z,rfl,k4,lz,q⟩:=cH.mp h
 refine ⟨_,(@ag _ _ _ _ _ (@ay _ _ 2 _ _ _ _ i5.nd rfl (Or.inl rfl) (df xI yZ iu (pv 1) (@aa _ _ _ _ _ aq af rfl)) rfl (by first | exact .inl rfl | exact .inr rfl | assumption))
  (@ag _ _ _ _ _ (@aP _ _ _ _ _ _ _ _ (ak dM (pv 0) ai (ar _)) (@aj _ _ _ (@ay _ _ 3 _ _ _ _ i5.nd rfl (Or.inl rfl) (aG cLBadPairs hr (by decide) rfl (@aa _ _ _ _ _ (pv 2) (@aa _ _ _ _ _ (@aO _ _ _ _ _ _ _ aI (@aQ _ _ _ _ (@aa _ _ _ _ _ aq (@aa _ _ _ _ _ aq af rfl) rfl)) (pv 0) (λ_ _=>rfl)) (@aa _ _ _ _ _ (@aO _ _ _ _ _ _ _ jZ aq (pv 0) (λ_ _=>rfl)) af rfl) rfl) rfl)) rfl (by first | exact .inl rfl | exact .inr rfl | assumption))) (@aj _ _ _ (@aP _ _ _ _ _ _ _ _ (ak aZ (pv 0) ai (ar _)) (@aj _ _ _ (@ay _ _ 3 _ _ _ _ i5.nd rfl (Or.inl rfl) (aG cLBadRow hr (by decide) rfl (@aa _ _ _ _ _ (pv 2) af rfl)) rfl (by first | exact .inl rfl | exact .inr rfl | assumption))) (@aj _ _ _ (@ay _ _ 3 _ _ _ _ i5.nd rfl (Or.inl rfl) (aG cLBadLog hr (by decide) rfl (@aa _ _ _ _ _ (pv 2) af rfl)) rfl (by first | exact .inl rfl | exact .inr rfl | assumption))))))
  (@ag _ _ _ _ _ (@aP _ _ _ _ _ _ _ _ (ak dW (pv 3) bo (ar _)) (@aj _ _ _ (@az _ _ _ _ (pv 1))) aB)
  (@aj _ _ _ (@az _ _ _ _ (pv 3)))))),?_⟩
 have e1:=yF z " " 0 z.length (z.length+1)
 have le:=split_len z
 have ne:=eL z
 have wl:∀w∈Txt.split z " ",w.length<=1900000:=λw hw=>wy (fv z w hw) lz
 have le:(Txt.split z " ").length<=1900001:=by omega
 refine ⟨_,rfl,⟨_,rfl⟩,z, " ",rfl,rfl,rfl,sz (by omega),?_,λl hl =>?_⟩
 ·rw[zB]
  exact wy (show _<=2000002 by omega) (by decide)
 have g1:=ah hl (.lst ((Txt.split z " ").map V.str))
 have el:upd H l (.lst ((Txt.split z " ").map V.str)) l=some (.lst ((Txt.split z " ").map V.str)):=ae
 generalize upd H l (.lst ((Txt.split z " ").map V.str))=H1 at g1 el
 match k,k4 with
 | 0,_ =>
  refine ⟨_,rfl,_,_,rfl,rfl,_,rfl,?_⟩
  rw[decide_eq_true (show ((0:Nat):Int)<2 by decide)]
  refine aE ⟨_,rfl,(by show 2<=wa;decide),λl2 hl2 =>?_⟩
  have g2:=ah hl2 (.lst [.str "web",.str "ways"])
  have e2:upd H1 l2 (.lst [.str "web",.str "ways"]) l2=some (.lst [.str "web",.str "ways"]):=ae
  have el2:=g2 _ _ el
  have s2:=g1.trans g2
  generalize upd H1 l2 (.lst [.str "web",.str "ways"])=H2 at g2 e2 el2 s2
  refine ⟨_,rfl,l2,_,0,.str "web",rfl,rfl,SqL.of e2,rfl,_,rfl, "->",0,45,rfl,rfl,(by decide),(by decide +kernel),eO.mpr ⟨l,_, "web",45,rfl,.inl rfl,el2,ne,le,wl,λH3 s3 =>?_⟩⟩
  have q:∀H',aA H H'->Q (pP z (cM "web" 45 (Txt.split z " "))) H':=q
  have s3:=s2.trans s3
  cases hb:cM "web" 45 (Txt.split z " ") with
  | none=>rw[hb] at q;exact ⟨_,rfl,rfl,_,rfl,aE ⟨_,rfl,q _ s3⟩⟩
  | some n=>rw[hb] at q;exact ⟨_,rfl,rfl,_,rfl,aK ⟨_,rfl,q _ s3⟩⟩
 | 1,_ =>
  refine ⟨_,rfl,_,_,rfl,rfl,_,rfl,?_⟩
  rw[decide_eq_true (show ((1:Nat):Int)<2 by decide)]
  refine aE ⟨_,rfl,(by show 2<=wa;decide),λl2 hl2 =>?_⟩
  have g2:=ah hl2 (.lst [.str "web",.str "ways"])
  have e2:upd H1 l2 (.lst [.str "web",.str "ways"]) l2=some (.lst [.str "web",.str "ways"]):=ae
  have el2:=g2 _ _ el
  have s2:=g1.trans g2
  generalize upd H1 l2 (.lst [.str "web",.str "ways"])=H2 at g2 e2 el2 s2
  refine ⟨_,rfl,l2,_,1,.str "ways",rfl,rfl,SqL.of e2,rfl,_,rfl, "->",1,62,rfl,rfl,(by decide),(by decide +kernel),eO.mpr ⟨l,_, "ways",62,rfl,.inr rfl,el2,ne,le,wl,λH3 s3 =>?_⟩⟩
  have q:∀H',aA H H'->Q (pP z (cM "ways" 62 (Txt.split z " "))) H':=q
  have s3:=s2.trans s3
  cases hb:cM "ways" 62 (Txt.split z " ") with
  | none=>rw[hb] at q;exact ⟨_,rfl,rfl,_,rfl,aE ⟨_,rfl,q _ s3⟩⟩
  | some n=>rw[hb] at q;exact ⟨_,rfl,rfl,_,rfl,aK ⟨_,rfl,q _ s3⟩⟩
 | 2,_ =>
  refine ⟨_,rfl,_,_,rfl,rfl,_,rfl,?_⟩
  rw[decide_eq_false (show ¬ ((2:Nat):Int)<2 by decide)]
  refine aK ⟨_,rfl,rfl,_,rfl,?_⟩
  rw[decide_eq_true (show V.int ((2:Nat):Int)=V.int 2 from rfl)]
  refine aE ⟨_,rfl,gC.mpr ⟨l,_,rfl,el,ne,le,wl,λH3 s3 =>?_⟩⟩
  have q:∀H',aA H H'->Q (pP z (fR (Txt.split z " "))) H':=q
  have s3:=g1.trans s3
  cases hb:fR (Txt.split z " ") with
  | none=>rw[hb] at q;exact ⟨_,rfl,rfl,_,rfl,aE ⟨_,rfl,q _ s3⟩⟩
  | some n=>rw[hb] at q;exact ⟨_,rfl,rfl,_,rfl,aK ⟨_,rfl,q _ s3⟩⟩
 | 3,_ =>
  refine ⟨_,rfl,_,_,rfl,rfl,_,rfl,?_⟩
  rw[decide_eq_false (show ¬ ((3:Nat):Int)<2 by decide)]
  refine aK ⟨_,rfl,rfl,_,rfl,?_⟩
  rw[decide_eq_false (show ¬ V.int ((3:Nat):Int)=V.int 2 from λy=>absurd (V.int.inj y) (by decide))]
  refine aK ⟨_,rfl,gD.mpr ⟨l,_,rfl,el,ne,le,wl,λH3 s3 =>?_⟩⟩
  have q:∀H',aA H H'->Q (pP z (fS (Txt.split z " "))) H':=q
  have s3:=g1.trans s3
  cases hb:fS (Txt.split z " ") with
  | none=>rw[hb] at q;exact ⟨_,rfl,rfl,_,rfl,aE ⟨_,rfl,q _ s3⟩⟩
  | some n=>rw[hb] at q;exact ⟨_,rfl,rfl,_,rfl,aK ⟨_,rfl,q _ s3⟩⟩
 | k+4,h=>exact absurd h (by omega)
end
theorem vd {m:Int}(h0:0<m)(h1:m<=3000000):Wd m:=xc (show m.natAbs<=3000000 by omega) (by decide +kernel)
theorem ve {L:List Str}{d:Int}(d0:0<=d)(d1:d<(L.length:Int)):∃z,z∈L/\atI (L.map V.str) d=some (.str z):=by
 obtain ⟨n,rfl⟩:∃n:Nat,d=n:=⟨d.toNat,by omega⟩
 have h:n<L.length:=by omega
 exact ⟨L[n],xX h,bf (by rw[w5,wt h];rfl)⟩
def dI:List Str:=["web", "ways", "lone", "two", "loop", "many", "-", "", "0", "1", "2", "00", "01", "+1", "-1", "1.", "39"]
def dP:List Str:=["40", "41", "1-2", "2-1", "0-0", "1>2", "2>1", "0>0", "1-2-3", "1->2", "-2", "3-", "39-39"]
def jm:List Str:=["39>39", "40-40", "Web", "lones",nT ((10:Int) ^ (60:Int).toNat),nT ((10:Int) ^ (60:Int).toNat+1),Txt.mul "9" 61,Txt.mul "9" 1000]
theorem tN:∀w∈dI++dP++jm,w.length<=1000:=by decide +kernel
theorem tO:MulOk "9" 61:=⟨by decide,λ_ _=>by decide,λ_ _=>by decide⟩
theorem tP:MulOk "9" 1000:=⟨by decide,λ_ _=>by decide,λ_ _=>by decide⟩
abbrev rA:Sp:=λvs H Q _=>∃(p:Addr),vs=[.ref p]/\Pt 1 H p/\∀(z:Str) (H':Hp),Bu 1 p H H'->z.length<=1000->Q (.str z) H'
@[irreducible] def oi:Sp:=rA
theorem cm {vs:List V}{H:Hp}{Q:VK}{E:XK}:oi vs H Q E↔rA vs H Q E:=by
 delta oi
 exact xr
section
variable  {P:wx}{w:wZ}{K:v5}{mg:Str->Option v8}{base:Heap}{f T:Addr}{fd:wR}
theorem kJ:aJ ["pot", "words"] ["pot"] (au qP):=⟨rfl,rfl,rfl,by decide +kernel,rfl,by decide +kernel,by decide +kernel⟩
theorem vf (F:Fun K "_law_odd" "_law_odd" qP f fd)(B:Blt mg)(cLTake:Cal P w K mg base 1 "_law_take" ["pot", "many"] er)(C:Cst mg):aW P w K mg base CX0 2 f fd ["pot"] oi:=by
 refine F.ok kJ (λvs H Q E h =>?_) (λcdv A outer s H vs Q E hr h =>?_)
 ·obtain ⟨_,rfl,_⟩:=cm.mp h
  rfl
 obtain ⟨p,rfl,hp,q⟩:=cm.mp h
 refine ⟨_,(@ag _ _ _ _ _ (@ay _ _ 1 _ _ _ _ kJ.nd rfl (Or.inl rfl) (@aQ _ _ _ _ (@aa _ _ _ _ _ aq (@aa _ _ _ _ _ aq (@aa _ _ _ _ _ aq (@aa _ _ _ _ _ aq (@aa _ _ _ _ _ aq (@aa _ _ _ _ _ aq (@aa _ _ _ _ _ aq (@aa _ _ _ _ _ aq (@aa _ _ _ _ _ aq (@aa _ _ _ _ _ aq (@aa _ _ _ _ _ aq (@aa _ _ _ _ _ aq (@aa _ _ _ _ _ aq (@aa _ _ _ _ _ aq (@aa _ _ _ _ _ aq (@aa _ _ _ _ _ aq (@aa _ _ _ _ _ aq af rfl) rfl) rfl) rfl) rfl) rfl) rfl) rfl) rfl) rfl) rfl) rfl) rfl) rfl) rfl) rfl) rfl)) rfl (by first | exact .inl rfl | exact .inr rfl | assumption))
  (@ag _ _ _ _ _ (@ay _ _ 1 _ _ _ _ kJ.nd rfl (Or.inl rfl) (@aH _ _ _ _ _ _ _ _ cE (pv 1) (@aQ _ _ _ _ (@aa _ _ _ _ _ aq (@aa _ _ _ _ _ aq (@aa _ _ _ _ _ aq (@aa _ _ _ _ _ aq (@aa _ _ _ _ _ aq (@aa _ _ _ _ _ aq (@aa _ _ _ _ _ aq (@aa _ _ _ _ _ aq (@aa _ _ _ _ _ aq (@aa _ _ _ _ _ aq (@aa _ _ _ _ _ aq (@aa _ _ _ _ _ aq (@aa _ _ _ _ _ aq af rfl) rfl) rfl) rfl) rfl) rfl) rfl) rfl) rfl) rfl) rfl) rfl) rfl))) rfl (by first | exact .inl rfl | exact .inr rfl | assumption))
  (@ag _ _ _ _ _ (@ay _ _ 1 _ _ _ _ kJ.nd rfl (Or.inl rfl) (@aH _ _ _ _ _ _ _ _ cE (pv 1) (@aQ _ _ _ _ (@aa _ _ _ _ _ aq (@aa _ _ _ _ _ aq (@aa _ _ _ _ _ aq (@aa _ _ _ _ _ aq (@aa _ _ _ _ _ (aL aY rfl B.b_str cz (@aa _ _ _ _ _ (@aH _ _ _ _ _ _ _ _ fc ai ai) af rfl)) (@aa _ _ _ _ _ (aL aY rfl B.b_str cz (@aa _ _ _ _ _ (@aH _ _ _ _ _ _ _ _ aX (@aH _ _ _ _ _ _ _ _ fc ai ai) ai) af rfl)) (@aa _ _ _ _ _ (@aH _ _ _ _ _ _ _ _ nF aq ai) (@aa _ _ _ _ _ (@aH _ _ _ _ _ _ _ _ nF aq ai) af rfl) rfl) rfl) rfl) rfl) rfl) rfl) rfl))) rfl (by first | exact .inl rfl | exact .inr rfl | assumption))
  (@aj _ _ _ (@az _ _ _ _ (@aO _ _ _ _ _ _ _ aI (pv 1) (aG cLTake hr (by decide) rfl (@aa _ _ _ _ _ (pv 0) (@aa _ _ _ _ _ (aD aw rfl B.b_len aU (@aa _ _ _ _ _ (pv 1) af rfl)) af rfl) rfl)) (λ_ _=>rfl))))))),?_⟩
 refine ⟨(by show 17<=wa;decide),λl1 hl1 =>?_⟩
 have s1:=ah hl1 (.lst (dI.map V.str))
 have e1:upd H l1 (.lst (dI.map V.str)) l1=some (.lst (dI.map V.str)):=ae
 refine ⟨_,rfl,(by show 13<=wa;decide),λl2 hl2 =>?_⟩
 have g2:=ah hl2 (.lst (dP.map V.str))
 have e2:upd (upd H l1 (.lst (dI.map V.str))) l2 (.lst (dP.map V.str)) l2=some (.lst (dP.map V.str)):=ae
 have e1:=g2 _ _ e1
 have s2:=s1.trans g2
 refine ⟨l1,l2,dI.map V.str,dP.map V.str,rfl,rfl,SqL.of e1,SqL.of e2,(by show 17+13<=wa;decide),λl3 hl3 =>?_⟩
 have g3:=ah hl3 (.lst ((dI++dP).map V.str))
 have e3:upd (upd (upd H l1 (.lst (dI.map V.str))) l2 (.lst (dP.map V.str))) l3 (.lst ((dI++dP).map V.str)) l3=some (.lst ((dI++dP).map V.str)):=ae
 have s3:=s2.trans g3
 refine ⟨_,rfl,_,_,rfl,rfl,⟨by decide,by decide,by decide⟩,_,rfl,by decide +kernel,?_⟩
 refine ⟨_,_,rfl,rfl,⟨by decide,by decide,by decide⟩,_,_,rfl,rfl,_,rfl,by decide +kernel,?_⟩
 refine ⟨_,_,rfl,rfl,tO,_,_,rfl,rfl,tP,(by show 8<=wa;decide),λl4 hl4 =>?_⟩
 have g4:=ah hl4 (.lst (jm.map V.str))
 have e4:upd (upd (upd (upd H l1 (.lst (dI.map V.str))) l2 (.lst (dP.map V.str))) l3 (.lst ((dI++dP).map V.str))) l4 (.lst (jm.map V.str)) l4=some (.lst (jm.map V.str)):=ae
 have s4:=s3.trans g4
 refine ⟨l3,l4,(dI++dP).map V.str,jm.map V.str,rfl,rfl,SqL.of (g4 _ _ e3),SqL.of e4,(by show 30+8<=wa;decide),λl5 hl5 =>?_⟩
 have g5:=ah hl5 (.lst ((dI++dP++jm).map V.str))
 have e5:upd (upd (upd (upd (upd H l1 (.lst (dI.map V.str))) l2 (.lst (dP.map V.str))) l3 (.lst ((dI++dP).map V.str))) l4 (.lst (jm.map V.str))) l5 (.lst ((dI++dP++jm).map V.str)) l5=some (.lst ((dI++dP++jm).map V.str)):=ae
 have s5:=s4.trans g5
 have b5:=(Bu.refl hp).same s5
 have n5:l5≠p:=λz=>by
  obtain ⟨xs,_,e⟩:=((Bu.refl hp).same s4).pot
  rw[z] at hl5
  exact nomatch (show none=some _ from hl5.symm.trans e)
 refine ⟨_,rfl,_,rfl,_,rfl,l5,_,rfl,.inl (SqL.of e5),aF.mpr ⟨p,38,rfl,b5.pot,by decide,aR (by decide) (by decide),λd H6 d0 d1 b6 =>?_⟩⟩
 obtain ⟨z,hz,ez⟩:=ve (L:=dI++dP++jm) d0 d1
 exact ⟨l5,_,d,_,rfl,rfl,SqL.of (b6.st _ _ n5 e5),ez,q z _ (b5.trans b6) (tN z hz)⟩
end
open PySem L2
theorem rB {k:Nat}(h:k<2):∃c,atI ("->" : Str).cps.toList (k:Int)=some c:=by
 match k,h with
 | 0,_=>exact ⟨45,rfl⟩
 | 1,_=>exact ⟨62,rfl⟩
 | k+2,h=>exact absurd h (by omega)
theorem tQ {k:Nat}(h:k<2):∃z:Str,atI [V.str "web",V.str "ways"] (k:Int)=some (.str z)/\z.length<=1000:=by
 match k,h with
 | 0,_=>exact ⟨_,rfl,by decide⟩
 | 1,_=>exact ⟨_,rfl,by decide⟩
 | k+2,h=>exact absurd h (by omega)
theorem oj (g:Bool)(x y:V):atI [x,y] (if g=true then 1 else 0)=some (if g=true then y else x):=by cases g <;> rfl
theorem at3 {x y z:V}{d:Int}(d0:0<=d)(d1:d<3):∃v,atI [x,y,z] d=some v/\(v=x\/v=y\/v=z):=by
 obtain rfl | rfl | rfl:d=0\/d=1\/d=2:=by omega
 ·exact ⟨_,rfl,.inl rfl⟩
 ·exact ⟨_,rfl,.inr (.inl rfl)⟩
 ·exact ⟨_,rfl,.inr (.inr rfl)⟩
theorem at2 {x y:V}{d:Int}(d0:0<=d)(d1:d<2):∃v,atI [x,y] d=some v/\(v=x\/v=y):=by
 obtain rfl | rfl:d=0\/d=1:=by omega
 ·exact ⟨_,rfl,.inl rfl⟩
 ·exact ⟨_,rfl,.inr rfl⟩
theorem i7 {i:Int}(h0:0<=i)(h1:i<=10 ^ 60):i.natAbs.log2<1920/\(nT i).length<=61:=by
 obtain ⟨n,rfl⟩:∃n:Nat,i=n:=⟨i.toNat,by omega⟩
 have h:n<=10 ^ 60:=by omega
 exact ⟨lg h,cW h⟩
theorem kK {n:Nat}{p l:Addr}{H H':Hp}(b:Bu n p H H')(np:l≠p)(h:H' l=none):H l=none:=by
 cases e:H l with
 | none=>rfl
 | some o=>rw[b.st _ _ np e] at h;cases h
def Wds (ws:List Str)(n:Nat):Prop:=ws.length<=n/\∀w∈ws,w.length<=1000
theorem Wds.add {ws us:List Str}{n m:Nat}(h:Wds ws n)(h1:∀w∈us,w.length<=1000)(h2:n+us.length<=m):Wds (ws++us) m :=
 ⟨by rw[wc];have:=h.1;omega,λw hw=>(wK.mp hw).elim (h.2 w) (h1 w)⟩
abbrev ma:Sp:=λvs H Q _=>∃(p:Addr) (k:Nat),vs=[.ref p,iv k]/\Pt 1 H p/\k<4/\∀(l:Addr) (ws:List Str) (H':Hp),Bu 1 p H H'->l≠p->H' l=some (.lst (ws.map V.str))->Wds ws 900->Q (.ref l) H'
@[irreducible] def gY:Sp:=ma
theorem eC {vs:List V}{H:Hp}{Q:VK}{E:XK}:gY vs H Q E↔ma vs H Q E:=by
 delta gY
 exact xr
section
variable  {P:wx}{w:wZ}{K:v5}{mg:Str->Option v8}{base:Heap}{f T:Addr}{fd:wR}
theorem bO:aJ ["pot", "kind", "great", "many", "sign", "words", "k", "j", "number"] ["pot", "kind"] (au kx):=⟨rfl,rfl,rfl,by decide +kernel,rfl,by decide +kernel,by decide +kernel⟩
theorem rC (F:Fun K "_law_words" "_law_words" kx f fd)(B:Blt mg)(cLTake:Cal P w K mg base 1 "_law_take" ["pot", "many"] er)(C:Cst mg):aW P w K mg base CX0 2 f fd ["pot", "kind"] gY:=by
 refine F.ok bO (λvs H Q E h =>?_) (λcdv A outer s H vs Q E hr h =>?_)
 ·obtain ⟨_,_,rfl,_⟩:=eC.mp h
  rfl
 obtain ⟨p,k,rfl,hp,k4,q⟩:=eC.mp h
 refine ⟨_,(@ag _ _ _ _ _ (@ay _ _ 2 _ _ _ _ bO.nd rfl (Or.inl rfl) (bP aZ (aG cLTake hr (by decide) rfl (@aa _ _ _ _ _ (pv 0) (@aa _ _ _ _ _ ai af rfl) rfl)) ai (ar _)) rfl (by first | exact .inl rfl | exact .inr rfl | assumption))
  (@ag _ _ _ _ _ (@aP _ _ _ _ _ _ _ _ (ak dM (pv 1) ai (ar _)) (@ag _ _ _ _ _ (@ay _ _ 3 _ _ _ _ bO.nd rfl (Or.inl rfl) (@aO _ _ _ _ _ _ _ aI (@aQ _ _ _ _ (@aa _ _ _ _ _ (@aH _ _ _ _ _ _ _ _ aX ai (aG cLTake hr (by decide) rfl (@aa _ _ _ _ _ (pv 0) (@aa _ _ _ _ _ ai af rfl) rfl))) (@aa _ _ _ _ _ ai af rfl) rfl)) (aL cF rfl B.b_int dh (@aa _ _ _ _ _ (pv 2) af rfl)) (λ_ _=>rfl)) rfl (by first | exact .inl rfl | exact .inr rfl | assumption))
   (@ag _ _ _ _ _ (@ay _ _ 4 _ _ _ _ bO.nd rfl (Or.inl rfl) (@aO _ _ _ _ _ _ _ jZ aq (pv 1) (λ_ _=>rfl)) rfl (by first | exact .inl rfl | exact .inr rfl | assumption))
   (@ag _ _ _ _ _ (@ay _ _ 5 _ _ _ _ bO.nd rfl (Or.inl rfl) (@aQ _ _ _ _ (@aa _ _ _ _ _ (@aO _ _ _ _ _ _ _ aI (@aQ _ _ _ _ (@aa _ _ _ _ _ aq (@aa _ _ _ _ _ aq af rfl) rfl)) (pv 1) (λ_ _=>rfl)) (@aa _ _ _ _ _ (aL aY rfl B.b_str cz (@aa _ _ _ _ _ (pv 3) af rfl)) af rfl) rfl)) rfl (by first | exact .inl rfl | exact .inr rfl | assumption))
   (@ag _ _ _ _ _ (@bY _ _ _ _ _ _ _ _ xt rfl (cf rfl B.b_range (@aa _ _ _ _ _ (pv 3) af rfl)) (aV (i:=6) bO.nd rfl (Or.inl rfl))
    (@aj _ _ _ (@bY _ _ _ _ _ _ _ _ xt rfl (jq rfl B.b_range (@aa _ _ _ _ _ (pv 6) (@aa _ _ _ _ _ (pv 3) af rfl) rfl)) (aV (i:=7) bO.nd rfl (Or.inl rfl))
     (@aj _ _ _ (@aP _ _ _ _ _ _ _ _ (PW.pt (cZ (ak dM (aD aw rfl B.b_len aU (@aa _ _ _ _ _ (pv 5) af rfl)) ai (ar _)) (cB (PW.pt (bW (cY (pv 2)) (bS (ak aZ (aG cLTake hr (by decide) rfl (@aa _ _ _ _ _ (pv 0) (@aa _ _ _ _ _ ai af rfl) rfl)) ai (ar _)))))))) (@aj _ _ _ (bX (eU xa xk xl bT (pv 5) (@aa _ _ _ _ _ (@aH _ _ _ _ _ _ _ _ dv (@aH _ _ _ _ _ _ _ _ dv (aL aY rfl B.b_str cz (@aa _ _ _ _ _ (pv 6) af rfl)) (pv 4)) (aL aY rfl B.b_str cz (@aa _ _ _ _ _ (pv 7) af rfl))) af rfl)))) aB)) (λ_=>rfl))) (λ_=>rfl))
   (@aj _ _ _ (@az _ _ _ _ (pv 5))))))) aB)
  (@ag _ _ _ _ _ (@ay _ _ 5 _ _ _ _ bO.nd rfl (Or.inl rfl) (@aQ _ _ _ _ af) rfl (by first | exact .inl rfl | exact .inr rfl | assumption))
  (@ag _ _ _ _ _ (@bY _ _ _ _ _ _ _ _ xt rfl (cf rfl B.b_range (@aa _ _ _ _ _ (@aO _ _ _ _ _ _ _ aI (@aQ _ _ _ _ (@aa _ _ _ _ _ (aG cLTake hr (by decide) rfl (@aa _ _ _ _ _ (pv 0) (@aa _ _ _ _ _ ai af rfl) rfl)) (@aa _ _ _ _ _ (@aO _ _ _ _ _ _ _ aI (@aQ _ _ _ _ (@aa _ _ _ _ _ ai (@aa _ _ _ _ _ ai af rfl) rfl)) (@aH _ _ _ _ _ _ _ _ gh (pv 1) ai) (λ_ _=>rfl)) af rfl) rfl)) (aL cF rfl B.b_int dh (@aa _ _ _ _ _ (pv 2) af rfl)) (λ_ _=>rfl)) af rfl)) (aV (i:=6) bO.nd rfl (Or.inl rfl))
   (@ag _ _ _ _ _ (@ay _ _ 8 _ _ _ _ bO.nd rfl (Or.inl rfl) (aG cLTake hr (by decide) rfl (@aa _ _ _ _ _ (pv 0) (@aa _ _ _ _ _ ai af rfl) rfl)) rfl (by first | exact .inl rfl | exact .inr rfl | assumption))
   (@aj _ _ _ (@aP _ _ _ _ _ _ _ _ (ak aZ (pv 1) ai (ar _)) (@aj _ _ _ (bX (eU xa xk xl bT (pv 5) (@aa _ _ _ _ _ (aL aY rfl B.b_str cz (@aa _ _ _ _ _ (@aH _ _ _ _ _ _ _ _ gi (pv 8) (@aO _ _ _ _ _ _ _ aI (@aQ _ _ _ _ (@aa _ _ _ _ _ ai (@aa _ _ _ _ _ (@aH _ _ _ _ _ _ _ _ fc ai ai) af rfl) rfl)) (aG cLTake hr (by decide) rfl (@aa _ _ _ _ _ (pv 0) (@aa _ _ _ _ _ ai af rfl) rfl)) (λ_ _=>rfl))) af rfl)) af rfl)))) (@aj _ _ _ (@aP _ _ _ _ _ _ _ _ (ak aZ (aG cLTake hr (by decide) rfl (@aa _ _ _ _ _ (pv 0) (@aa _ _ _ _ _ ai af rfl) rfl)) ai (ar _)) (@aj _ _ _ (bX (eU xa zQ zR jw (pv 5) (@aa _ _ _ _ _ (@aQ _ _ _ _ (@aa _ _ _ _ _ aq (@aa _ _ _ _ _ (aL aY rfl B.b_str cz (@aa _ _ _ _ _ (pv 8) af rfl)) (@aa _ _ _ _ _ aq af rfl) rfl) rfl)) af rfl)))) (@aj _ _ _ (bX (eU xa zQ zR jw (pv 5) (@aa _ _ _ _ _ (@aQ _ _ _ _ (@aa _ _ _ _ _ (@aO _ _ _ _ _ _ _ aI (@aQ _ _ _ _ (@aa _ _ _ _ _ aq (@aa _ _ _ _ _ aq (@aa _ _ _ _ _ aq af rfl) rfl) rfl)) (aG cLTake hr (by decide) rfl (@aa _ _ _ _ _ (pv 0) (@aa _ _ _ _ _ ai af rfl) rfl)) (λ_ _=>rfl)) (@aa _ _ _ _ _ (aL aY rfl B.b_str cz (@aa _ _ _ _ _ (pv 8) af rfl)) af rfl) rfl)) af rfl))))))))) (λ_=>rfl))
  (@aj _ _ _ (@az _ _ _ _ (@aO _ _ _ _ _ _ _ aI (@aQ _ _ _ _ (@aa _ _ _ _ _ (pv 5) (@aa _ _ _ _ _ (@aQ _ _ _ _ (@aa _ _ _ _ _ aq af rfl)) af rfl) rfl)) (aL cF rfl B.b_int dh (@aa _ _ _ _ _ (bP (uR hr) (pv 5) (@aQ _ _ _ _ af) (ar _)) af rfl)) (λ_ _=>rfl)))))))),?_⟩
 refine ⟨_,rfl,aF.mpr ⟨p,6,rfl,hp,by decide,aR (by decide) (by decide),λd H1 d0 d1 b1=>⟨rfl,?_⟩⟩⟩
 generalize decide (V.int d=V.int 0)=gr
 refine ⟨_,rfl,_,_,rfl,rfl,_,rfl,?_⟩
 by_cases k2:k<2
 ·rw[decide_eq_true (show (k:Int)<2 by omega)]
  obtain ⟨c,hc⟩:=rB k2
  obtain ⟨hw,ehw,lhw⟩:=tQ k2
  refine aE ⟨_,rfl,aF.mpr ⟨p,9,rfl,b1.pot,by decide,aR (by decide) (by decide),λx H2 x0 x1 b2=>⟨_,_,rfl,rfl,?_⟩⟩⟩
  have b2:=b1.trans b2
  refine ⟨(by show 2<=wa;decide),λl1 hl1 =>?_⟩
  have gl1:=ah hl1 (.lst [.int (1+x),.int 40])
  have el1:upd H2 l1 (.lst [.int (1+x),.int 40]) l1=some (.lst [.int (1+x),.int 40]):=ae
  have b3:=b2.same gl1
  have nl1:l1≠p:=b2.pot.ne hl1
  generalize upd H2 l1 (.lst [.int (1+x),.int 40])=H3 at gl1 el1 b3
  clear gl1
  obtain ⟨m,hm,m0,m1⟩:∃m:Int,(if gr=true then V.int 40 else V.int (1+x))=V.int m/\0<=m/\m<=40:=by
   cases gr
   ·exact ⟨1+x,rfl,by omega,by omega⟩
   ·exact ⟨40,rfl,by omega,by omega⟩
  refine ⟨_,rfl,.inr ⟨_,rfl,l1,_,_,_,rfl,rfl,SqL.of el1,oj gr _ _,?_⟩⟩
  rw[hm]
  refine ⟨_,rfl, "->",_,c,rfl,rfl,(by decide),hc,?_⟩
  refine ⟨(by show 2<=wa;decide),λl2 hl2 =>?_⟩
  have gl2:=ah hl2 (.lst [.str "web",.str "ways"])
  have el2:upd H3 l2 (.lst [.str "web",.str "ways"]) l2=some (.lst [.str "web",.str "ways"]):=ae
  have b4:=b3.same gl2
  have nl2:l2≠p:=b3.pot.ne hl2
  generalize upd H3 l2 (.lst [.str "web",.str "ways"])=H4 at gl2 el2 b4
  clear gl2
  obtain ⟨lm,lnm⟩:=i7 m0 (A8 m1 (by decide))
  refine ⟨_,rfl,l2,_,_,_,rfl,rfl,SqL.of el2,ehw,_,rfl,_,rfl,lm,?_⟩
  refine ⟨(by show 2<=wa;decide),λl hl =>?_⟩
  have gl:=ah hl (.lst [.str hw,.str (nT m)])
  have el:upd H4 l (.lst [.str hw,.str (nT m)]) l=some (.lst [.str hw,.str (nT m)]):=ae
  have b5:=b4.same gl
  have nl:l≠p:=b4.pot.ne hl
  generalize upd H4 l (.lst [.str hw,.str (nT m)])=H5 at gl el b5
  clear gl
  have hl0:=kK b4 nl hl
  refine ⟨_,rfl,m,rfl,by omega,by omega,bH (λi σ H'=>(∃c6 c7 c8,σ=[some (.ref p),some (iv k),some (.bl gr),some (.int m),some (.str ⟨#[c]⟩),some (.ref l),c6,c7,c8])/\Bu 1 p H H'/\∃ws,H' l=some (.lst (ws.map V.str))/\Wds ws 202) ⟨⟨_,_,_,rfl⟩,b5,[hw,nT m],el,(by show 2<=202;decide),λw h =>?_⟩ ?_ ?_⟩
  ·rcases wH.mp h with rfl | h
   ·exact lhw
   ·rw[wo.mp h];omega
  ·rintro i σ H6 hi ⟨⟨c6,c7,c8,rfl⟩,b6,ws,el6,wd⟩
   refine ⟨_,rfl,_,rfl,_,_,rfl,⟨by omega,by omega,by omega,by omega⟩,bH (λj σ H'=>(∃c7 c8,σ=[some (.ref p),some (iv k),some (.bl gr),some (.int m),some (.str ⟨#[c]⟩),some (.ref l),some (.int (0+(i:Int))),c7,c8])/\Bu 1 p H H'/\∃ws,H' l=some (.lst (ws.map V.str))/\Wds ws 202) ⟨⟨_,_,rfl⟩,b6,ws,el6,wd⟩ ?_ ?_⟩
   ·rintro j σ H7 hj ⟨⟨c7,c8,rfl⟩,b7,ws,el7,wd⟩
    have eR:∀{H':Hp},Bu 1 p H7 H'->(∃e7 e8,([some (.ref p),some (iv k),some (.bl gr),some (.int m),some (.str ⟨#[c]⟩),some (.ref l),some (.int (0+(i:Int))),some (.int (0+(i:Int)+(j:Int))),c8]:St)=[some (.ref p),some (iv k),some (.bl gr),some (.int m),some (.str ⟨#[c]⟩),some (.ref l),some (.int (0+(i:Int))),e7,e8])/\Bu 1 p H H'/\∃ws,H' l=some (.lst (ws.map V.str))/\Wds ws 202:=λb=>⟨⟨_,_,rfl⟩,b7.trans b,ws,b.st _ _ nl el7,wd⟩
    refine ⟨_,rfl,l,_,rfl,.inl (SqL.of el7),_,_,rfl,rfl,_,rfl,?_⟩
    by_cases few:ws.length<202
    case neg =>
     rw[decide_eq_false (show ¬ ((ws.map V.str).length:Int)<202 by rw[vZ];omega)]
     exact aK (aK (eR (Bu.refl b7.pot)))
    rw[decide_eq_true (show ((ws.map V.str).length:Int)<202 by rw[vZ];omega)]
    refine aE ⟨_,rfl,_,rfl,?_⟩
    have lg1:=i7 (i:=0+(i:Int)) (by omega) (by omega)
    have lg2:=i7 (i:=0+(i:Int)+(j:Int)) (by omega) (by omega)
    cases gr with
    | true =>
     refine aE (aE ⟨_,rfl,.inl ⟨rfl,_,SqL.of el7⟩,_,rfl,0+(i:Int),rfl,lg1.1,_,rfl,_,_,rfl,rfl,(by show (nT (0+(i:Int))).length+1<=wa;exact sz (by omega)),_,rfl,0+(i:Int)+(j:Int),rfl,lg2.1,_,_,rfl,rfl,(by rw[aM];show (nT (0+(i:Int))).length+1+(nT (0+(i:Int)+(j:Int))).length<=wa;exact sz (by omega)),l,_,_,rfl,rfl,el7,(by rw[vZ];exact sz' (by omega)),⟨_,_,rfl⟩,b7.fg hl0 nl _,ws++[nT (0+(i:Int))++⟨#[c]⟩++nT (0+(i:Int)+(j:Int))],(by rw[ae,we];rfl),⟨by rw[wc,wj];omega,λw hw =>?_⟩⟩)
     rcases wK.mp hw with y | y
     ·exact wd.2 w y
     ·rw[wo.mp y,aM,aM]
      show (nT (0+(i:Int))).length+1+(nT (0+(i:Int)+(j:Int))).length<=1000
      omega
    | false =>
     refine aK ⟨_,rfl,aF.mpr ⟨p,4,rfl,b7.pot,by decide,aR (by decide) (by decide),λy H8 y0 y1 b8=>⟨rfl,_,rfl,eS (λ_ =>?_) (λ_=>eR b8)⟩⟩⟩
     have el8:=b8.st _ _ nl el7
     refine ⟨_,rfl,.inl ⟨rfl,_,SqL.of el8⟩,_,rfl,0+(i:Int),rfl,lg1.1,_,rfl,_,_,rfl,rfl,(by show (nT (0+(i:Int))).length+1<=wa;exact sz (by omega)),_,rfl,0+(i:Int)+(j:Int),rfl,lg2.1,_,_,rfl,rfl,(by rw[aM];show (nT (0+(i:Int))).length+1+(nT (0+(i:Int)+(j:Int))).length<=wa;exact sz (by omega)),l,_,_,rfl,rfl,el8,(by rw[vZ];exact sz' (by omega)),⟨_,_,rfl⟩,(b7.trans b8).fg hl0 nl _,ws++[nT (0+(i:Int))++⟨#[c]⟩++nT (0+(i:Int)+(j:Int))],(by rw[ae,we];rfl),⟨by rw[wc,wj];omega,λw hw =>?_⟩⟩
     rcases wK.mp hw with y | y
     ·exact wd.2 w y
     ·rw[wo.mp y,aM,aM]
      show (nT (0+(i:Int))).length+1+(nT (0+(i:Int)+(j:Int))).length<=1000
      omega
   ·rintro σ H7 ⟨⟨c7,c8,rfl⟩,b7,ws,el7,wd⟩
    exact ⟨⟨_,_,_,rfl⟩,b7,ws,el7,wd⟩
  ·rintro σ H6 ⟨⟨c6,c7,c8,rfl⟩,b6,ws,el6,wd⟩
   exact ⟨_,rfl,q l ws H6 b6 nl el6 ⟨wy wd.1 (by decide),wd.2⟩⟩
 ·rw[decide_eq_false (show ¬ (k:Int)<2 by omega)]
  refine aK ?_
  refine ⟨(by show 0<=wa;decide),λl hl =>?_⟩
  have gl:=ah hl (.lst [])
  have el:upd H1 l (.lst []) l=some (.lst []):=ae
  have b2:=b1.same gl
  have nl:l≠p:=b1.pot.ne hl
  generalize upd H1 l (.lst [])=H2 at gl el b2
  clear gl
  have hl0:=kK b1 nl hl
  refine ⟨_,rfl,aF.mpr ⟨p,6,rfl,b2.pot,by decide,aR (by decide) (by decide),λx H3 x0 x1 b3 =>?_⟩⟩
  have el:=b3.st _ _ nl el
  have b3:=b2.trans b3
  refine ⟨(by show 2<=wa;decide),λl2 hl2 =>?_⟩
  have gl2:=ah hl2 (.lst [.int 60,.int 300])
  have el2:upd H3 l2 (.lst [.int 60,.int 300]) l2=some (.lst [.int 60,.int 300]):=ae
  have b4:=b3.same gl2
  have nl2:l2≠p:=b3.pot.ne hl2
  have el:=gl2 _ _ el
  generalize upd H3 l2 (.lst [.int 60,.int 300])=H4 at gl2 el2 b4 el
  clear gl2
  obtain ⟨v,hv,v3⟩:=at2 (x:=V.int 60) (y:=V.int 300) (d:=(k:Int)-2) (by omega) (by omega)
  obtain ⟨v',rfl,v0,v1⟩:∃v':Int,v = .int v'/\0<=v'/\v'<=300:=by
   rcases v3 with rfl | rfl
   ·exact ⟨60,rfl,by decide,by decide⟩
   ·exact ⟨300,rfl,by decide,by decide⟩
  refine ⟨_,rfl,_,_,rfl,rfl,l2,_,_,_,rfl,rfl,SqL.of el2,hv,?_⟩
  refine ⟨(by show 2<=wa;decide),λl3 hl3 =>?_⟩
  have gl3:=ah hl3 (.lst [.int x,.int v'])
  have el3:upd H4 l3 (.lst [.int x,.int v']) l3=some (.lst [.int x,.int v']):=ae
  have b5:=b4.same gl3
  have nl3:l3≠p:=b4.pot.ne hl3
  have el:=gl3 _ _ el
  generalize upd H4 l3 (.lst [.int x,.int v'])=H5 at gl3 el3 b5 el
  clear gl3
  obtain ⟨m,hm,m0,m1⟩:∃m:Int,(if gr=true then V.int v' else V.int x)=V.int m/\0<=m/\m<=300:=by
   cases gr
   ·exact ⟨x,rfl,by omega,by omega⟩
   ·exact ⟨v',rfl,by omega,by omega⟩
  refine ⟨_,rfl,.inr ⟨_,rfl,l3,_,_,_,rfl,rfl,SqL.of el3,oj gr _ _,?_⟩⟩
  rw[hm]
  refine ⟨m,rfl,by omega,by omega,bH (λi σ H'=>(∃c6 c8,σ=[some (.ref p),some (iv k),some (.bl gr),none,none,some (.ref l),c6,none,c8])/\Bu 1 p H H'/\∃ws,H' l=some (.lst (ws.map V.str))/\Wds ws (3*i)) ⟨⟨_,_,rfl⟩,b5,[],el,xj _,λw h=>nomatch h⟩ ?_ ?_⟩
  ·rintro i σ H6 hi ⟨⟨c6,c8,rfl⟩,b6,ws,el6,wd⟩
   have i3:i<300:=by omega
   have wl:=wd.1
   refine ⟨_,rfl,aF.mpr ⟨p,39,rfl,b6.pot,by decide,aR (by decide) (by decide),λy H7 y0 y1 b7 =>?_⟩⟩
   have el7:=b7.st _ _ nl el6
   have b7:=b6.trans b7
   refine ⟨_,rfl,rfl,_,rfl,eS (λ_ =>?_) λ_ =>?_⟩
   ·refine ⟨_,rfl,.inl ⟨rfl,_,SqL.of el7⟩,_,rfl,_,_,rfl,rfl,⟨by decide,by decide,by decide⟩,?_⟩
    refine ⟨(by show 2<=wa;decide),λl4 hl4 =>?_⟩
    have gl4:=ah hl4 (.lst [.int 1,.int ((10:Int) ^ (58:Int).toNat)])
    have el4:upd H7 l4 (.lst [.int 1,.int ((10:Int) ^ (58:Int).toNat)]) l4=some (.lst [.int 1,.int ((10:Int) ^ (58:Int).toNat)]):=ae
    have b8:=b7.same gl4
    have nl4:l4≠p:=b7.pot.ne hl4
    have el7:=gl4 _ _ el7
    generalize upd H7 l4 (.lst [.int 1,.int ((10:Int) ^ (58:Int).toNat)])=H8 at gl4 el4 b8 el7
    clear gl4
    refine ⟨_,rfl,aF.mpr ⟨p,2,rfl,b8.pot,by decide,aR (by decide) (by decide),λu H9 u0 u1 b9 =>?_⟩⟩
    have el9:=b9.st _ _ nl el7
    have el4:=b9.st _ _ nl4 el4
    have b9:=b8.trans b9
    obtain ⟨w,hw,w3⟩:=at2 (x:=V.int 1) (y:=V.int ((10:Int) ^ (58:Int).toNat)) u0 u1
    obtain ⟨w',rfl,w0,w1⟩:∃w':Int,w = .int w'/\0<=w'/\w'<=10 ^ 58:=by
     rcases w3 with rfl | rfl
     ·exact ⟨_,rfl,by decide,by decide⟩
     ·exact ⟨_,rfl,by decide,by decide⟩
    have big:0<=y*w'/\y*w'<=10 ^ 60:=⟨Int.mul_nonneg y0 w0,A8 (Int.mul_le_mul (show y<=38 by omega) w1 w0 (by decide)) (by decide)⟩
    have lg:=i7 big.1 big.2
    refine ⟨l4,_,_,_,rfl,rfl,SqL.of el4,hw,_,_,rfl,rfl,.inl ⟨by omega,by omega⟩,_,rfl,lg.1,l,_,_,rfl,rfl,el9,(by rw[vZ];exact sz' (by omega)),⟨_,_,rfl⟩,b9.fg hl0 nl _,ws++[nT (y*w')],(by rw[ae,we];rfl),wd.add (λz hz =>?_) (by show 3*i+1<=3*(i+1);omega)⟩
    rw[wo.mp hz];omega
   ·have lg:=i7 y0 (show y<=10 ^ 60 by omega)
    refine ⟨_,rfl,aF.mpr ⟨p,3,rfl,b7.pot,by decide,aR (by decide) (by decide),λu H8 u0 u1 b8=>⟨rfl,_,rfl,?_⟩⟩⟩
    have el8:=b8.st _ _ nl el7
    have b8:=b7.trans b8
    refine eS (λ_ =>?_) λ_ =>?_
    ·refine ⟨_,rfl,.inl ⟨rfl,_,SqL.of el8⟩,_,rfl,_,rfl,lg.1,?_⟩
     refine ⟨(by show 3<=wa;decide),λl4 hl4 =>?_⟩
     have gl4:=ah hl4 (.lst [.str "many",.str (nT y),.str "39"])
     have el4:upd H8 l4 (.lst [.str "many",.str (nT y),.str "39"]) l4=some (.lst [.str "many",.str (nT y),.str "39"]):=ae
     have b9:=b8.same gl4
     have nl4:l4≠p:=b8.pot.ne hl4
     have el8:=gl4 _ _ el8
     generalize upd H8 l4 (.lst [.str "many",.str (nT y),.str "39"])=H9 at gl4 el4 b9 el8
     clear gl4
     refine ⟨l,l4,_,_,rfl,rfl,el8,el4,(by rw[vZ];exact sz (show ws.length+3<=2000000 by omega)),⟨_,_,rfl⟩,b9.fg hl0 nl _,ws++(["many",nT y, "39"]:List Str),(by rw[ae,we];rfl),wd.add (λz hz =>?_) (by show 3*i+3<=3*(i+1);omega)⟩
     rcases wH.mp hz with rfl | hz
     ·decide
     rcases wH.mp hz with rfl | hz
     ·omega
     ·rw[wo.mp hz];decide
    ·refine ⟨_,rfl,.inl ⟨rfl,_,SqL.of el8⟩,?_⟩
     refine ⟨(by show 3<=wa;decide),λl4 hl4 =>?_⟩
     have gl4:=ah hl4 (.lst [.str "lone",.str "two",.str "loop"])
     have el4:upd H8 l4 (.lst [.str "lone",.str "two",.str "loop"]) l4=some (.lst [.str "lone",.str "two",.str "loop"]):=ae
     have b9:=b8.same gl4
     have nl4:l4≠p:=b8.pot.ne hl4
     have el8:=gl4 _ _ el8
     generalize upd H8 l4 (.lst [.str "lone",.str "two",.str "loop"])=H9 at gl4 el4 b9 el8
     clear gl4
     refine ⟨_,rfl,aF.mpr ⟨p,3,rfl,b9.pot,by decide,aR (by decide) (by decide),λr Ha r0 r1 ba =>?_⟩⟩
     have ela:=ba.st _ _ nl el8
     have el4:=ba.st _ _ nl4 el4
     have ba:=b9.trans ba
     obtain ⟨w,hw,w3⟩:=at3 (x:=V.str "lone") (y:=V.str "two") (z:=V.str "loop") r0 r1
     obtain ⟨w',rfl,w0⟩:∃w':Str,w = .str w'/\w'.length<=1000:=by
      rcases w3 with rfl | rfl | rfl
      ·exact ⟨_,rfl,by decide⟩
      ·exact ⟨_,rfl,by decide⟩
      ·exact ⟨_,rfl,by decide⟩
     refine ⟨l4,_,_,_,rfl,rfl,SqL.of el4,hw,_,rfl,_,rfl,lg.1,?_⟩
     refine ⟨(by show 2<=wa;decide),λl5 hl5 =>?_⟩
     have gl5:=ah hl5 (.lst [.str w',.str (nT y)])
     have el5:upd Ha l5 (.lst [.str w',.str (nT y)]) l5=some (.lst [.str w',.str (nT y)]):=ae
     have bb:=ba.same gl5
     have nl5:l5≠p:=ba.pot.ne hl5
     have ela:=gl5 _ _ ela
     generalize upd Ha l5 (.lst [.str w',.str (nT y)])=Hb at gl5 el5 bb ela
     clear gl5
     refine ⟨l,l5,_,_,rfl,rfl,ela,el5,(by rw[vZ];exact sz (show ws.length+2<=2000000 by omega)),⟨_,_,rfl⟩,bb.fg hl0 nl _,ws++[w',nT y],(by rw[ae,we];rfl),wd.add (λz hz =>?_) (by show 3*i+2<=3*(i+1);omega)⟩
     rcases wH.mp hz with rfl | hz
     ·exact w0
     ·rw[wo.mp hz];omega
  ·rintro σ H6 ⟨⟨c6,c8,rfl⟩,b6,ws,el6,wd⟩
   refine ⟨_,rfl,?_⟩
   refine ⟨(by show 1<=wa;decide),λd1 hd1 =>?_⟩
   have gd1:=ah hd1 (.lst [.str "-"])
   have ed1:upd H6 d1 (.lst [.str "-"]) d1=some (.lst [.str "-"]):=ae
   have b7:=b6.same gd1
   have nd1:d1≠p:=b6.pot.ne hd1
   have el6:=gd1 _ _ el6
   generalize upd H6 d1 (.lst [.str "-"])=H7 at gd1 ed1 b7 el6
   clear gd1
   refine ⟨(by show 2<=wa;decide),λd2 hd2 =>?_⟩
   have gd2:=ah hd2 (.lst [.ref l,.ref d1])
   have ed2:upd H7 d2 (.lst [.ref l,.ref d1]) d2=some (.lst [.ref l,.ref d1]):=ae
   have b8:=b7.same gd2
   have nd2:d2≠p:=b7.pot.ne hd2
   have el6:=gd2 _ _ el6
   have ed1:=gd2 _ _ ed1
   generalize upd H7 d2 (.lst [.ref l,.ref d1])=H8 at gd2 ed2 b8 el6 ed1
   clear gd2
   refine ⟨_,rfl,?_⟩
   refine ⟨(by show 0<=wa;decide),λd3 hd3 =>?_⟩
   have gd3:=ah hd3 (.lst [])
   have ed3:upd H8 d3 (.lst []) d3=some (.lst []):=ae
   have b9:=b8.same gd3
   have nd3:d3≠p:=b8.pot.ne hd3
   have el6:=gd3 _ _ el6
   have ed1:=gd3 _ _ ed1
   have ed2:=gd3 _ _ ed2
   generalize upd H8 d3 (.lst [])=H9 at gd3 ed3 b9 el6 ed1 ed2
   clear gd3
   have wl:ws.length<=900:=by have:=wd.1;omega
   refine ⟨l,d3,_,_,rfl,rfl,SqL.of el6,SqL.of ed3,?_⟩
   cases ws with
   | nil=>exact .inr ⟨.nil,.inr ⟨_,rfl,d2,_,_,_,rfl,rfl,SqL.of ed2,oj true _ _,q d1 ["-"] H9 b9 nd1 ed1 ⟨(by show 1<=900;decide),λw h=>by rw[wo.mp h];decide⟩⟩⟩
   | cons w ws=>exact .inl ⟨by simp,.inr ⟨_,rfl,d2,_,_,_,rfl,rfl,SqL.of ed2,oj false _ _,q l _ H9 b9 nl el6 ⟨wl,wd.2⟩⟩⟩
end
open PySem L2
theorem pQ {xs:List V}{a:Nat}(h:a<=xs.length):cu xs none (some (a:Int))=xs.take a:=by
 unfold cu
 rw[HT.kR,HT.gS,yT h,Bx,Nat.sub_zero]
theorem cutD {xs:List V}{a:Nat}:cu xs (some (a:Int)) none=xs.drop a:=by
 unfold cu
 rw[HT.gS,HT.kR]
 by_cases h:a<=xs.length
 ·rw[yT h,xB (by rw[wW];exact wm _)]
 ·rw[Bj (by omega),xP,Ak (by omega),BI]
theorem Wds.sub {ws us:List Str}{n m:Nat}(h:Wds ws n)(h1:∀w∈us,w∈ws\/w.length<=1000)(h2:us.length<=m):Wds us m :=
 ⟨h2,λw hw=>(h1 w hw).elim (h.2 w) id⟩
abbrev md:Sp:=λvs H Q _=>∃(p l:Addr) (ws:List Str),vs=[.ref p,.ref l]/\Pt 1 H p/\l≠p/\H l=some (.lst (ws.map V.str))/\Wds ws 990/\∀(l':Addr) (us:List Str) (H':Hp),Bu 1 p H H'->l'≠p->H' l'=some (.lst (us.map V.str))->Wds us (ws.length+1)->Q (.ref l') H'
@[irreducible] def gZ:Sp:=md
theorem eE {vs:List V}{H:Hp}{Q:VK}{E:XK}:gZ vs H Q E↔md vs H Q E:=by
 delta gZ
 exact xr
section
variable  {P:wx}{w:wZ}{K:v5}{mg:Str->Option v8}{base:Heap}{f T:Addr}{fd:wR}
theorem cn:aJ ["pot", "words", "way", "at", "other", "turned", "odd"] ["pot", "words"] (au iL):=⟨rfl,rfl,rfl,by decide +kernel,rfl,by decide +kernel,by decide +kernel⟩
theorem pR (F:Fun K "_law_spoilt" "_law_spoilt" iL f fd)(B:Blt mg)(cLTake:Cal P w K mg base 1 "_law_take" ["pot", "many"] er)(cLOdd:Cal P w K mg base 2 "_law_odd" ["pot"] oi)(C:Cst mg):aW P w K mg base CX0 3 f fd ["pot", "words"] gZ:=by
 refine F.ok cn (λvs H Q E h =>?_) (λcdv A outer s H vs Q E hr h =>?_)
 ·obtain ⟨_,_,_,rfl,_⟩:=eE.mp h
  rfl
 obtain ⟨p,l,ws,rfl,hp,nl,el,wd,q⟩:=eE.mp h
 refine ⟨_,(@ag _ _ _ _ _ (@ay _ _ 2 _ _ _ _ cn.nd rfl (Or.inl rfl) (aG cLTake hr (by decide) rfl (@aa _ _ _ _ _ (pv 0) (@aa _ _ _ _ _ ai af rfl) rfl)) rfl (by first | exact .inl rfl | exact .inr rfl | assumption))
  (@ag _ _ _ _ _ (@ay _ _ 3 _ _ _ _ cn.nd rfl (Or.inl rfl) (aG cLTake hr (by decide) rfl (@aa _ _ _ _ _ (pv 0) (@aa _ _ _ _ _ (@aH _ _ _ _ _ _ _ _ aX (aD aw rfl B.b_len aU (@aa _ _ _ _ _ (pv 1) af rfl)) ai) af rfl) rfl)) rfl (by first | exact .inl rfl | exact .inr rfl | assumption))
  (@ag _ _ _ _ _ (@ay _ _ 4 _ _ _ _ cn.nd rfl (Or.inl rfl) (aG cLTake hr (by decide) rfl (@aa _ _ _ _ _ (pv 0) (@aa _ _ _ _ _ (@aH _ _ _ _ _ _ _ _ aX (aD aw rfl B.b_len aU (@aa _ _ _ _ _ (pv 1) af rfl)) ai) af rfl) rfl)) rfl (by first | exact .inl rfl | exact .inr rfl | assumption))
  (@ag _ _ _ _ _ (@aP _ _ _ _ _ _ _ _ (ak aZ (pv 2) ai (ar _)) (@aj _ _ _ (@az _ _ _ _ (@aH _ _ _ _ _ _ _ _ cE (bp bZ (pv 1) bQ (bC (pv 3))) (bp bZ (pv 1) (bC (@aH _ _ _ _ _ _ _ _ aX (pv 3) ai)) bQ)))) aB)
  (@ag _ _ _ _ _ (@aP _ _ _ _ _ _ _ _ (ak aZ (pv 2) ai (ar _)) (@aj _ _ _ (@az _ _ _ _ (@aH _ _ _ _ _ _ _ _ cE (@aH _ _ _ _ _ _ _ _ cE (bp bZ (pv 1) bQ (bC (pv 3))) (@aQ _ _ _ _ (@aa _ _ _ _ _ (aG cLOdd hr (by decide) rfl (@aa _ _ _ _ _ (pv 0) af rfl)) af rfl))) (bp bZ (pv 1) (bC (pv 3)) bQ)))) aB)
  (@ag _ _ _ _ _ (@aP _ _ _ _ _ _ _ _ (ak aZ (pv 2) ai (ar _)) (@aj _ _ _ (@az _ _ _ _ (@aH _ _ _ _ _ _ _ _ cE (@aH _ _ _ _ _ _ _ _ cE (bp bZ (pv 1) bQ (bC (pv 3))) (@aQ _ _ _ _ (@aa _ _ _ _ _ (aG cLOdd hr (by decide) rfl (@aa _ _ _ _ _ (pv 0) af rfl)) af rfl))) (bp bZ (pv 1) (bC (@aH _ _ _ _ _ _ _ _ aX (pv 3) ai)) bQ)))) aB)
  (@ag _ _ _ _ _ (@aP _ _ _ _ _ _ _ _ (PW.pt (cZ (ak aZ (pv 2) ai (ar _)) (cB (pZ dM dM (pv 3) (pv 4) (aD aw rfl B.b_len aU (@aa _ _ _ _ _ (pv 1) af rfl)))))) (@ag _ _ _ _ _ (@ay _ _ 5 _ _ _ _ cn.nd rfl (Or.inl rfl) (aL j7 rfl B.b_list sP (@aa _ _ _ _ _ (pv 1) af rfl)) rfl (by first | exact .inl rfl | exact .inr rfl | assumption))
   (@ag _ _ _ _ _ (@mn _ _ _ _ _ _ (@aO _ _ _ _ _ _ _ aI (pv 1) (pv 4) (λ_ _=>rfl)) (ml (pv 5) (pv 3) set_list) rfl rfl rfl)
   (@ag _ _ _ _ _ (@mn _ _ _ _ _ _ (@aO _ _ _ _ _ _ _ aI (pv 1) (pv 3) (λ_ _=>rfl)) (ml (pv 5) (pv 4) set_list) rfl rfl rfl)
   (@aj _ _ _ (@az _ _ _ _ (pv 5)))))) aB)
  (@ag _ _ _ _ _ (@aP _ _ _ _ _ _ _ _ (ak aZ (pv 2) ai (ar _)) (@aj _ _ _ (@az _ _ _ _ (bp bZ (pv 1) bQ (bC (pv 3))))) aB)
  (@ag _ _ _ _ _ (@ay _ _ 6 _ _ _ _ cn.nd rfl (Or.inl rfl) (aG cLOdd hr (by decide) rfl (@aa _ _ _ _ _ (pv 0) af rfl)) rfl (by first | exact .inl rfl | exact .inr rfl | assumption))
  (@ag _ _ _ _ _ (@aP _ _ _ _ _ _ _ _ (PW.pt (cZ (ak (uN hr) (pv 1) (@aQ _ _ _ _ af) (ar _)) (cB (ak aZ (aG cLTake hr (by decide) rfl (@aa _ _ _ _ _ (pv 0) (@aa _ _ _ _ _ ai af rfl) rfl)) ai (ar _))))) (@aj _ _ _ (@ay _ _ 6 _ _ _ _ cn.nd rfl (Or.inl rfl) (@aO _ _ _ _ _ _ _ aI (pv 1) (gE dU ai) (λ_ _=>rfl)) rfl (by first | exact .inl rfl | exact .inr rfl | assumption))) aB)
  (@aj _ _ _ (@az _ _ _ _ (@aH _ _ _ _ _ _ _ _ cE (pv 1) (@aQ _ _ _ _ (@aa _ _ _ _ _ (pv 6) af rfl))))))))))))))),?_⟩
 have wl:=wd.1
 refine ⟨_,rfl,aF.mpr ⟨p,6,rfl,hp,by decide,aR (by decide) (by decide),λd H1 d0 d1 b1 =>?_⟩⟩
 have el:=b1.st _ _ nl el
 refine ⟨_,rfl,_,rfl,l,_,rfl,.inl (SqL.of el),_,_,rfl,rfl,aF.mpr ⟨p,((ws.map V.str).length:Int)+1,rfl,b1.pot,by omega,aR (by omega) (by rw[vZ];omega),λa H2 a0 a1 b2 =>?_⟩⟩
 have el:=b2.st _ _ nl el
 have b2:=b1.trans b2
 refine ⟨_,rfl,_,rfl,l,_,rfl,.inl (SqL.of el),_,_,rfl,rfl,aF.mpr ⟨p,((ws.map V.str).length:Int)+1,rfl,b2.pot,by omega,aR (by omega) (by rw[vZ];omega),λo H3 o0 o1 b3 =>?_⟩⟩
 have el:=b3.st _ _ nl el
 have b3:=b2.trans b3
 rw[vZ] at a1 o1
 obtain ⟨a,rfl⟩:∃x:Nat,a=x:=⟨a.toNat,by omega⟩
 obtain ⟨o,rfl⟩:∃x:Nat,o=x:=⟨o.toNat,by omega⟩
 refine ⟨_,rfl,rfl,_,rfl,eS (λ_ =>?_) λ_ =>?_⟩
 ·skip
  refine ⟨_,rfl,_,rfl,_,rfl,l,_,rfl,SqL.of el,λx1 hx1 =>?_⟩
  rw[show cu (ws.map V.str) none (some (a:Int))=(ws.take a).map V.str by rw[pQ (by rw[vZ];omega),yk]]
  have gx1:=ah hx1 (.lst ((ws.take a).map V.str))
  have ex1:upd H3 x1 (.lst ((ws.take a).map V.str)) x1=some (.lst ((ws.take a).map V.str)):=ae
  have b4:=b3.same gx1
  have nx1:x1≠p:=b3.pot.ne hx1
  have el:=gx1 _ _ el
  generalize upd H3 x1 (.lst ((ws.take a).map V.str))=H4 at gx1 ex1 b4 el
  clear gx1
  refine ⟨_,rfl,_,rfl,_,_,rfl,rfl,_,rfl,l,_,rfl,SqL.of el,λx2 hx2 =>?_⟩
  rw[show cu (ws.map V.str) (some ((a:Int)+1)) none=(ws.drop (a+1)).map V.str by rw[show ((a:Int)+1)=((a+1:Nat):Int) by omega,cutD,zo]]
  have gx2:=ah hx2 (.lst ((ws.drop (a+1)).map V.str))
  have ex2:upd H4 x2 (.lst ((ws.drop (a+1)).map V.str)) x2=some (.lst ((ws.drop (a+1)).map V.str)):=ae
  have b5:=b4.same gx2
  have nx2:x2≠p:=b4.pot.ne hx2
  have el:=gx2 _ _ el
  have ex1:=gx2 _ _ ex1
  generalize upd H4 x2 (.lst ((ws.drop (a+1)).map V.str))=H5 at gx2 ex2 b5 el ex1
  clear gx2
  refine ⟨x1,x2,_,_,rfl,rfl,SqL.of ex1,SqL.of ex2,(by simp only[vZ,wc,wG,wW,wj,wk,w9];exact sz (by omega)),λx3 hx3 =>?_⟩
  have gx3:=ah hx3 (.lst ((ws.take a++ws.drop (a+1)).map V.str))
  have ex3:upd H5 x3 (.lst ((ws.take a).map V.str++(ws.drop (a+1)).map V.str)) x3=some (.lst ((ws.take a++ws.drop (a+1)).map V.str)):=by rw[ae, <- we]
  rw[<- we] at ex3 ⊢
  have b6:=b5.same gx3
  have nx3:x3≠p:=b5.pot.ne hx3
  generalize upd H5 x3 (.lst ((ws.take a++ws.drop (a+1)).map V.str))=H6 at gx3 ex3 b6
  clear gx3
  exact q x3 _ H6 b6 nx3 ex3 (wd.sub (λw hw =>.inl ((wK.mp hw).elim xA xR)) (by rw[wc,wG,wW];omega))
 refine ⟨_,rfl,rfl,_,rfl,eS (λ_ =>?_) λ_ =>?_⟩
 ·skip
  refine ⟨_,rfl,_,rfl,_,rfl,l,_,rfl,SqL.of el,λx1 hx1 =>?_⟩
  rw[show cu (ws.map V.str) none (some (a:Int))=(ws.take a).map V.str by rw[pQ (by rw[vZ];omega),yk]]
  have gx1:=ah hx1 (.lst ((ws.take a).map V.str))
  have ex1:upd H3 x1 (.lst ((ws.take a).map V.str)) x1=some (.lst ((ws.take a).map V.str)):=ae
  have b4:=b3.same gx1
  have nx1:x1≠p:=b3.pot.ne hx1
  have el:=gx1 _ _ el
  generalize upd H3 x1 (.lst ((ws.take a).map V.str))=H4 at gx1 ex1 b4 el
  clear gx1
  refine ⟨_,rfl,cm.mpr ⟨p,rfl,b4.pot,λz H5 bz lz =>?_⟩⟩
  have ex1:=bz.st _ _ nx1 ex1
  have el:=bz.st _ _ nl el
  have b5:=b4.trans bz
  refine ⟨(by show 1<=wa;decide),λx2 hx2 =>?_⟩
  have gx2:=ah hx2 (.lst ([z].map V.str))
  have ex2:upd H5 x2 (.lst ([z].map V.str)) x2=some (.lst ([z].map V.str)):=ae
  have b6:=b5.same gx2
  have nx2:x2≠p:=b5.pot.ne hx2
  have el:=gx2 _ _ el
  have ex1:=gx2 _ _ ex1
  generalize hh:upd H5 x2 (.lst ([z].map V.str))=H6 at gx2 ex2 b6 el ex1
  rw[show upd H5 x2 (.lst [.str z])=H6 from hh]
  clear gx2 hh
  refine ⟨x1,x2,_,_,rfl,rfl,SqL.of ex1,SqL.of ex2,(by simp only[vZ,wc,wG,wW,wj,wk,w9];exact sz (by omega)),λx3 hx3 =>?_⟩
  have gx3:=ah hx3 (.lst ((ws.take a++[z]).map V.str))
  have ex3:upd H6 x3 (.lst ((ws.take a).map V.str++([z]).map V.str)) x3=some (.lst ((ws.take a++[z]).map V.str)):=by rw[ae, <- we]
  rw[<- we] at ex3 ⊢
  have b7:=b6.same gx3
  have nx3:x3≠p:=b6.pot.ne hx3
  have el:=gx3 _ _ el
  generalize upd H6 x3 (.lst ((ws.take a++[z]).map V.str))=H7 at gx3 ex3 b7 el
  clear gx3
  refine ⟨_,rfl,_,rfl,_,rfl,l,_,rfl,SqL.of el,λx4 hx4 =>?_⟩
  rw[show cu (ws.map V.str) (some (a:Int)) none=(ws.drop a).map V.str by rw[cutD,zo]]
  have gx4:=ah hx4 (.lst ((ws.drop a).map V.str))
  have ex4:upd H7 x4 (.lst ((ws.drop a).map V.str)) x4=some (.lst ((ws.drop a).map V.str)):=ae
  have b8:=b7.same gx4
  have nx4:x4≠p:=b7.pot.ne hx4
  have el:=gx4 _ _ el
  have ex3:=gx4 _ _ ex3
  generalize upd H7 x4 (.lst ((ws.drop a).map V.str))=H8 at gx4 ex4 b8 el ex3
  clear gx4
  refine ⟨x3,x4,_,_,rfl,rfl,SqL.of ex3,SqL.of ex4,(by simp only[vZ,wc,wG,wW,wj,wk,w9];exact sz (by omega)),λx5 hx5 =>?_⟩
  have gx5:=ah hx5 (.lst (((ws.take a++[z])++ws.drop a).map V.str))
  have ex5:upd H8 x5 (.lst (((ws.take a++[z])).map V.str++(ws.drop a).map V.str)) x5=some (.lst (((ws.take a++[z])++ws.drop a).map V.str)):=by rw[ae, <- we]
  rw[<- we] at ex5 ⊢
  have b9:=b8.same gx5
  have nx5:x5≠p:=b8.pot.ne hx5
  generalize upd H8 x5 (.lst (((ws.take a++[z])++ws.drop a).map V.str))=H9 at gx5 ex5 b9
  clear gx5
  refine q x5 _ H9 b9 nx5 ex5 (wd.sub (λw hw =>?_) (by rw[wc,wc,wG,wW,wj];omega))
  rcases wK.mp hw with hw | hw
  ·rcases wK.mp hw with hw | hw
   ·exact .inl (xA hw)
   ·rw[wo.mp hw];exact .inr lz
  ·exact .inl (xR hw)
 refine ⟨_,rfl,rfl,_,rfl,eS (λ_ =>?_) λ_ =>?_⟩
 ·skip
  refine ⟨_,rfl,_,rfl,_,rfl,l,_,rfl,SqL.of el,λx1 hx1 =>?_⟩
  rw[show cu (ws.map V.str) none (some (a:Int))=(ws.take a).map V.str by rw[pQ (by rw[vZ];omega),yk]]
  have gx1:=ah hx1 (.lst ((ws.take a).map V.str))
  have ex1:upd H3 x1 (.lst ((ws.take a).map V.str)) x1=some (.lst ((ws.take a).map V.str)):=ae
  have b4:=b3.same gx1
  have nx1:x1≠p:=b3.pot.ne hx1
  have el:=gx1 _ _ el
  generalize upd H3 x1 (.lst ((ws.take a).map V.str))=H4 at gx1 ex1 b4 el
  clear gx1
  refine ⟨_,rfl,cm.mpr ⟨p,rfl,b4.pot,λz H5 bz lz =>?_⟩⟩
  have ex1:=bz.st _ _ nx1 ex1
  have el:=bz.st _ _ nl el
  have b5:=b4.trans bz
  refine ⟨(by show 1<=wa;decide),λx2 hx2 =>?_⟩
  have gx2:=ah hx2 (.lst ([z].map V.str))
  have ex2:upd H5 x2 (.lst ([z].map V.str)) x2=some (.lst ([z].map V.str)):=ae
  have b6:=b5.same gx2
  have nx2:x2≠p:=b5.pot.ne hx2
  have el:=gx2 _ _ el
  have ex1:=gx2 _ _ ex1
  generalize hh:upd H5 x2 (.lst ([z].map V.str))=H6 at gx2 ex2 b6 el ex1
  rw[show upd H5 x2 (.lst [.str z])=H6 from hh]
  clear gx2 hh
  refine ⟨x1,x2,_,_,rfl,rfl,SqL.of ex1,SqL.of ex2,(by simp only[vZ,wc,wG,wW,wj,wk,w9];exact sz (by omega)),λx3 hx3 =>?_⟩
  have gx3:=ah hx3 (.lst ((ws.take a++[z]).map V.str))
  have ex3:upd H6 x3 (.lst ((ws.take a).map V.str++([z]).map V.str)) x3=some (.lst ((ws.take a++[z]).map V.str)):=by rw[ae, <- we]
  rw[<- we] at ex3 ⊢
  have b7:=b6.same gx3
  have nx3:x3≠p:=b6.pot.ne hx3
  have el:=gx3 _ _ el
  generalize upd H6 x3 (.lst ((ws.take a++[z]).map V.str))=H7 at gx3 ex3 b7 el
  clear gx3
  refine ⟨_,rfl,_,rfl,_,_,rfl,rfl,_,rfl,l,_,rfl,SqL.of el,λx4 hx4 =>?_⟩
  rw[show cu (ws.map V.str) (some ((a:Int)+1)) none=(ws.drop (a+1)).map V.str by rw[show ((a:Int)+1)=((a+1:Nat):Int) by omega,cutD,zo]]
  have gx4:=ah hx4 (.lst ((ws.drop (a+1)).map V.str))
  have ex4:upd H7 x4 (.lst ((ws.drop (a+1)).map V.str)) x4=some (.lst ((ws.drop (a+1)).map V.str)):=ae
  have b8:=b7.same gx4
  have nx4:x4≠p:=b7.pot.ne hx4
  have el:=gx4 _ _ el
  have ex3:=gx4 _ _ ex3
  generalize upd H7 x4 (.lst ((ws.drop (a+1)).map V.str))=H8 at gx4 ex4 b8 el ex3
  clear gx4
  refine ⟨x3,x4,_,_,rfl,rfl,SqL.of ex3,SqL.of ex4,(by simp only[vZ,wc,wG,wW,wj,wk,w9];exact sz (by omega)),λx5 hx5 =>?_⟩
  have gx5:=ah hx5 (.lst (((ws.take a++[z])++ws.drop (a+1)).map V.str))
  have ex5:upd H8 x5 (.lst (((ws.take a++[z])).map V.str++(ws.drop (a+1)).map V.str)) x5=some (.lst (((ws.take a++[z])++ws.drop (a+1)).map V.str)):=by rw[ae, <- we]
  rw[<- we] at ex5 ⊢
  have b9:=b8.same gx5
  have nx5:x5≠p:=b8.pot.ne hx5
  generalize upd H8 x5 (.lst (((ws.take a++[z])++ws.drop (a+1)).map V.str))=H9 at gx5 ex5 b9
  clear gx5
  refine q x5 _ H9 b9 nx5 ex5 (wd.sub (λw hw =>?_) (by rw[wc,wc,wG,wW,wj];omega))
  rcases wK.mp hw with hw | hw
  ·rcases wK.mp hw with hw | hw
   ·exact .inl (xA hw)
   ·rw[wo.mp hw];exact .inr lz
  ·exact .inl (xR hw)
 refine ⟨_,rfl,rfl,_,rfl,?_⟩
 by_cases w3:d=3
 case neg =>
  rw[decide_eq_false (λy=>w3 (V.int.inj y))]
  refine aK (aK ?_)
  refine ⟨_,rfl,rfl,_,rfl,eS (λ_ =>?_) λ_ =>?_⟩
  ·skip
   refine ⟨_,rfl,_,rfl,_,rfl,l,_,rfl,SqL.of el,λx1 hx1 =>?_⟩
   rw[show cu (ws.map V.str) none (some (a:Int))=(ws.take a).map V.str by rw[pQ (by rw[vZ];omega),yk]]
   have gx1:=ah hx1 (.lst ((ws.take a).map V.str))
   have ex1:upd H3 x1 (.lst ((ws.take a).map V.str)) x1=some (.lst ((ws.take a).map V.str)):=ae
   have b4:=b3.same gx1
   have nx1:x1≠p:=b3.pot.ne hx1
   have el:=gx1 _ _ el
   generalize upd H3 x1 (.lst ((ws.take a).map V.str))=H4 at gx1 ex1 b4 el
   clear gx1
   exact q x1 _ H4 b4 nx1 ex1 (wd.sub (λw hw =>.inl (xA hw)) (by rw[wG];omega))
  refine ⟨_,rfl,cm.mpr ⟨p,rfl,b3.pot,λz H4 b4 lz =>?_⟩⟩
  have el:=b4.st _ _ nl el
  have b4:=b3.trans b4
  refine ⟨_,rfl,(by show 0<=wa;decide),λx5 hx5 =>?_⟩
  have gx5:=ah hx5 (.lst [])
  have ex5:upd H4 x5 (.lst []) x5=some (.lst []):=ae
  have b5:=b4.same gx5
  have nx5:x5≠p:=b4.pot.ne hx5
  have el:=gx5 _ _ el
  generalize upd H4 x5 (.lst [])=H5 at gx5 ex5 b5 el
  clear gx5
  refine ⟨l,x5,_,_,rfl,rfl,SqL.of el,SqL.of ex5,?_⟩
  cases hl:ws.getLast? with
  | none =>
   have e0:ws=[]:=yG.mp hl
   subst e0
   refine .inr ⟨.nil,_,rfl,aK (aK ?_)⟩
   refine ⟨_,rfl,_,rfl,(by show 1<=wa;decide),λx7 hx7 =>?_⟩
   have gx7:=ah hx7 (.lst ([z].map V.str))
   have ex7:upd H5 x7 (.lst ([z].map V.str)) x7=some (.lst ([z].map V.str)):=ae
   have el:=gx7 _ _ el
   have nx7:x7≠p:=b5.pot.ne hx7
   have b8:=b5.same gx7
   refine ⟨l,x7,_,_,rfl,rfl,SqL.of el,SqL.of ex7,(by rw[vZ];exact sz (show 0+1<=2000000 by omega)),λx8 hx8 =>?_⟩
   have gx8:=ah hx8 (.lst (([]:List Str).map V.str++[z].map V.str))
   refine q x8 ([]++[z]) _ (b8.same gx8) (b8.pot.ne hx8) (by rw[we];exact ae) (wd.sub (λw hw =>?_) (by rw[wc,wj];omega))
   rcases wK.mp hw with hw | hw
   ·exact .inl hw
   ·rw[wo.mp hw];exact .inr lz
  | some y =>
   have my:y∈ws:=zh hl
   have ne:(ws.map V.str).length≠([]:List V).length:=λe=>by
    rw[vZ] at e
    rw[xH.mp e] at my
    exact nomatch my
   refine .inl ⟨ne,_,rfl,aE ⟨_,rfl,aF.mpr ⟨p,2,rfl,b5.pot,by decide,aR (by decide) (by decide),λu H6 u0 u1 b6=>⟨rfl,_,rfl,?_⟩⟩⟩⟩
   have el:=b6.st _ _ nl el
   have b6:=b5.trans b6
   refine eS (λ_ =>?_) λ_ =>?_
   ·refine ⟨_,rfl,1,rfl,l,_, -1,.str y,rfl,rfl,SqL.of el,cQ hl V.str,?_⟩
    refine ⟨_,rfl,_,rfl,(by show 1<=wa;decide),λx7 hx7 =>?_⟩
    have gx7:=ah hx7 (.lst ([y].map V.str))
    have ex7:upd H6 x7 (.lst ([y].map V.str)) x7=some (.lst ([y].map V.str)):=ae
    have el:=gx7 _ _ el
    have nx7:x7≠p:=b6.pot.ne hx7
    have b8:=b6.same gx7
    refine ⟨l,x7,_,_,rfl,rfl,SqL.of el,SqL.of ex7,(by rw[vZ];exact sz (show ws.length+1<=2000000 by omega)),λx8 hx8 =>?_⟩
    have gx8:=ah hx8 (.lst (ws.map V.str++[y].map V.str))
    refine q x8 (ws++[y]) _ (b8.same gx8) (b8.pot.ne hx8) (by rw[we];exact ae) (wd.sub (λw hw =>?_) (by rw[wc,wj];omega))
    rcases wK.mp hw with hw | hw
    ·exact .inl hw
    ·rw[wo.mp hw];exact .inl my
   ·skip
    refine ⟨_,rfl,_,rfl,(by show 1<=wa;decide),λx7 hx7 =>?_⟩
    have gx7:=ah hx7 (.lst ([z].map V.str))
    have ex7:upd H6 x7 (.lst ([z].map V.str)) x7=some (.lst ([z].map V.str)):=ae
    have el:=gx7 _ _ el
    have nx7:x7≠p:=b6.pot.ne hx7
    have b8:=b6.same gx7
    refine ⟨l,x7,_,_,rfl,rfl,SqL.of el,SqL.of ex7,(by rw[vZ];exact sz (show ws.length+1<=2000000 by omega)),λx8 hx8 =>?_⟩
    have gx8:=ah hx8 (.lst (ws.map V.str++[z].map V.str))
    refine q x8 (ws++[z]) _ (b8.same gx8) (b8.pot.ne hx8) (by rw[we];exact ae) (wd.sub (λw hw =>?_) (by rw[wc,wj];omega))
    rcases wK.mp hw with hw | hw
    ·exact .inl hw
    ·rw[wo.mp hw];exact .inr lz
 rw[decide_eq_true (congrArg V.int w3)]
 refine aE ⟨_,rfl,_,rfl,_,_,rfl,rfl,_,rfl,?_⟩
 by_cases ao:(a:Int)<(o:Int)
 case neg =>
  rw[decide_eq_false ao]
  refine aK ⟨_,rfl,aK ?_⟩
  refine ⟨_,rfl,rfl,_,rfl,eS (λ_ =>?_) λ_ =>?_⟩
  ·skip
   refine ⟨_,rfl,_,rfl,_,rfl,l,_,rfl,SqL.of el,λx1 hx1 =>?_⟩
   rw[show cu (ws.map V.str) none (some (a:Int))=(ws.take a).map V.str by rw[pQ (by rw[vZ];omega),yk]]
   have gx1:=ah hx1 (.lst ((ws.take a).map V.str))
   have ex1:upd H3 x1 (.lst ((ws.take a).map V.str)) x1=some (.lst ((ws.take a).map V.str)):=ae
   have b4:=b3.same gx1
   have nx1:x1≠p:=b3.pot.ne hx1
   have el:=gx1 _ _ el
   generalize upd H3 x1 (.lst ((ws.take a).map V.str))=H4 at gx1 ex1 b4 el
   clear gx1
   exact q x1 _ H4 b4 nx1 ex1 (wd.sub (λw hw =>.inl (xA hw)) (by rw[wG];omega))
  refine ⟨_,rfl,cm.mpr ⟨p,rfl,b3.pot,λz H4 b4 lz =>?_⟩⟩
  have el:=b4.st _ _ nl el
  have b4:=b3.trans b4
  refine ⟨_,rfl,(by show 0<=wa;decide),λx5 hx5 =>?_⟩
  have gx5:=ah hx5 (.lst [])
  have ex5:upd H4 x5 (.lst []) x5=some (.lst []):=ae
  have b5:=b4.same gx5
  have nx5:x5≠p:=b4.pot.ne hx5
  have el:=gx5 _ _ el
  generalize upd H4 x5 (.lst [])=H5 at gx5 ex5 b5 el
  clear gx5
  refine ⟨l,x5,_,_,rfl,rfl,SqL.of el,SqL.of ex5,?_⟩
  cases hl:ws.getLast? with
  | none =>
   have e0:ws=[]:=yG.mp hl
   subst e0
   refine .inr ⟨.nil,_,rfl,aK (aK ?_)⟩
   refine ⟨_,rfl,_,rfl,(by show 1<=wa;decide),λx7 hx7 =>?_⟩
   have gx7:=ah hx7 (.lst ([z].map V.str))
   have ex7:upd H5 x7 (.lst ([z].map V.str)) x7=some (.lst ([z].map V.str)):=ae
   have el:=gx7 _ _ el
   have nx7:x7≠p:=b5.pot.ne hx7
   have b8:=b5.same gx7
   refine ⟨l,x7,_,_,rfl,rfl,SqL.of el,SqL.of ex7,(by rw[vZ];exact sz (show 0+1<=2000000 by omega)),λx8 hx8 =>?_⟩
   have gx8:=ah hx8 (.lst (([]:List Str).map V.str++[z].map V.str))
   refine q x8 ([]++[z]) _ (b8.same gx8) (b8.pot.ne hx8) (by rw[we];exact ae) (wd.sub (λw hw =>?_) (by rw[wc,wj];omega))
   rcases wK.mp hw with hw | hw
   ·exact .inl hw
   ·rw[wo.mp hw];exact .inr lz
  | some y =>
   have my:y∈ws:=zh hl
   have ne:(ws.map V.str).length≠([]:List V).length:=λe=>by
    rw[vZ] at e
    rw[xH.mp e] at my
    exact nomatch my
   refine .inl ⟨ne,_,rfl,aE ⟨_,rfl,aF.mpr ⟨p,2,rfl,b5.pot,by decide,aR (by decide) (by decide),λu H6 u0 u1 b6=>⟨rfl,_,rfl,?_⟩⟩⟩⟩
   have el:=b6.st _ _ nl el
   have b6:=b5.trans b6
   refine eS (λ_ =>?_) λ_ =>?_
   ·refine ⟨_,rfl,1,rfl,l,_, -1,.str y,rfl,rfl,SqL.of el,cQ hl V.str,?_⟩
    refine ⟨_,rfl,_,rfl,(by show 1<=wa;decide),λx7 hx7 =>?_⟩
    have gx7:=ah hx7 (.lst ([y].map V.str))
    have ex7:upd H6 x7 (.lst ([y].map V.str)) x7=some (.lst ([y].map V.str)):=ae
    have el:=gx7 _ _ el
    have nx7:x7≠p:=b6.pot.ne hx7
    have b8:=b6.same gx7
    refine ⟨l,x7,_,_,rfl,rfl,SqL.of el,SqL.of ex7,(by rw[vZ];exact sz (show ws.length+1<=2000000 by omega)),λx8 hx8 =>?_⟩
    have gx8:=ah hx8 (.lst (ws.map V.str++[y].map V.str))
    refine q x8 (ws++[y]) _ (b8.same gx8) (b8.pot.ne hx8) (by rw[we];exact ae) (wd.sub (λw hw =>?_) (by rw[wc,wj];omega))
    rcases wK.mp hw with hw | hw
    ·exact .inl hw
    ·rw[wo.mp hw];exact .inl my
   ·skip
    refine ⟨_,rfl,_,rfl,(by show 1<=wa;decide),λx7 hx7 =>?_⟩
    have gx7:=ah hx7 (.lst ([z].map V.str))
    have ex7:upd H6 x7 (.lst ([z].map V.str)) x7=some (.lst ([z].map V.str)):=ae
    have el:=gx7 _ _ el
    have nx7:x7≠p:=b6.pot.ne hx7
    have b8:=b6.same gx7
    refine ⟨l,x7,_,_,rfl,rfl,SqL.of el,SqL.of ex7,(by rw[vZ];exact sz (show ws.length+1<=2000000 by omega)),λx8 hx8 =>?_⟩
    have gx8:=ah hx8 (.lst (ws.map V.str++[z].map V.str))
    refine q x8 (ws++[z]) _ (b8.same gx8) (b8.pot.ne hx8) (by rw[we];exact ae) (wd.sub (λw hw =>?_) (by rw[wc,wj];omega))
    rcases wK.mp hw with hw | hw
    ·exact .inl hw
    ·rw[wo.mp hw];exact .inr lz
 rw[decide_eq_true ao]
 refine aE ⟨_,rfl,l,_,rfl,.inl (SqL.of el),_,_,rfl,rfl,_,rfl,?_⟩
 by_cases on:(o:Int)<((ws.map V.str).length:Int)
 case neg =>
  rw[decide_eq_false on]
  refine aK ?_
  refine ⟨_,rfl,rfl,_,rfl,eS (λ_ =>?_) λ_ =>?_⟩
  ·skip
   refine ⟨_,rfl,_,rfl,_,rfl,l,_,rfl,SqL.of el,λx1 hx1 =>?_⟩
   rw[show cu (ws.map V.str) none (some (a:Int))=(ws.take a).map V.str by rw[pQ (by rw[vZ];omega),yk]]
   have gx1:=ah hx1 (.lst ((ws.take a).map V.str))
   have ex1:upd H3 x1 (.lst ((ws.take a).map V.str)) x1=some (.lst ((ws.take a).map V.str)):=ae
   have b4:=b3.same gx1
   have nx1:x1≠p:=b3.pot.ne hx1
   have el:=gx1 _ _ el
   generalize upd H3 x1 (.lst ((ws.take a).map V.str))=H4 at gx1 ex1 b4 el
   clear gx1
   exact q x1 _ H4 b4 nx1 ex1 (wd.sub (λw hw =>.inl (xA hw)) (by rw[wG];omega))
  refine ⟨_,rfl,cm.mpr ⟨p,rfl,b3.pot,λz H4 b4 lz =>?_⟩⟩
  have el:=b4.st _ _ nl el
  have b4:=b3.trans b4
  refine ⟨_,rfl,(by show 0<=wa;decide),λx5 hx5 =>?_⟩
  have gx5:=ah hx5 (.lst [])
  have ex5:upd H4 x5 (.lst []) x5=some (.lst []):=ae
  have b5:=b4.same gx5
  have nx5:x5≠p:=b4.pot.ne hx5
  have el:=gx5 _ _ el
  generalize upd H4 x5 (.lst [])=H5 at gx5 ex5 b5 el
  clear gx5
  refine ⟨l,x5,_,_,rfl,rfl,SqL.of el,SqL.of ex5,?_⟩
  cases hl:ws.getLast? with
  | none =>
   have e0:ws=[]:=yG.mp hl
   subst e0
   refine .inr ⟨.nil,_,rfl,aK (aK ?_)⟩
   refine ⟨_,rfl,_,rfl,(by show 1<=wa;decide),λx7 hx7 =>?_⟩
   have gx7:=ah hx7 (.lst ([z].map V.str))
   have ex7:upd H5 x7 (.lst ([z].map V.str)) x7=some (.lst ([z].map V.str)):=ae
   have el:=gx7 _ _ el
   have nx7:x7≠p:=b5.pot.ne hx7
   have b8:=b5.same gx7
   refine ⟨l,x7,_,_,rfl,rfl,SqL.of el,SqL.of ex7,(by rw[vZ];exact sz (show 0+1<=2000000 by omega)),λx8 hx8 =>?_⟩
   have gx8:=ah hx8 (.lst (([]:List Str).map V.str++[z].map V.str))
   refine q x8 ([]++[z]) _ (b8.same gx8) (b8.pot.ne hx8) (by rw[we];exact ae) (wd.sub (λw hw =>?_) (by rw[wc,wj];omega))
   rcases wK.mp hw with hw | hw
   ·exact .inl hw
   ·rw[wo.mp hw];exact .inr lz
  | some y =>
   have my:y∈ws:=zh hl
   have ne:(ws.map V.str).length≠([]:List V).length:=λe=>by
    rw[vZ] at e
    rw[xH.mp e] at my
    exact nomatch my
   refine .inl ⟨ne,_,rfl,aE ⟨_,rfl,aF.mpr ⟨p,2,rfl,b5.pot,by decide,aR (by decide) (by decide),λu H6 u0 u1 b6=>⟨rfl,_,rfl,?_⟩⟩⟩⟩
   have el:=b6.st _ _ nl el
   have b6:=b5.trans b6
   refine eS (λ_ =>?_) λ_ =>?_
   ·refine ⟨_,rfl,1,rfl,l,_, -1,.str y,rfl,rfl,SqL.of el,cQ hl V.str,?_⟩
    refine ⟨_,rfl,_,rfl,(by show 1<=wa;decide),λx7 hx7 =>?_⟩
    have gx7:=ah hx7 (.lst ([y].map V.str))
    have ex7:upd H6 x7 (.lst ([y].map V.str)) x7=some (.lst ([y].map V.str)):=ae
    have el:=gx7 _ _ el
    have nx7:x7≠p:=b6.pot.ne hx7
    have b8:=b6.same gx7
    refine ⟨l,x7,_,_,rfl,rfl,SqL.of el,SqL.of ex7,(by rw[vZ];exact sz (show ws.length+1<=2000000 by omega)),λx8 hx8 =>?_⟩
    have gx8:=ah hx8 (.lst (ws.map V.str++[y].map V.str))
    refine q x8 (ws++[y]) _ (b8.same gx8) (b8.pot.ne hx8) (by rw[we];exact ae) (wd.sub (λw hw =>?_) (by rw[wc,wj];omega))
    rcases wK.mp hw with hw | hw
    ·exact .inl hw
    ·rw[wo.mp hw];exact .inl my
   ·skip
    refine ⟨_,rfl,_,rfl,(by show 1<=wa;decide),λx7 hx7 =>?_⟩
    have gx7:=ah hx7 (.lst ([z].map V.str))
    have ex7:upd H6 x7 (.lst ([z].map V.str)) x7=some (.lst ([z].map V.str)):=ae
    have el:=gx7 _ _ el
    have nx7:x7≠p:=b6.pot.ne hx7
    have b8:=b6.same gx7
    refine ⟨l,x7,_,_,rfl,rfl,SqL.of el,SqL.of ex7,(by rw[vZ];exact sz (show ws.length+1<=2000000 by omega)),λx8 hx8 =>?_⟩
    have gx8:=ah hx8 (.lst (ws.map V.str++[z].map V.str))
    refine q x8 (ws++[z]) _ (b8.same gx8) (b8.pot.ne hx8) (by rw[we];exact ae) (wd.sub (λw hw =>?_) (by rw[wc,wj];omega))
    rcases wK.mp hw with hw | hw
    ·exact .inl hw
    ·rw[wo.mp hw];exact .inr lz
 rw[decide_eq_true on]
 rw[vZ] at on
 have la:a<ws.length:=by omega
 have lo:o<ws.length:=by omega
 have el0:=el
 refine aE ⟨_,rfl,l,_,rfl,.inl (SqL.of el),λt1 ht1 =>?_⟩
 have gt:=ah ht1 (.lst (ws.map V.str))
 have et:upd H3 t1 (.lst (ws.map V.str)) t1=some (.lst (ws.map V.str)):=ae
 have el:=gt _ _ el
 have nt:t1≠p:=b3.pot.ne ht1
 have b4:=b3.same gt
 have nlt:l≠t1:=λz=>by rw[z,ht1] at el0;cases el0
 have ht0:=kK b3 nt ht1
 generalize upd H3 t1 (.lst (ws.map V.str))=H4 at gt et el b4
 have hata:atI (ws.map V.str) (a:Int)=some (.str ws[a]):=bf (by rw[w5,wt la];rfl)
 have hato:atI (ws.map V.str) (o:Int)=some (.str ws[o]):=bf (by rw[w5,wt lo];rfl)
 have ixa:∀xs:List V,xs.length=ws.length->ixN xs.length (a:Int)=some a:=λxs e=>by
  unfold ixN
  rw[if_pos (by omega),if_pos (by omega),yy]
 have ixo:∀xs:List V,xs.length=ws.length->ixN xs.length (o:Int)=some o:=λxs e=>by
  unfold ixN
  rw[if_pos (by omega),if_pos (by omega),yy]
 refine ⟨_,rfl,_,rfl,l,_,_,.str ws[o],rfl,rfl,SqL.of el,hato,_,rfl,_,rfl,t1,_,_,a,rfl,rfl,et,ixa _ (vZ _),?_⟩
 have e5:upd H4 t1 (.lst ((ws.map V.str).set a (.str ws[o]))) t1=some (.lst ((ws.set a ws[o]).map V.str)):=by rw[ae,BM]
 have el5:upd H4 t1 (.lst ((ws.map V.str).set a (.str ws[o]))) l=some (.lst (ws.map V.str)):=by rw[ax nlt];exact el
 have b5:Bu 1 p H (upd H4 t1 (.lst ((ws.map V.str).set a (.str ws[o])))):=b4.fg ht0 nt _
 generalize upd H4 t1 (.lst ((ws.map V.str).set a (.str ws[o])))=H5 at e5 el5 b5
 refine ⟨_,rfl,_,rfl,l,_,_,.str ws[a],rfl,rfl,SqL.of el5,hata,_,rfl,_,rfl,t1,_,_,o,rfl,rfl,e5,ixo _ (by rw[vZ,zt]),_,rfl,?_⟩
 refine q t1 ((ws.set a ws[o]).set o ws[a]) _ (b5.fg ht0 nt _) nt (by rw[ae];simp only[BM]) (wd.sub (λw hw =>.inl ?_) (by rw[zt,zt];omega))
 rcases zN hw with hw | rfl
 ·rcases zN hw with hw | rfl
  ·exact hw
  ·exact xX lo
 ·exact xX la
end
theorem tR {d:Int}(d0:0<=d)(d1:d<94):∃c,atI (Str.ofString " !\"#$&'()*+,-./0123456789:;<=>?@ABCDEFGHIJKLMNOPQRSTUVWXYZ[\\]^_`abcdefghijklmnopqrstuvwxyz{|}~").cps.toList d=some c:=by
 have h:(Str.ofString " !\"#$&'()*+,-./0123456789:;<=>?@ABCDEFGHIJKLMNOPQRSTUVWXYZ[\\]^_`abcdefghijklmnopqrstuvwxyz{|}~").cps.toList.length=94:=by decide +kernel
 obtain ⟨n,rfl⟩:∃n:Nat,d=n:=⟨d.toNat,by omega⟩
 exact ⟨_,bf (wt (show n<_ by rw[h];omega))⟩
abbrev om:Sp:=λvs H Q _=>∃(p:Addr) (z:Str),vs=[.ref p,.str z]/\Pt 1 H p/\z.length<=940000/\∀(y:Str) (H':Hp),Bu 1 p H H'->y.length<=1900000->Q (.str y) H'
@[irreducible] def kL:Sp:=om
theorem fz {vs:List V}{H:Hp}{Q:VK}{E:XK}:kL vs H Q E↔om vs H Q E:=by
 delta kL
 exact xr
section
variable  {P:wx}{w:wZ}{K:v5}{mg:Str->Option v8}{base:Heap}{f T:Addr}{fd:wR}
theorem dJ:aJ ["pot", "text", "signs", "sign", "at"] ["pot", "text"] (au gx):=⟨rfl,rfl,rfl,by decide +kernel,rfl,by decide +kernel,by decide +kernel⟩
theorem mZ (F:Fun K "_law_sign_put" "_law_sign_put" gx f fd)(B:Blt mg)(cLTake:Cal P w K mg base 1 "_law_take" ["pot", "many"] er)(C:Cst mg):aW P w K mg base CX0 2 f fd ["pot", "text"] kL:=by
 refine F.ok dJ (λvs H Q E h =>?_) (λcdv A outer s H vs Q E hr h =>?_)
 ·obtain ⟨_,_,rfl,_⟩:=fz.mp h
  rfl
 obtain ⟨p,z,rfl,hp,lz,q⟩:=fz.mp h
 refine ⟨_,(@ag _ _ _ _ _ (@ay _ _ 2 _ _ _ _ dJ.nd rfl (Or.inl rfl) aq rfl (by first | exact .inl rfl | exact .inr rfl | assumption))
  (@ag _ _ _ _ _ (@ay _ _ 3 _ _ _ _ dJ.nd rfl (Or.inl rfl) (@aO _ _ _ _ _ _ _ jZ (pv 2) (aG cLTake hr (by decide) rfl (@aa _ _ _ _ _ (pv 0) (@aa _ _ _ _ _ ai af rfl) rfl)) (λ_ _=>rfl)) rfl (by first | exact .inl rfl | exact .inr rfl | assumption))
  (@ag _ _ _ _ _ (@ay _ _ 4 _ _ _ _ dJ.nd rfl (Or.inl rfl) (aG cLTake hr (by decide) rfl (@aa _ _ _ _ _ (pv 0) (@aa _ _ _ _ _ (@aH _ _ _ _ _ _ _ _ aX (aD cC rfl B.b_len aU (@aa _ _ _ _ _ (pv 1) af rfl)) ai) af rfl) rfl)) rfl (by first | exact .inl rfl | exact .inr rfl | assumption))
  (@aj _ _ _ (@az _ _ _ _ (@aH _ _ _ _ _ _ _ _ dv (@aH _ _ _ _ _ _ _ _ dv (bp nE (pv 1) bQ (bC (pv 4))) (pv 3)) (bp nE (pv 1) (bC (@aH _ _ _ _ _ _ _ _ aX (pv 4) (aG cLTake hr (by decide) rfl (@aa _ _ _ _ _ (pv 0) (@aa _ _ _ _ _ ai af rfl) rfl)))) bQ))))))),?_⟩
 refine ⟨_,rfl,_,rfl,aF.mpr ⟨p,94,rfl,hp,by decide,aR (by decide) (by decide),λd H1 d0 d1 b1 =>?_⟩⟩
 obtain ⟨c,hc⟩:=tR d0 d1
 refine ⟨_,d,c,rfl,rfl,sz (by decide +kernel),hc,?_⟩
 refine ⟨_,rfl,_,rfl,z,rfl,sz (by omega),_,_,rfl,rfl,aF.mpr ⟨p,(z.length:Int)+1,rfl,b1.pot,by omega,vd (by omega) (by omega),λa H2 a0 a1 b2 =>?_⟩⟩
 have b2:=b1.trans b2
 refine ⟨_,rfl,_,rfl,_,rfl,z,rfl,sz (by omega),λy1 l1=>⟨_,rfl,_,_,rfl,rfl,sz (show y1.length+1<=2000000 by omega),?_⟩⟩
 refine ⟨_,rfl,_,rfl,_,rfl,aF.mpr ⟨p,2,rfl,b2.pot,by decide,aR (by decide) (by decide),λu H3 u0 u1 b3 =>?_⟩⟩
 refine ⟨_,_,rfl,rfl,_,rfl,z,rfl,sz (by omega),λy2 l2=>⟨_,_,rfl,rfl,?_,q _ _ (b2.trans b3) ?_⟩⟩
 ·rw[aM];exact sz (show y1.length+1+y2.length<=2000000 by omega)
 ·rw[aM,aM]
  show y1.length+1+y2.length<=1900000
  omega
end
open PySem L2
@[irreducible] def oo (cN:Addr):Sp:=λvs H Q E=>∃(k:Nat) (x:V),vs=[iv k,x]/\k<4/\((∃z:Str,x = .str z/\z.length<=1900000/\(∀b,l9 k z=some b->(∀dx H',aA H H'->H' dx=some (.xd [("at",iv (b))])->E (.ref cN) (some dx) H'))/\(l9 k z=none->∀H',aA H H'->Q (.str z) H'))\/(Oth H x/\(∀dx H',aA H H'->H' dx=some (.xd [("at",iv (0))])->E (.ref cN) (some dx) H')))
theorem eQ {cN:Addr}{vs:List V}{H:Hp}{Q:VK}{E:XK}:oo cN vs H Q E↔∃(k:Nat) (x:V),vs=[iv k,x]/\k<4/\((∃z:Str,x = .str z/\z.length<=1900000/\(∀b,l9 k z=some b->(∀dx H',aA H H'->H' dx=some (.xd [("at",iv (b))])->E (.ref cN) (some dx) H'))/\(l9 k z=none->∀H',aA H H'->Q (.str z) H'))\/(Oth H x/\(∀dx H',aA H H'->H' dx=some (.xd [("at",iv (0))])->E (.ref cN) (some dx) H'))):=by
 delta oo
 exact xr
section
variable  {P:wx}{w:wZ}{K:v5}{mg:Str->Option v8}{base:Heap}{f:Addr}{fd:wR}{c_WebError c_BadWeb c_NoStep c_NoText c_NoRow c_STEP_NUMBERS:Addr}
theorem m6:aJ ["kind", "text"] ["kind", "text"] (au gy):=⟨rfl,rfl,rfl,by decide +kernel,rfl,by decide +kernel,by decide +kernel⟩
theorem m7 (F:Fun K "_law_written" "_law_written" gy f fd)(B:Blt mg)(Z:Exs w K mg c_WebError c_BadWeb c_NoStep c_NoText c_NoRow c_STEP_NUMBERS)(xReadWeb:cA P w K mg base 5 "read_web" ["thing"] (nU c_NoText))(xReadOneway:cA P w K mg base 5 "read_oneway" ["thing"] (tw c_NoText))(xReadNumbers:cA P w K mg base 5 "read_numbers" ["thing"] (tD c_NoText))(xReadLog:cA P w K mg base 5 "read_log" ["thing"] (tH c_NoText))(cLogText:Cal P w K mg base 2 "log_text" ["log"] nP)(cWebText:Cal P w K mg base 2 "web_text" ["web"] nR)(cOnewayText:Cal P w K mg base 2 "oneway_text" ["web"] sV)(cNumbersText:Cal P w K mg base 2 "numbers_text" ["row"] sS)(C:Cst mg):aW P w K mg base (CX2 P w) 6 f fd ["kind", "text"] (oo c_NoText):=by
 refine F.ke m6 (λvs H Q E h =>?_) (λcdv A outer s H vs Q E hr h =>?_)
 ·obtain ⟨_,_,rfl,_⟩:=eQ.mp h
  rfl
 obtain ⟨k,x,rfl,k4,hh⟩:=eQ.mp h
 refine ⟨_,(@ag _ _ _ _ _ (@aP _ _ _ _ _ _ _ _ (ak aZ (pv 0) ai (ar _)) (@aj _ _ _ (@az _ _ _ _ (aG cWebText hr (by decide) rfl (@aa _ _ _ _ _ (bG bI xReadWeb hr (by decide) rfl (@aa _ _ _ _ _ (pv 1) af rfl)) af rfl)))) aB)
  (@ag _ _ _ _ _ (@aP _ _ _ _ _ _ _ _ (ak aZ (pv 0) ai (ar _)) (@aj _ _ _ (@az _ _ _ _ (aG cOnewayText hr (by decide) rfl (@aa _ _ _ _ _ (bG bI xReadOneway hr (by decide) rfl (@aa _ _ _ _ _ (pv 1) af rfl)) af rfl)))) aB)
  (@ag _ _ _ _ _ (@aP _ _ _ _ _ _ _ _ (ak aZ (pv 0) ai (ar _)) (@aj _ _ _ (@az _ _ _ _ (aG cNumbersText hr (by decide) rfl (@aa _ _ _ _ _ (bG bI xReadNumbers hr (by decide) rfl (@aa _ _ _ _ _ (pv 1) af rfl)) af rfl)))) aB)
  (@aj _ _ _ (@az _ _ _ _ (aG cLogText hr (by decide) rfl (@aa _ _ _ _ _ (bG bI xReadLog hr (by decide) rfl (@aa _ _ _ _ _ (pv 1) af rfl)) af rfl))))))),?_⟩
 match k,k4 with
 | 0,_ =>
  refine ⟨_,rfl,rfl,_,rfl,?_⟩
  rw[decide_eq_true (show V.int ((0:Nat):Int)=V.int 0 from rfl)]
  rcases hh with ⟨z,rfl,lz,be,q⟩ | ⟨ho,be⟩
  ·refine aE ⟨_,rfl,eM.mpr ⟨_,rfl,.inl ⟨z,rfl,lz,be,λhb r m ts H' m4 s W ez=>gA.mpr ⟨r,m,ts,rfl,W,by omega,by omega,λH2 s2 =>?_⟩⟩⟩⟩
   rw[show (sgn 45:Str) = "-" by decide +kernel] at ez
   rw[<- ez]
   exact q hb _ (s.trans s2)
  ·exact aE ⟨_,rfl,eM.mpr ⟨_,rfl,.inr ⟨ho,be⟩⟩⟩
 | 1,_ =>
  refine ⟨_,rfl,rfl,_,rfl,?_⟩
  rw[decide_eq_false (show ¬ V.int ((1:Nat):Int)=V.int 0 from λy=>absurd (V.int.inj y) (by decide))]
  refine aK ⟨_,rfl,rfl,_,rfl,?_⟩
  rw[decide_eq_true (show V.int ((1:Nat):Int)=V.int 1 from rfl)]
  rcases hh with ⟨z,rfl,lz,be,q⟩ | ⟨ho,be⟩
  ·refine aE ⟨_,rfl,gb.mpr ⟨_,rfl,.inl ⟨z,rfl,lz,be,λhb r m ts H' m4 s W ez=>iQ.mpr ⟨r,m,ts,rfl,W,by omega,by omega,λH2 s2 =>?_⟩⟩⟩⟩
   rw[show (sgn 62:Str) = ">" by decide +kernel] at ez
   rw[<- ez]
   exact q hb _ (s.trans s2)
  ·exact aE ⟨_,rfl,gb.mpr ⟨_,rfl,.inr ⟨ho,be⟩⟩⟩
 | 2,_ =>
  refine ⟨_,rfl,rfl,_,rfl,?_⟩
  rw[decide_eq_false (show ¬ V.int ((2:Nat):Int)=V.int 0 from λy=>absurd (V.int.inj y) (by decide))]
  refine aK ⟨_,rfl,rfl,_,rfl,?_⟩
  rw[decide_eq_false (show ¬ V.int ((2:Nat):Int)=V.int 1 from λy=>absurd (V.int.inj y) (by decide))]
  refine aK ⟨_,rfl,rfl,_,rfl,?_⟩
  rw[decide_eq_true (show V.int ((2:Nat):Int)=V.int 2 from rfl)]
  rcases hh with ⟨z,rfl,lz,be,q⟩ | ⟨ho,be⟩
  ·refine aE ⟨_,rfl,gc.mpr ⟨_,rfl,.inl ⟨z,rfl,lz,be,λhb t ns H' s et hn l6 ez=>iN.mpr ⟨t,ns,rfl,.inr et,hn,l6,λH2 s2 =>?_⟩⟩⟩⟩
   rw[<- ez]
   exact q hb _ (s.trans s2)
  ·exact aE ⟨_,rfl,gc.mpr ⟨_,rfl,.inr ⟨ho,be⟩⟩⟩
 | 3,_ =>
  refine ⟨_,rfl,rfl,_,rfl,?_⟩
  rw[decide_eq_false (show ¬ V.int ((3:Nat):Int)=V.int 0 from λy=>absurd (V.int.inj y) (by decide))]
  refine aK ⟨_,rfl,rfl,_,rfl,?_⟩
  rw[decide_eq_false (show ¬ V.int ((3:Nat):Int)=V.int 1 from λy=>absurd (V.int.inj y) (by decide))]
  refine aK ⟨_,rfl,rfl,_,rfl,?_⟩
  rw[decide_eq_false (show ¬ V.int ((3:Nat):Int)=V.int 2 from λy=>absurd (V.int.inj y) (by decide))]
  refine aK ?_
  rcases hh with ⟨z,rfl,lz,be,q⟩ | ⟨ho,be⟩
  ·refine ⟨_,rfl,gd.mpr ⟨_,rfl,.inl ⟨z,rfl,lz,be,λhb l ts H' s el tt l3 ez=>gz.mpr ⟨l,ts,rfl,.inl el,tt,l3,λH2 s2 =>?_⟩⟩⟩⟩
   rw[<- ez]
   exact q hb _ (s.trans s2)
  ·exact ⟨_,rfl,gd.mpr ⟨_,rfl,.inr ⟨ho,be⟩⟩⟩
 | k+4,h=>exact absurd h (by omega)
end
abbrev me:Sp:=λvs H Q _=>∃(k:Nat) (x:V),vs=[iv k,x]/\k<4/\((∃z:Str,x = .str z/\z.length<=1900000/\∀H',aA H H'->Q (pP z (l9 k z)) H')\/(Oth H x/\∀H',aA H H'->Q (iv 0) H'))
@[irreducible] def g9:Sp:=me
theorem bu {vs:List V}{H:Hp}{Q:VK}{E:XK}:g9 vs H Q E↔me vs H Q E:=by
 delta g9
 exact xr
theorem tS {X:Cx}{K:v5}(i:Nat){x f:Str}{p2 pos:Pos}(hN:X.N[i]? = some x:=by rfl)(hv:Vis X.env.scope x:=by first | exact Or.inl rfl | exact Or.inr (Or.inl rfl) | exact Or.inr (Or.inr rfl))(hd:(x == ("__debug__" : Str))=false:=by decide)
  (hcd:(x == ("__classdict__" : Str))=false:=by decide) (hK:X.K=K:=by rfl):PE X (.Attribute (.Name x p2) f pos) (vT K (uv i) f):=hK ▸ uX (pv i hN hv hd hcd) rfl
section
variable  {P:wx}{w:wZ}{K:v5}{mg:Str->Option v8}{base:Heap}{f:Addr}{fd:wR}{c_WebError c_BadWeb c_NoStep c_NoText c_NoRow c_STEP_NUMBERS:Addr}
theorem du:aJ ["kind", "thing", "found", "e"] ["kind", "thing"] (au ky):=⟨rfl,rfl,rfl,by decide +kernel,rfl,by decide +kernel,by decide +kernel⟩
theorem rE (F:Fun K "_law_asked" "_law_asked" ky f fd)(B:Blt mg)(Z:Exs w K mg c_WebError c_BadWeb c_NoStep c_NoText c_NoRow c_STEP_NUMBERS)(xLWritten:cA P w K mg base 6 "_law_written" ["kind", "text"] (oo c_NoText))(C:Cst mg):aW P w K mg base CX0 7 f fd ["kind", "thing"] g9:=by
 refine F.ok du (λvs H Q E h =>?_) (λcdv A outer s H vs Q E hr h =>?_)
 ·obtain ⟨_,_,rfl,_⟩:=bu.mp h
  rfl
 obtain ⟨k,x,rfl,k4,hh⟩:=bu.mp h
 refine ⟨_,(@ag _ _ _ _ _ (@ay _ _ 2 _ _ _ _ du.nd rfl (Or.inl rfl) bo rfl (by first | exact .inl rfl | exact .inr rfl | assumption))
  (@ag _ _ _ _ _ (sq (i:=3) (n := "e") (x := "WebError") rfl rfl du.nd rfl rfl rfl Z.x_WebError (sm (so (i:=2) du.nd rfl (Or.inl rfl) xLWritten hr (by decide) rfl (@aa _ _ _ _ _ (pv 0) (@aa _ _ _ _ _ (pv 1) af rfl) rfl))) (λ_=>(@ag _ _ _ _ _ (@ay _ _ 2 _ _ _ _ du.nd rfl (Or.inl rfl) aq rfl (by first | exact .inl rfl | exact .inr rfl | assumption))
    (@aj _ _ _ (@aP _ _ _ _ _ _ _ _ (PW.pt (cZ (cY (aD (jF (K:=K)) rfl B.b_isinstance bL (@aa _ _ _ _ _ (pv 3) (@aa _ _ _ _ _ (bA (v :=.ref c_NoText) rfl Z.x_NoText rfl) af rfl) rfl))) (cZ (cY (aD (jF (K:=K)) rfl B.b_isinstance bL (@aa _ _ _ _ _ (pv 3) (@aa _ _ _ _ _ (jW (v :=.ty "ValueError") rfl B.b_ValueError jf rfl) af rfl) rfl))) (cB (hJ (cY (aD (mH (K:=K)) rfl B.b_isinstance bL (@aa _ _ _ _ _ (pv 3) (@aa _ _ _ _ _ (@dX _ _ _ _ _ (@aa _ _ _ _ _ (bA (v :=.ref c_BadWeb) rfl Z.x_BadWeb rfl) (@aa _ _ _ _ _ (bA (v :=.ref c_NoStep) rfl Z.x_NoStep rfl) (@aa _ _ _ _ _ (bA (v :=.ref c_NoRow) rfl Z.x_NoRow rfl) af rfl) rfl) rfl)) af rfl) rfl)))))))) (@aj _ _ _ (@ay _ _ 2 _ _ _ _ du.nd rfl (Or.inl rfl) (tS (K:=K) 3) rfl (by first | exact .inl rfl | exact .inr rfl | assumption))) aB)))))
  (@aj _ _ _ (@az _ _ _ _ (pv 2))))),?_⟩
 rcases hh with ⟨z,rfl,lz,q⟩ | ⟨ho,q⟩
 ·refine ⟨_,rfl,_,rfl,eQ.mpr ⟨k,_,rfl,k4,.inl ⟨z,rfl,lz,λb hb dx H1 s1 ed=>⟨Z.xm_NoText,λea he =>?_⟩,λhb H1 s1 =>?_⟩⟩⟩
  ·skip
   obtain ⟨ZI,_,_⟩:=bc Z.xi_NoText
   obtain ⟨N,S⟩:=kh Z.xn_NoText
   have g1:=ah he (cU ea (.ref c_NoText) (some dx))
   have ee:upd H1 ea (cU ea (.ref c_NoText) (some dx)) ea=some (cU ea (.ref c_NoText) (some dx)):=ae
   have s2:=s1.trans g1
   have ed:=g1 _ _ ed
   generalize upd H1 ea (cU ea (.ref c_NoText) (some dx))=H2 at g1 ee s2 ed
   refine ⟨_,rfl,ea,_,_,_,true,rfl,ee,ZI,rfl,Z.k_self,_,rfl,aE ⟨_,rfl,ea,_,_,_,true,rfl,ee,ZI,rfl,Z.k_val,_,rfl,aE ?_⟩⟩
   refine ⟨_,rfl,(by show 3<=wa;decide),λtp htp =>?_⟩
   have g4:=ah htp (.tup [.ref c_BadWeb,.ref c_NoStep,.ref c_NoRow])
   have et:upd H2 tp (.tup [.ref c_BadWeb,.ref c_NoStep,.ref c_NoRow]) tp=some (.tup [.ref c_BadWeb,.ref c_NoStep,.ref c_NoRow]):=ae
   have ee:=g4 _ _ ee
   have ed:=g4 _ _ ed
   have s4:=s2.trans g4
   generalize upd H2 tp (.tup [.ref c_BadWeb,.ref c_NoStep,.ref c_NoRow])=H4 at g4 ee et s4 ed
   refine ⟨ea,_,tp,_,_,false,rfl,ee,ZI,et,λc hc=>xv.mp (show List.all [.ref c_BadWeb,.ref c_NoStep,.ref c_NoRow] jE=true from rfl) c hc,Z.xo_NoText,_,rfl,aE ?_⟩
   exact ⟨_,rfl,ea,_,dx,_,_,rfl,ee,ed,N,ZI,S.na,rfl,_,rfl,by rw[hb] at q;exact q _ s4⟩
  ·rw[hb] at q
   exact ⟨_,rfl,q _ s1⟩
 ·refine ⟨_,rfl,_,rfl,eQ.mpr ⟨k,_,rfl,k4,.inr ⟨ho,λdx H1 s1 ed=>⟨Z.xm_NoText,λea he =>?_⟩⟩⟩⟩
  obtain ⟨ZI,_,_⟩:=bc Z.xi_NoText
  obtain ⟨N,S⟩:=kh Z.xn_NoText
  have g1:=ah he (cU ea (.ref c_NoText) (some dx))
  have ee:upd H1 ea (cU ea (.ref c_NoText) (some dx)) ea=some (cU ea (.ref c_NoText) (some dx)):=ae
  have s2:=s1.trans g1
  have ed:=g1 _ _ ed
  generalize upd H1 ea (cU ea (.ref c_NoText) (some dx))=H2 at g1 ee s2 ed
  refine ⟨_,rfl,ea,_,_,_,true,rfl,ee,ZI,rfl,Z.k_self,_,rfl,aE ⟨_,rfl,ea,_,_,_,true,rfl,ee,ZI,rfl,Z.k_val,_,rfl,aE ?_⟩⟩
  refine ⟨_,rfl,(by show 3<=wa;decide),λtp htp =>?_⟩
  have g4:=ah htp (.tup [.ref c_BadWeb,.ref c_NoStep,.ref c_NoRow])
  have et:upd H2 tp (.tup [.ref c_BadWeb,.ref c_NoStep,.ref c_NoRow]) tp=some (.tup [.ref c_BadWeb,.ref c_NoStep,.ref c_NoRow]):=ae
  have ee:=g4 _ _ ee
  have ed:=g4 _ _ ed
  have s4:=s2.trans g4
  generalize upd H2 tp (.tup [.ref c_BadWeb,.ref c_NoStep,.ref c_NoRow])=H4 at g4 ee et s4 ed
  refine ⟨ea,_,tp,_,_,false,rfl,ee,ZI,et,λc hc=>xv.mp (show List.all [.ref c_BadWeb,.ref c_NoStep,.ref c_NoRow] jE=true from rfl) c hc,Z.xo_NoText,_,rfl,aE ?_⟩
  exact ⟨_,rfl,ea,_,dx,_,_,rfl,ee,ed,N,ZI,S.na,rfl,_,rfl,q _ s4⟩
end
open PySem L2
def mf (K:v5):Sp:=λvs H Q _=>∃(a:Addr) (ns:List Int),vs=[.ref a]/\SqL K H a (ns.map V.int)/\ns.length<=63/\∀H',Q (.bl true) H'
theorem jS {K:v5}{vs:List V}{H:Hp}{Q:VK}{E:XK}:mf K vs H Q E↔∃(a:Addr) (ns:List Int),vs=[.ref a]/\SqL K H a (ns.map V.int)/\ns.length<=63/\∀H',Q (.bl true) H':=xr
theorem rF {ws:List Str}(h:Wds ws 910):JoinOk " " ws=true/\(Txt.join " " ws).length<=940000:=by
 have l:=h.1
 constructor
 ·unfold JoinOk
  rw[Ad (B:=1000) h.2 (by rw[lO];omega)]
  rfl
 ·have a:=Al " " ws
  have key:∀ws:List Str,(∀w∈ws,w.length<=1000)->(ws.map (·.length)).sum<=1000*ws.length:=by
   intro ws
   induction ws with
   | nil=>simp
   | cons w ws ih =>
    intro h
    have h1:=h w wN
    have h2:=ih λx hx=>h x (wD _ hx)
    rw[xM,BJ,wk]
    omega
  have c:=key ws h.2
  show (Builtin.Str.glued " " ws).length<=_
  rw[xo]
  rw[lO] at a
  omega
section
variable  {P:wx}{w:wZ}{K:v5}{mg:Str->Option v8}{base:Heap}{f T:Addr}{fd:wR}
theorem eF:aJ ["script", "cell", "pot", "kind", "words", "k", "text", "found", "thing"] ["script"] (au pf):=⟨rfl,rfl,rfl,by decide +kernel,rfl,by decide +kernel,by decide +kernel⟩
theorem vY (F:Fun K "law" "law" pf f fd)(B:Blt mg)(cLDeal:Cal P w K mg base 1 "_law_deal" ["cell", "many"] kz)(cLWords:Cal P w K mg base 2 "_law_words" ["pot", "kind"] gY)(cLAsked:Cal P w K mg base 7 "_law_asked" ["kind", "thing"] g9)(cLTake:Cal P w K mg base 1 "_law_take" ["pot", "many"] er)(cLSpoilt:Cal P w K mg base 3 "_law_spoilt" ["pot", "words"] gZ)(cLSignPut:Cal P w K mg base 2 "_law_sign_put" ["pot", "text"] kL)(cLDue:Cal P w K mg base 4 "_law_due" ["kind", "text"] oh)(C:Cst mg):aW P w K mg base CX0 8 f fd ["script"] (mf K):=by
 refine F.ok eF (λvs H Q E h =>?_) (λcdv A outer s H vs Q E hr h =>?_)
 ·obtain ⟨_,_,rfl,_⟩:=jS.mp h
  rfl
 obtain ⟨a,ns,rfl,hS,h63,q⟩:=jS.mp h
 refine ⟨_,(@ag _ _ _ _ _ (@bY _ _ _ _ _ _ _ _ xt rfl (@gR _ _ _ _ (@aH _ _ _ _ _ _ _ _ cE (bp bZ (pv 0) bQ (bC ai)) (@aQ _ _ _ _ (@aa _ _ _ _ _ ai af rfl)))) (aV (i:=1) eF.nd rfl (Or.inl rfl))
   (@ag _ _ _ _ _ (@ay _ _ 2 _ _ _ _ eF.nd rfl (Or.inl rfl) (@aQ _ _ _ _ (@aa _ _ _ _ _ (aG cLDeal hr (by decide) rfl (@aa _ _ _ _ _ (pv 1) (@aa _ _ _ _ _ ai af rfl) rfl)) af rfl)) rfl (by first | exact .inl rfl | exact .inr rfl | assumption))
   (@aj _ _ _ (@bY _ _ _ _ _ _ _ _ xt rfl (cf rfl B.b_range (@aa _ _ _ _ _ ai af rfl)) (aV (i:=3) eF.nd rfl (Or.inl rfl))
    (@ag _ _ _ _ _ (@ay _ _ 4 _ _ _ _ eF.nd rfl (Or.inl rfl) (aG cLWords hr (by decide) rfl (@aa _ _ _ _ _ (pv 2) (@aa _ _ _ _ _ (pv 3) af rfl) rfl)) rfl (by first | exact .inl rfl | exact .inr rfl | assumption))
    (@ag _ _ _ _ _ (@bY _ _ _ _ _ _ _ _ xt rfl (cf rfl B.b_range (@aa _ _ _ _ _ (aG cLTake hr (by decide) rfl (@aa _ _ _ _ _ (pv 2) (@aa _ _ _ _ _ ai af rfl) rfl)) af rfl)) (aV (i:=5) eF.nd rfl (Or.inl rfl))
     (@aj _ _ _ (@ay _ _ 4 _ _ _ _ eF.nd rfl (Or.inl rfl) (aG cLSpoilt hr (by decide) rfl (@aa _ _ _ _ _ (pv 2) (@aa _ _ _ _ _ (pv 4) af rfl) rfl)) rfl (by first | exact .inl rfl | exact .inr rfl | assumption))) (λ_=>rfl))
    (@ag _ _ _ _ _ (@ay _ _ 6 _ _ _ _ eF.nd rfl (Or.inl rfl) (df yv yw gW aq (@aa _ _ _ _ _ (pv 4) af rfl)) rfl (by first | exact .inl rfl | exact .inr rfl | assumption))
    (@ag _ _ _ _ _ (@aP _ _ _ _ _ _ _ _ (ak aZ (aG cLTake hr (by decide) rfl (@aa _ _ _ _ _ (pv 2) (@aa _ _ _ _ _ ai af rfl) rfl)) ai (ar _)) (@aj _ _ _ (@ay _ _ 6 _ _ _ _ eF.nd rfl (Or.inl rfl) (aG cLSignPut hr (by decide) rfl (@aa _ _ _ _ _ (pv 2) (@aa _ _ _ _ _ (pv 6) af rfl) rfl)) rfl (by first | exact .inl rfl | exact .inr rfl | assumption))) aB)
    (@ag _ _ _ _ _ (@ay _ _ 7 _ _ _ _ eF.nd rfl (Or.inl rfl) (aG cLAsked hr (by decide) rfl (@aa _ _ _ _ _ (pv 3) (@aa _ _ _ _ _ (pv 6) af rfl) rfl)) rfl (by first | exact .inl rfl | exact .inr rfl | assumption))
    (@ag _ _ _ _ _ (@aP _ _ _ _ _ _ _ _ (PW.pt (bW (cY (aD gJ rfl B.b_isinstance bL (@aa _ _ _ _ _ (pv 7) (@aa _ _ _ _ _ (jW (v :=.ty "bool") rfl B.b_bool sO rfl) af rfl) rfl))) (bS (ak fE (pv 7) (aG cLDue hr (by decide) rfl (@aa _ _ _ _ _ (pv 3) (@aa _ _ _ _ _ (pv 6) af rfl) rfl)) (ar _))))) (@aj _ _ _ (@az _ _ _ _ m9)) aB)
    (@ag _ _ _ _ _ (@ay _ _ 8 _ _ _ _ eF.nd rfl (Or.inl rfl) (@aO _ _ _ _ _ _ _ aI (@aQ _ _ _ _ (@aa _ _ _ _ _ bo (@aa _ _ _ _ _ ai (@aa _ _ _ _ _ m9 (@aa _ _ _ _ _ (@aQ _ _ _ _ af) (@aa _ _ _ _ _ (@aQ _ _ _ _ (@aa _ _ _ _ _ aq (@aa _ _ _ _ _ aq af rfl) rfl)) (@aa _ _ _ _ _ (@dX _ _ _ _ _ (@aa _ _ _ _ _ aq af rfl)) (@aa _ _ _ _ _ qi af rfl) rfl) rfl) rfl) rfl) rfl) rfl)) (aG cLTake hr (by decide) rfl (@aa _ _ _ _ _ (pv 2) (@aa _ _ _ _ _ ai af rfl) rfl)) (λ_ _=>rfl)) rfl (by first | exact .inl rfl | exact .inr rfl | assumption))
    (@aj _ _ _ (@aP _ _ _ _ _ _ _ _ (ak fE (aG cLAsked hr (by decide) rfl (@aa _ _ _ _ _ (pv 3) (@aa _ _ _ _ _ (pv 8) af rfl) rfl)) ai (ar _)) (@aj _ _ _ (@az _ _ _ _ m9)) aB))))))))) (λ_=>rfl)))) (λ_=>rfl))
  (@aj _ _ _ (@az _ _ _ _ m9))),?_⟩
 refine ⟨_,rfl,16,rfl,a,_,rfl,hS,λl0 hl0 =>?_⟩
 obtain ⟨ms,em,lt,_⟩:=oN ns none (some 16)
 rw[em]
 have s1:=ah hl0 (.lst (ms.map V.int))
 refine ⟨(by show 1<=wa;decide),λl1 hl1=>⟨l0,l1,_,_,rfl,rfl,SqL.of ((ah hl1 _) _ _ ae),SqL.of ae,?_,λl2 hl2 =>?_⟩⟩
 ·rw[vZ]
  exact sz (by show _+1<=_;omega)
 have s2:=(s1.trans (ah hl1 (.lst [.int 4]))).trans (ah hl2 (.lst (ms.map V.int++[.int 4])))
 have e2:upd (upd (upd H l0 (.lst (ms.map V.int))) l1 (.lst [.int 4])) l2 (.lst (ms.map V.int++[.int 4])) l2=some (.lst ((ms++[4]).map V.int)):=by rw[ae,we];rfl
 generalize upd (upd (upd H l0 (.lst (ms.map V.int))) l1 (.lst [.int 4])) l2 (.lst (ms.map V.int++[.int 4]))=H2 at s2 e2
 refine ⟨l2,rfl,⟨_,SqL.of e2⟩,hX (xs:=(ms++[4]).map V.int) (λi σ H'=>(∃c1 c2 c3 c4 c5 c6 c7 c8,σ=[some (.ref a),c1,c2,c3,c4,c5,c6,c7,c8])/\aA H2 H') ⟨⟨_,_,_,_,_,_,_,_,rfl⟩,aA.refl _⟩ (λi σ H' _ k=>SqL.of (k.2 _ _ e2)) ?_ (λσ H' _=>q _)⟩
 rintro i x σ H3 hx ⟨⟨c1,c2,c3,c4,c5,c6,c7,c8,rfl⟩,s3⟩
 rw[w5] at hx
 obtain ⟨cell,_,rfl⟩:=Option.map_eq_some_iff.mp hx
 refine ⟨_,rfl,fu.mpr ⟨cell,300,rfl,by decide,by decide,λn=>⟨(by show 1<=wa;decide),λp hp =>?_⟩⟩⟩
 have p0:Pt 1 (upd H3 p (.lst [.int n])) p:=⟨[n],rfl,ae⟩
 have b0:=Bu.refl p0
 have fr:∀{H':Hp},Bu 1 p (upd H3 p (.lst [.int n])) H'->aA H3 H':=λb=>Bu.fresh hp b
 generalize upd H3 p (.lst [.int n])=H4 at p0 b0 fr
 refine ⟨4,rfl,by decide,by decide,bH (λkk σ H'=>(∃c3 c4 c5 c6 c7 c8,σ=[some (.ref a),some (.int cell),some (.ref p),c3,c4,c5,c6,c7,c8])/\Bu 1 p H4 H') ⟨⟨_,_,_,_,_,_,rfl⟩,b0⟩ ?_ ?_⟩
 ·rintro kk σ H5 k4 ⟨⟨c3,c4,c5,c6,c7,c8,rfl⟩,b5⟩
  have k4:kk<4:=k4
  rw[show (0+(kk:Int))=(kk:Int) from A9 _]
  refine ⟨_,rfl,_,rfl,eC.mpr ⟨p,kk,rfl,b5.pot,k4,λlw ws H6 b6 nlw elw wd =>?_⟩⟩
  have b6:=b5.trans b6
  refine ⟨_,rfl,aF.mpr ⟨p,4,rfl,b6.pot,by decide,aR (by decide) (by decide),λv H7 v0 v1 b7 =>?_⟩⟩
  have elw:=b7.st _ _ nlw elw
  have b7:=b6.trans b7
  refine ⟨v,rfl,by omega,by omega,bH (λj σ H'=>∃(l:Addr) (us:List Str) (c5:Option V),σ=[some (.ref a),some (.int cell),some (.ref p),some (iv kk),some (.ref l),c5,c6,c7,c8]/\Bu 1 p H4 H'/\l≠p/\H' l=some (.lst (us.map V.str))/\Wds us (900+j)) ⟨lw,ws,_,rfl,b7,nlw,elw,wd⟩ ?_ ?_⟩
  ·rintro j σ H8 hj ⟨l,us,c5,rfl,b8,nl,el,wd8⟩
   have wl:=wd8.1
   have hj4:j<4:=by omega
   refine ⟨_,rfl,_,rfl,eE.mpr ⟨p,l,us,rfl,b8.pot,nl,el,⟨by omega,wd8.2⟩,λl' us' H9 b9 nl' el' wd9=>⟨l',us',_,rfl,b8.trans b9,nl',el',⟨by have:=wd9.1;omega,wd9.2⟩⟩⟩⟩
  ·rintro σ H8 ⟨l,us,c5,rfl,b8,nl,el,wd8⟩
   have wl:=wd8.1
   obtain ⟨jo,jl⟩:=rF (ws:=us) ⟨by omega,wd8.2⟩
   refine ⟨⟨_,rfl⟩,_,rfl, " ",l,_,rfl,rfl,SqL.of el,jo,?_⟩
   generalize Txt.join " " us=z at jl
   refine ⟨_,rfl,aF.mpr ⟨p,3,rfl,b8.pot,by decide,aR (by decide) (by decide),λu H9 u0 u1 b9=>⟨rfl,_,rfl,?_⟩⟩⟩
   have b9:=b8.trans b9
   refine eS (λ_ =>?_) λ_ =>?_
   ·refine ⟨_,rfl,_,rfl,fz.mpr ⟨p,z,rfl,b9.pot,jl,λy Ha ba ly =>?_⟩⟩
    have ba:=b9.trans ba
    refine ⟨_,rfl,_,rfl,bu.mpr ⟨kk,_,rfl,k4,.inl ⟨y,rfl,ly,λG1 s1 =>?_⟩⟩⟩
    have c1:=ba.same s1
    cases hb:l9 kk y with
    | none =>
     refine ⟨_,rfl,.str y, "bool",_,false,rfl,.str y,rfl,_,rfl,aK ⟨_,rfl,_,rfl,_,rfl,cH.mpr ⟨kk,y,rfl,k4,ly,λG2 s2 =>?_⟩⟩⟩
     rw[hb]
     refine ⟨rfl,_,rfl,gG rfl ?_⟩
     have c2:=c1.same s2
     refine ⟨(by show 0<=wa;decide),λm1 h1 =>?_⟩
     have g1:=ah h1 (.lst [])
     have e1:upd G2 m1 (.lst []) m1=some (.lst []):=ae
     have n1:=c2.pot.ne h1
     have c3:=c2.same g1
     generalize upd G2 m1 (.lst [])=G3 at g1 e1 c3
     refine ⟨(by show 2<=wa;decide),λm2 h2 =>?_⟩
     have g2:=ah h2 (.lst [.str "web",.str "0"])
     have e2:upd G3 m2 (.lst [.str "web",.str "0"]) m2=some (.lst [.str "web",.str "0"]):=ae
     have n2:=c3.pot.ne h2
     have e1:=g2 _ _ e1
     have c4:=c3.same g2
     generalize upd G3 m2 (.lst [.str "web",.str "0"])=G4 at g2 e1 e2 c4
     refine ⟨(by show 1<=wa;decide),λm3 h3 =>?_⟩
     have g3:=ah h3 (.tup [.str "-"])
     have e3:upd G4 m3 (.tup [.str "-"]) m3=some (.tup [.str "-"]):=ae
     have n3:=c4.pot.ne h3
     have e1:=g3 _ _ e1
     have e2:=g3 _ _ e2
     have c5:=c4.same g3
     generalize upd G4 m3 (.tup [.str "-"])=G5 at g3 e1 e2 e3 c5
     refine λm4 h4 =>?_
     have g4:=ah h4 (.dK [])
     have e4:upd G5 m4 (.dK []) m4=some (.dK []):=ae
     have n4:=c5.pot.ne h4
     have e1:=g4 _ _ e1
     have e2:=g4 _ _ e2
     have e3:=g4 _ _ e3
     have c6:=c5.same g4
     generalize upd G5 m4 (.dK [])=G6 at g4 e1 e2 e3 e4 c6
     refine ⟨(by show 7<=wa;decide),λm5 h5 =>?_⟩
     have g5:=ah h5 (.lst [.non,.int 0,.bl true,.ref m1,.ref m2,.ref m3,.ref m4])
     have e5:upd G6 m5 (.lst [.non,.int 0,.bl true,.ref m1,.ref m2,.ref m3,.ref m4]) m5=some (.lst [.non,.int 0,.bl true,.ref m1,.ref m2,.ref m3,.ref m4]):=ae
     have n5:=c6.pot.ne h5
     have e1:=g5 _ _ e1
     have e2:=g5 _ _ e2
     have e3:=g5 _ _ e3
     have e4:=g5 _ _ e4
     have c7:=c6.same g5
     generalize upd G6 m5 (.lst [.non,.int 0,.bl true,.ref m1,.ref m2,.ref m3,.ref m4])=G7 at g5 e1 e2 e3 e4 e5 c7
     refine ⟨_,rfl,aF.mpr ⟨p,7,rfl,c7.pot,by decide,aR (by decide) (by decide),λu G8 u0 u1 c8 =>?_⟩⟩
     have e1:=c8.st _ _ n1 e1
     have e2:=c8.st _ _ n2 e2
     have e3:=c8.st _ _ n3 e3
     have e4:=c8.st _ _ n4 e4
     have e5:=c8.st _ _ n5 e5
     have c8:=c7.trans c8
     obtain ⟨x,hx,ho⟩:∃x,atI [.non,.int 0,.bl true,.ref m1,.ref m2,.ref m3,.ref m4] u=some x/\Oth G8 x:=by
      obtain rfl | rfl | rfl | rfl | rfl | rfl | rfl:u=0\/u=1\/u=2\/u=3\/u=4\/u=5\/u=6:=by omega
      ·exact ⟨_,rfl,.non⟩
      ·exact ⟨_,rfl,.int 0⟩
      ·exact ⟨_,rfl,.bl true⟩
      ·exact ⟨_,rfl,.lst e1⟩
      ·exact ⟨_,rfl,.lst e2⟩
      ·exact ⟨_,rfl,.tup e3⟩
      ·exact ⟨_,rfl,.dic e4⟩
     refine ⟨m5,_,u,x,rfl,rfl,SqL.of e5,hx,?_⟩
     exact ⟨_,rfl,_,rfl,bu.mpr ⟨kk,x,rfl,k4,.inr ⟨ho,λG9 s9=>⟨rfl,_,rfl,gG rfl ⟨⟨_,_,_,_,_,_,rfl⟩,c8.same s9⟩⟩⟩⟩⟩
    | some n =>
     refine ⟨_,rfl,iv n, "bool",_,false,rfl,.int n,rfl,_,rfl,aK ⟨_,rfl,_,rfl,_,rfl,cH.mpr ⟨kk,y,rfl,k4,ly,λG2 s2 =>?_⟩⟩⟩
     rw[hb]
     refine ⟨rfl,_,rfl,gG rfl ?_⟩
     have c2:=c1.same s2
     refine ⟨(by show 0<=wa;decide),λm1 h1 =>?_⟩
     have g1:=ah h1 (.lst [])
     have e1:upd G2 m1 (.lst []) m1=some (.lst []):=ae
     have n1:=c2.pot.ne h1
     have c3:=c2.same g1
     generalize upd G2 m1 (.lst [])=G3 at g1 e1 c3
     refine ⟨(by show 2<=wa;decide),λm2 h2 =>?_⟩
     have g2:=ah h2 (.lst [.str "web",.str "0"])
     have e2:upd G3 m2 (.lst [.str "web",.str "0"]) m2=some (.lst [.str "web",.str "0"]):=ae
     have n2:=c3.pot.ne h2
     have e1:=g2 _ _ e1
     have c4:=c3.same g2
     generalize upd G3 m2 (.lst [.str "web",.str "0"])=G4 at g2 e1 e2 c4
     refine ⟨(by show 1<=wa;decide),λm3 h3 =>?_⟩
     have g3:=ah h3 (.tup [.str "-"])
     have e3:upd G4 m3 (.tup [.str "-"]) m3=some (.tup [.str "-"]):=ae
     have n3:=c4.pot.ne h3
     have e1:=g3 _ _ e1
     have e2:=g3 _ _ e2
     have c5:=c4.same g3
     generalize upd G4 m3 (.tup [.str "-"])=G5 at g3 e1 e2 e3 c5
     refine λm4 h4 =>?_
     have g4:=ah h4 (.dK [])
     have e4:upd G5 m4 (.dK []) m4=some (.dK []):=ae
     have n4:=c5.pot.ne h4
     have e1:=g4 _ _ e1
     have e2:=g4 _ _ e2
     have e3:=g4 _ _ e3
     have c6:=c5.same g4
     generalize upd G5 m4 (.dK [])=G6 at g4 e1 e2 e3 e4 c6
     refine ⟨(by show 7<=wa;decide),λm5 h5 =>?_⟩
     have g5:=ah h5 (.lst [.non,.int 0,.bl true,.ref m1,.ref m2,.ref m3,.ref m4])
     have e5:upd G6 m5 (.lst [.non,.int 0,.bl true,.ref m1,.ref m2,.ref m3,.ref m4]) m5=some (.lst [.non,.int 0,.bl true,.ref m1,.ref m2,.ref m3,.ref m4]):=ae
     have n5:=c6.pot.ne h5
     have e1:=g5 _ _ e1
     have e2:=g5 _ _ e2
     have e3:=g5 _ _ e3
     have e4:=g5 _ _ e4
     have c7:=c6.same g5
     generalize upd G6 m5 (.lst [.non,.int 0,.bl true,.ref m1,.ref m2,.ref m3,.ref m4])=G7 at g5 e1 e2 e3 e4 e5 c7
     refine ⟨_,rfl,aF.mpr ⟨p,7,rfl,c7.pot,by decide,aR (by decide) (by decide),λu G8 u0 u1 c8 =>?_⟩⟩
     have e1:=c8.st _ _ n1 e1
     have e2:=c8.st _ _ n2 e2
     have e3:=c8.st _ _ n3 e3
     have e4:=c8.st _ _ n4 e4
     have e5:=c8.st _ _ n5 e5
     have c8:=c7.trans c8
     obtain ⟨x,hx,ho⟩:∃x,atI [.non,.int 0,.bl true,.ref m1,.ref m2,.ref m3,.ref m4] u=some x/\Oth G8 x:=by
      obtain rfl | rfl | rfl | rfl | rfl | rfl | rfl:u=0\/u=1\/u=2\/u=3\/u=4\/u=5\/u=6:=by omega
      ·exact ⟨_,rfl,.non⟩
      ·exact ⟨_,rfl,.int 0⟩
      ·exact ⟨_,rfl,.bl true⟩
      ·exact ⟨_,rfl,.lst e1⟩
      ·exact ⟨_,rfl,.lst e2⟩
      ·exact ⟨_,rfl,.tup e3⟩
      ·exact ⟨_,rfl,.dic e4⟩
     refine ⟨m5,_,u,x,rfl,rfl,SqL.of e5,hx,?_⟩
     exact ⟨_,rfl,_,rfl,bu.mpr ⟨kk,x,rfl,k4,.inr ⟨ho,λG9 s9=>⟨rfl,_,rfl,gG rfl ⟨⟨_,_,_,_,_,_,rfl⟩,c8.same s9⟩⟩⟩⟩⟩
   ·skip
    refine ⟨_,rfl,_,rfl,bu.mpr ⟨kk,_,rfl,k4,.inl ⟨z,rfl,(wy jl (by decide)),λG1 s1 =>?_⟩⟩⟩
    have c1:=b9.same s1
    cases hb:l9 kk z with
    | none =>
     refine ⟨_,rfl,.str z, "bool",_,false,rfl,.str z,rfl,_,rfl,aK ⟨_,rfl,_,rfl,_,rfl,cH.mpr ⟨kk,z,rfl,k4,(wy jl (by decide)),λG2 s2 =>?_⟩⟩⟩
     rw[hb]
     refine ⟨rfl,_,rfl,gG rfl ?_⟩
     have c2:=c1.same s2
     refine ⟨(by show 0<=wa;decide),λm1 h1 =>?_⟩
     have g1:=ah h1 (.lst [])
     have e1:upd G2 m1 (.lst []) m1=some (.lst []):=ae
     have n1:=c2.pot.ne h1
     have c3:=c2.same g1
     generalize upd G2 m1 (.lst [])=G3 at g1 e1 c3
     refine ⟨(by show 2<=wa;decide),λm2 h2 =>?_⟩
     have g2:=ah h2 (.lst [.str "web",.str "0"])
     have e2:upd G3 m2 (.lst [.str "web",.str "0"]) m2=some (.lst [.str "web",.str "0"]):=ae
     have n2:=c3.pot.ne h2
     have e1:=g2 _ _ e1
     have c4:=c3.same g2
     generalize upd G3 m2 (.lst [.str "web",.str "0"])=G4 at g2 e1 e2 c4
     refine ⟨(by show 1<=wa;decide),λm3 h3 =>?_⟩
     have g3:=ah h3 (.tup [.str "-"])
     have e3:upd G4 m3 (.tup [.str "-"]) m3=some (.tup [.str "-"]):=ae
     have n3:=c4.pot.ne h3
     have e1:=g3 _ _ e1
     have e2:=g3 _ _ e2
     have c5:=c4.same g3
     generalize upd G4 m3 (.tup [.str "-"])=G5 at g3 e1 e2 e3 c5
     refine λm4 h4 =>?_
     have g4:=ah h4 (.dK [])
     have e4:upd G5 m4 (.dK []) m4=some (.dK []):=ae
     have n4:=c5.pot.ne h4
     have e1:=g4 _ _ e1
     have e2:=g4 _ _ e2
     have e3:=g4 _ _ e3
     have c6:=c5.same g4
     generalize upd G5 m4 (.dK [])=G6 at g4 e1 e2 e3 e4 c6
     refine ⟨(by show 7<=wa;decide),λm5 h5 =>?_⟩
     have g5:=ah h5 (.lst [.non,.int 0,.bl true,.ref m1,.ref m2,.ref m3,.ref m4])
     have e5:upd G6 m5 (.lst [.non,.int 0,.bl true,.ref m1,.ref m2,.ref m3,.ref m4]) m5=some (.lst [.non,.int 0,.bl true,.ref m1,.ref m2,.ref m3,.ref m4]):=ae
     have n5:=c6.pot.ne h5
     have e1:=g5 _ _ e1
     have e2:=g5 _ _ e2
     have e3:=g5 _ _ e3
     have e4:=g5 _ _ e4
     have c7:=c6.same g5
     generalize upd G6 m5 (.lst [.non,.int 0,.bl true,.ref m1,.ref m2,.ref m3,.ref m4])=G7 at g5 e1 e2 e3 e4 e5 c7
     refine ⟨_,rfl,aF.mpr ⟨p,7,rfl,c7.pot,by decide,aR (by decide) (by decide),λu G8 u0 u1 c8 =>?_⟩⟩
     have e1:=c8.st _ _ n1 e1
     have e2:=c8.st _ _ n2 e2
     have e3:=c8.st _ _ n3 e3
     have e4:=c8.st _ _ n4 e4
     have e5:=c8.st _ _ n5 e5
     have c8:=c7.trans c8
     obtain ⟨x,hx,ho⟩:∃x,atI [.non,.int 0,.bl true,.ref m1,.ref m2,.ref m3,.ref m4] u=some x/\Oth G8 x:=by
      obtain rfl | rfl | rfl | rfl | rfl | rfl | rfl:u=0\/u=1\/u=2\/u=3\/u=4\/u=5\/u=6:=by omega
      ·exact ⟨_,rfl,.non⟩
      ·exact ⟨_,rfl,.int 0⟩
      ·exact ⟨_,rfl,.bl true⟩
      ·exact ⟨_,rfl,.lst e1⟩
      ·exact ⟨_,rfl,.lst e2⟩
      ·exact ⟨_,rfl,.tup e3⟩
      ·exact ⟨_,rfl,.dic e4⟩
     refine ⟨m5,_,u,x,rfl,rfl,SqL.of e5,hx,?_⟩
     exact ⟨_,rfl,_,rfl,bu.mpr ⟨kk,x,rfl,k4,.inr ⟨ho,λG9 s9=>⟨rfl,_,rfl,gG rfl ⟨⟨_,_,_,_,_,_,rfl⟩,c8.same s9⟩⟩⟩⟩⟩
    | some n =>
     refine ⟨_,rfl,iv n, "bool",_,false,rfl,.int n,rfl,_,rfl,aK ⟨_,rfl,_,rfl,_,rfl,cH.mpr ⟨kk,z,rfl,k4,(wy jl (by decide)),λG2 s2 =>?_⟩⟩⟩
     rw[hb]
     refine ⟨rfl,_,rfl,gG rfl ?_⟩
     have c2:=c1.same s2
     refine ⟨(by show 0<=wa;decide),λm1 h1 =>?_⟩
     have g1:=ah h1 (.lst [])
     have e1:upd G2 m1 (.lst []) m1=some (.lst []):=ae
     have n1:=c2.pot.ne h1
     have c3:=c2.same g1
     generalize upd G2 m1 (.lst [])=G3 at g1 e1 c3
     refine ⟨(by show 2<=wa;decide),λm2 h2 =>?_⟩
     have g2:=ah h2 (.lst [.str "web",.str "0"])
     have e2:upd G3 m2 (.lst [.str "web",.str "0"]) m2=some (.lst [.str "web",.str "0"]):=ae
     have n2:=c3.pot.ne h2
     have e1:=g2 _ _ e1
     have c4:=c3.same g2
     generalize upd G3 m2 (.lst [.str "web",.str "0"])=G4 at g2 e1 e2 c4
     refine ⟨(by show 1<=wa;decide),λm3 h3 =>?_⟩
     have g3:=ah h3 (.tup [.str "-"])
     have e3:upd G4 m3 (.tup [.str "-"]) m3=some (.tup [.str "-"]):=ae
     have n3:=c4.pot.ne h3
     have e1:=g3 _ _ e1
     have e2:=g3 _ _ e2
     have c5:=c4.same g3
     generalize upd G4 m3 (.tup [.str "-"])=G5 at g3 e1 e2 e3 c5
     refine λm4 h4 =>?_
     have g4:=ah h4 (.dK [])
     have e4:upd G5 m4 (.dK []) m4=some (.dK []):=ae
     have n4:=c5.pot.ne h4
     have e1:=g4 _ _ e1
     have e2:=g4 _ _ e2
     have e3:=g4 _ _ e3
     have c6:=c5.same g4
     generalize upd G5 m4 (.dK [])=G6 at g4 e1 e2 e3 e4 c6
     refine ⟨(by show 7<=wa;decide),λm5 h5 =>?_⟩
     have g5:=ah h5 (.lst [.non,.int 0,.bl true,.ref m1,.ref m2,.ref m3,.ref m4])
     have e5:upd G6 m5 (.lst [.non,.int 0,.bl true,.ref m1,.ref m2,.ref m3,.ref m4]) m5=some (.lst [.non,.int 0,.bl true,.ref m1,.ref m2,.ref m3,.ref m4]):=ae
     have n5:=c6.pot.ne h5
     have e1:=g5 _ _ e1
     have e2:=g5 _ _ e2
     have e3:=g5 _ _ e3
     have e4:=g5 _ _ e4
     have c7:=c6.same g5
     generalize upd G6 m5 (.lst [.non,.int 0,.bl true,.ref m1,.ref m2,.ref m3,.ref m4])=G7 at g5 e1 e2 e3 e4 e5 c7
     refine ⟨_,rfl,aF.mpr ⟨p,7,rfl,c7.pot,by decide,aR (by decide) (by decide),λu G8 u0 u1 c8 =>?_⟩⟩
     have e1:=c8.st _ _ n1 e1
     have e2:=c8.st _ _ n2 e2
     have e3:=c8.st _ _ n3 e3
     have e4:=c8.st _ _ n4 e4
     have e5:=c8.st _ _ n5 e5
     have c8:=c7.trans c8
     obtain ⟨x,hx,ho⟩:∃x,atI [.non,.int 0,.bl true,.ref m1,.ref m2,.ref m3,.ref m4] u=some x/\Oth G8 x:=by
      obtain rfl | rfl | rfl | rfl | rfl | rfl | rfl:u=0\/u=1\/u=2\/u=3\/u=4\/u=5\/u=6:=by omega
      ·exact ⟨_,rfl,.non⟩
      ·exact ⟨_,rfl,.int 0⟩
      ·exact ⟨_,rfl,.bl true⟩
      ·exact ⟨_,rfl,.lst e1⟩
      ·exact ⟨_,rfl,.lst e2⟩
      ·exact ⟨_,rfl,.tup e3⟩
      ·exact ⟨_,rfl,.dic e4⟩
     refine ⟨m5,_,u,x,rfl,rfl,SqL.of e5,hx,?_⟩
     exact ⟨_,rfl,_,rfl,bu.mpr ⟨kk,x,rfl,k4,.inr ⟨ho,λG9 s9=>⟨rfl,_,rfl,gG rfl ⟨⟨_,_,_,_,_,_,rfl⟩,c8.same s9⟩⟩⟩⟩⟩
 ·rintro σ H5 ⟨⟨c3,c4,c5,c6,c7,c8,rfl⟩,b5⟩
  exact ⟨⟨_,_,_,_,_,_,_,_,rfl⟩,s3.trans (fr b5)⟩
end
open PySem L2
theorem all_mk {l:PySem.W.OpenLaw}{w:wZ}{K:v5}{h:Heap}{mg:Str->Option v8}{fa:Addr}(X:K.In h)(G:h.Ns wM mg)(hfa:mg "law" = some (.ref fa))
  (h1:br K "is_rising" gs) (h2:br K "pairs_text" fj) (h3:br K "web_text" iD) (h4:br K "oneway_text" eh) (h5:br K "words_text" fk) (h6:br K "numbers_text" dA) (h7:br K "log_text" iE) (h8:br K "number_read" ej) (h9:br K "pair_read" gv) (h10:br K "words_of" iF) (h11:br K "rows_words" fm) (h12:br K "is_tie_behind" dB) (h13:br K "is_arrow_behind" cO) (h14:br K "pairs_read" fo) (h15:br K "read_web" iG) (h16:br K "read_oneway" ek) (h17:br K "read_numbers" dC) (h18:br K "step_read" gw) (h19:br K "read_log" iH) (h20:br K "_law_deal" mO) (h21:br K "_law_take" mP) (h22:br K "_law_number" iI) (h23:br K "_law_pair" mQ) (h24:br K "_law_bad_pairs" fq) (h25:br K "_law_bad_row" iJ) (h26:br K "_law_bad_log" iK) (h27:br K "_law_words" kx) (h28:br K "_law_odd" qP) (h29:br K "_law_spoilt" iL) (h30:br K "_law_sign_put" gx) (h31:br K "_law_written" gy) (h32:br K "_law_asked" ky) (h33:br K "_law_due" qQ) (h34:br K "law" pf)
  (y_all:wC K wM "all" = some none) (y_bool:wC K wM "bool" = some none) (y_enumerate:wC K wM "enumerate" = some none) (y_int:wC K wM "int" = some none) (y_isinstance:wC K wM "isinstance" = some none) (y_len:wC K wM "len" = some none) (y_list:wC K wM "list" = some none) (y_range:wC K wM "range" = some none) (y_str:wC K wM "str" = some none) (y_tuple:wC K wM "tuple" = some none) (y_zip:wC K wM "zip" = some none) (y_ValueError:wC K wM "ValueError" = some none)
  {t_MOST_PLACES:Nat} (q_MOST_PLACES:wC K wM "MOST_PLACES" = some (some (.int 40 t_MOST_PLACES)))
  {t_MOST_TIES:Nat} (q_MOST_TIES:wC K wM "MOST_TIES" = some (some (.int 200 t_MOST_TIES)))
  {t_FIGURES:Nat} (q_FIGURES:wC K wM "FIGURES" = some (some (.str "0123456789" t_FIGURES)))
  {t_MOST_NUMBERS:Nat} (q_MOST_NUMBERS:wC K wM "MOST_NUMBERS" = some (some (.int 60 t_MOST_NUMBERS)))
  {t_MOST_STEPS:Nat} (q_MOST_STEPS:wC K wM "MOST_STEPS" = some (some (.int 300 t_MOST_STEPS)))
  {c_WebError:Addr} (e_WebError:wC K wM "WebError" = some (some (.ref c_WebError)))
  {c_BadWeb:Addr} (e_BadWeb:wC K wM "BadWeb" = some (some (.ref c_BadWeb)))
  {c_NoStep:Addr} (e_NoStep:wC K wM "NoStep" = some (some (.ref c_NoStep)))
  {c_NoText:Addr} (e_NoText:wC K wM "NoText" = some (some (.ref c_NoText)))
  {c_NoRow:Addr} (e_NoRow:wC K wM "NoRow" = some (some (.ref c_NoRow)))
  {c_STEP_NUMBERS:Addr} (e_STEP_NUMBERS:wC K wM "STEP_NUMBERS" = some (some (.ref c_STEP_NUMBERS)))
  (xi_NoText:L2.sE K c_NoText=true)
  (xn_NoText:L2.sF K c_NoText "at" = true)
  (k_self:PySem.W.kitOne K (.ref c_NoText) (.ref c_NoText)=some true)
  (k_val:PySem.W.kitOne K (.ref c_NoText) (.type "ValueError")=some true)
  (xm_NoText:PySem.W.exmOne K (.ref c_NoText) (.ref c_WebError)=some true)
  (xo_NoText:PySem.W.kitAny K (.ref c_NoText) [.ref c_BadWeb,.ref c_NoStep,.ref c_NoRow]=some false)
  (w_ga:PySem.W.specialIn K (.ref c_WebError) "__getattribute__" = some (some (.builtin "type.__getattribute__")))
  (w_rd:PySem.W.readsIn K c_WebError (.type "type")=true)
  (w_fd:PySem.W.findCls K (.ref c_WebError) (.type "type") "__init__" = some (.val (.builtin "ValueError.__init__")))
  (hi_NoText:L2.oU K c_NoText "__init__" "NoText.__init__" ft)
  {es_:Array DictEntry} {n_:Nat} {t1_ t2_ t3_ t4_:Tok} (dlk:K.lookup c_STEP_NUMBERS=some ⟨.type "dict",none,.dict es_ n_, #[]⟩)
  (dl1:wC K c_STEP_NUMBERS "lone" = some (some (.int 1 t1_)))
  (dl2:wC K c_STEP_NUMBERS "two" = some (some (.int 1 t2_)))
  (dl3:wC K c_STEP_NUMBERS "loop" = some (some (.int 1 t3_)))
  (dl4:wC K c_STEP_NUMBERS "many" = some (some (.int 2 t4_)))
  (dls:(c_STEP_NUMBERS == sysModules)=false)
  (dlq:PySem.W.KeysLit w.params es_.toList)
  (dl5:q9 es_=true)
  : ∃fd:wR,(∀(s:v9) (v:v8),BindsTo s fd ⟨[v],[]⟩ [("script",v)])/\∀base:Heap,K.In base->base.Ns wM mg->aW l.prog w K mg base CX0 8 fa fd ["script"] (mf K):=by
 obtain ⟨fl,od,an,sl,oc,kV,dc,pm,cd,ct,al,ll,cl,kl⟩:=h34
 have e:=hfa.symm.trans (xw X G al)
 cases e
 have F34:=j8 ll cl kl
 have z_all:=xg X G y_all
 have z_bool:=xg X G y_bool
 have z_enumerate:=xg X G y_enumerate
 have z_int:=xg X G y_int
 have z_isinstance:=xg X G y_isinstance
 have z_len:=xg X G y_len
 have z_list:=xg X G y_list
 have z_range:=xg X G y_range
 have z_str:=xg X G y_str
 have z_tuple:=xg X G y_tuple
 have z_zip:=xg X G y_zip
 have z_ValueError:=xg X G y_ValueError
 have w_MOST_PLACES:=xw X G q_MOST_PLACES
 have w_MOST_TIES:=xw X G q_MOST_TIES
 have w_FIGURES:=xw X G q_FIGURES
 have w_MOST_NUMBERS:=xw X G q_MOST_NUMBERS
 have w_MOST_STEPS:=xw X G q_MOST_STEPS
 refine ⟨PySem.W.fnOf "law" "law" (bR pf) (bD pf) (au pf) .none kV dc pm an cd ct,λs v =>.of_eq rfl,λbase kb nb =>?_⟩
 have B:Blt mg:=⟨z_all,z_bool,z_enumerate,z_int,z_isinstance,z_len,z_list,z_range,z_str,z_tuple,z_zip,z_ValueError⟩
 have C:Cst mg:=⟨⟨_,w_MOST_PLACES⟩,⟨_,w_MOST_TIES⟩,⟨_,w_FIGURES⟩,⟨_,w_MOST_NUMBERS⟩,⟨_,w_MOST_STEPS⟩⟩
 have x_WebError:=xw X G e_WebError
 have x_BadWeb:=xw X G e_BadWeb
 have x_NoStep:=xw X G e_NoStep
 have x_NoText:=xw X G e_NoText
 have x_NoRow:=xw X G e_NoRow
 have x_STEP_NUMBERS:=xw X G e_STEP_NUMBERS
 have Z:Exs w K mg c_WebError c_BadWeb c_NoStep c_NoText c_NoRow c_STEP_NUMBERS:=⟨x_WebError,x_BadWeb,x_NoStep,x_NoText,x_NoRow,x_STEP_NUMBERS,xi_NoText,xn_NoText,k_self,k_val,xm_NoText,xo_NoText,w_ga,w_rd,w_fd,⟨dls,_,_,dlk,dlq⟩,⟨_,dl1⟩,⟨_,dl2⟩,⟨_,dl3⟩,⟨_,dl4⟩,vW dlk dl5⟩
 have cLDeal:=h20.cal l.prog w base X G (λF=>sR F B C) λ_ _ _ _ _ _ us hl=>match us,hl with | [_,_],_=>rfl
 have cLTake:=h21.cal l.prog w base X G (λF=>sQ F B C) λ_ _ _ _ _ _ us hl=>match us,hl with | [_,_],_=>rfl
 have cLWords:=h27.cal l.prog w base X G (λF=>rC F B cLTake C) λ_ _ _ _ _ _ us hl=>match us,hl with | [_,_],_=>rfl
 have cWordsText:=h5.cal l.prog w base X G (λF=>lS F B C) λ_ _ _ _ _ _ us hl=>match us,hl with | [_],_=>rfl
 have cLogText:=h7.cal l.prog w base X G (λF=>pj F B cWordsText C) λ_ _ _ _ _ _ us hl=>match us,hl with | [_],_=>rfl
 have cPairsText:=h2.cal l.prog w base X G (λF=>lT F B C) λ_ _ _ _ _ _ us hl=>match us,hl with | [_,_,_],_=>rfl
 have cWebText:=h3.cal l.prog w base X G (λF=>pz F B cPairsText C) λ_ _ _ _ _ _ us hl=>match us,hl with | [_],_=>rfl
 have cOnewayText:=h4.cal l.prog w base X G (λF=>kC F B cPairsText C) λ_ _ _ _ _ _ us hl=>match us,hl with | [_],_=>rfl
 have cNumbersText:=h6.cal l.prog w base X G (λF=>jh F B cWordsText C) λ_ _ _ _ _ _ us hl=>match us,hl with | [_],_=>rfl
 have iNoText:=hi_NoText.ini (L2.kh xn_NoText).1 (L2.bc xi_NoText).2.1 l.prog w base (λF=>lV F Z) λ_ _ _ _ _ _ us hl=>match us,hl with | [_,_],_=>rfl
 have xWordsOf:=h10.fN l.prog w base X G (λF=>pC F B Z iNoText C) λ_ _ _ _ _ _ us hl=>match us,hl with | [_],_=>rfl
 have xRowsWords:=h11.fN l.prog w base X G (λF=>lY F B Z iNoText xWordsOf C) λ_ _ _ _ _ _ us hl=>match us,hl with | [_],_=>rfl
 have cNumberRead:=h8.cal l.prog w base X G (λF=>kD F B C) λ_ _ _ _ _ _ us hl=>match us,hl with | [_,_],_=>rfl
 have cIsRising:=h1.cal l.prog w base X G (λF=>mU F B C) λ_ _ _ _ _ _ us hl=>match us,hl with | [_],_=>rfl
 have xStepRead:=h18.fN l.prog w base X G (λF=>mV F B Z iNoText cNumberRead cIsRising C) λ_ _ _ _ _ _ us hl=>match us,hl with | [_,_],_=>rfl
 have xReadLog:=h19.fN l.prog w base X G (λF=>pH F B Z iNoText xRowsWords xStepRead C) λ_ _ _ _ _ _ us hl=>match us,hl with | [_],_=>rfl
 have cPairRead:=h9.cal l.prog w base X G (λF=>mS F B cNumberRead C) λ_ _ _ _ _ _ us hl=>match us,hl with | [_,_,_],_=>rfl
 have xPairsRead:=h14.fN l.prog w base X G (λF=>lZ F B Z iNoText xWordsOf cNumberRead cPairRead C) λ_ _ _ _ _ _ us hl=>match us,hl with | [_,_,_,_],_=>rfl
 have cIsTieBehind:=h12.cal l.prog w base X G (λF=>jj F B C) λ_ _ _ _ _ _ us hl=>match us,hl with | [_,_],_=>rfl
 have xReadWeb:=h15.fN l.prog w base X G (λF=>pG F B Z xPairsRead cIsTieBehind C) λ_ _ _ _ _ _ us hl=>match us,hl with | [_],_=>rfl
 have cIsArrowBehind:=h13.cal l.prog w base X G (λF=>gQ F B C) λ_ _ _ _ _ _ us hl=>match us,hl with | [_,_],_=>rfl
 have xReadOneway:=h16.fN l.prog w base X G (λF=>kG F B Z xPairsRead cIsArrowBehind C) λ_ _ _ _ _ _ us hl=>match us,hl with | [_],_=>rfl
 have xReadNumbers:=h17.fN l.prog w base X G (λF=>jk F B Z iNoText xRowsWords cNumberRead C) λ_ _ _ _ _ _ us hl=>match us,hl with | [_],_=>rfl
 have xLWritten:=h31.fN l.prog w base X G (λF=>m7 F B Z xReadWeb xReadOneway xReadNumbers xReadLog cLogText cWebText cOnewayText cNumbersText C) λ_ _ _ _ _ _ us hl=>match us,hl with | [_,_],_=>rfl
 have cLAsked:=h32.cal l.prog w base X G (λF=>rE F B Z xLWritten C) λ_ _ _ _ _ _ us hl=>match us,hl with | [_,_],_=>rfl
 have cLOdd:=h28.cal l.prog w base X G (λF=>vf F B cLTake C) λ_ _ _ _ _ _ us hl=>match us,hl with | [_],_=>rfl
 have cLSpoilt:=h29.cal l.prog w base X G (λF=>pR F B cLTake cLOdd C) λ_ _ _ _ _ _ us hl=>match us,hl with | [_,_],_=>rfl
 have cLSignPut:=h30.cal l.prog w base X G (λF=>mZ F B cLTake C) λ_ _ _ _ _ _ us hl=>match us,hl with | [_,_],_=>rfl
 have cLNumber:=h22.cal l.prog w base X G (λF=>pJ F B C) λ_ _ _ _ _ _ us hl=>match us,hl with | [_,_],_=>rfl
 have cLPair:=h23.cal l.prog w base X G (λF=>tL F B cLNumber C) λ_ _ _ _ _ _ us hl=>match us,hl with | [_,_,_],_=>rfl
 have cLBadPairs:=h24.cal l.prog w base X G (λF=>l8 F B cLPair cLNumber C) λ_ _ _ _ _ _ us hl=>match us,hl with | [_,_,_],_=>rfl
 have cLBadRow:=h25.cal l.prog w base X G (λF=>pM F B cLNumber C) λ_ _ _ _ _ _ us hl=>match us,hl with | [_],_=>rfl
 have cLBadLog:=h26.cal l.prog w base X G (λF=>pO F B cLNumber C) λ_ _ _ _ _ _ us hl=>match us,hl with | [_],_=>rfl
 have cLDue:=h33.cal l.prog w base X G (λF=>vc F B cLBadPairs cLBadRow cLBadLog C) λ_ _ _ _ _ _ us hl=>match us,hl with | [_,_],_=>rfl
 exact vY F34 B cLDeal cLWords cLAsked cLTake cLSpoilt cLSignPut cLDue C
theorem walk {l:PySem.W.OpenLaw}{q:wx}{loose:List Str}{XP:(Str->Option v8)->Heap->Prop}{YP:wZ->Heap->Prop}{d:DefRec}{K:Params->v5}(hn:l.most=some 63)(hdf:d.params.defaults=[])
  (hY:∀(w:wZ) (h:Heap),YP w h->(K w.params).In h)
  (F:∀(w:wZ) (mg:Str->Option v8) (fa:Addr) (h:Heap),(K w.params).In h->h.Ns wM mg->mg d.name=some (.ref fa) →
   ∃fd:wR,(∀(s:v9) (u:v8),BindsTo s fd ⟨[u],[]⟩ [("script",u)])/\∀base:Heap,(K w.params).In base->base.Ns wM mg->aW l.prog w (K w.params) mg base CX0 8 fa fd ["script"] (mf (K w.params))) :
  PySem.W.WalkO q loose XP YP l.row.toRowW d [] (λf vs=>PySem.call f vs) :=
 L2.rV (n:=63) (k:=8) (x := "script") (CX:=λ_=>CX0) (sp:=λw=>mf (K w.params)) hn (by decide) hdf ⟨rfl,by decide,by decide⟩ hY F (λ_ _ a ns hl _ hS=>⟨a,ns,rfl,hS,hl,λ_=>rfl⟩) λ_ _ _ _ _ z=>z
end K81
def PySem.W.Fast.tw9905647398576127462:Nat:=0
def PySem.W.Fast.tw15271540364557176559:Nat:=0
def PySem.W.Fast.tw17087885395834346574:Nat:=0
def PySem.W.Fast.tw17576188974378813237:Nat:=0
def PySem.W.Fast.tw10394893983612025890:Nat:=0
def PySem.W.Fast.tw9464650438276375400:Nat:=0
def PySem.W.Fast.tw476970475938668619:Nat:=0
def PySem.W.Fast.tw16591741697288653779:Nat:=0
def PySem.W.Fast.tw4014866835116931270:Nat:=0
def PySem.W.Fast.tw11609375969598214593:Nat:=0
def PySem.W.Fast.tw3642760528824928159:Nat:=0
def PySem.W.Fast.tw11723637338001589201:Nat:=0
def PySem.W.Fast.tw13266824203064316763:Nat:=0
def PySem.W.Fast.tw12720502446098960587:Nat:=0
def PySem.W.Fast.tw28034454181778785:Nat:=0
def PySem.W.Fast.tw12442552504091840695:Nat:=0
def PySem.W.Fast.tw4970321511535919907:Nat:=0
def PySem.W.Fast.tw12528326582031173483:Nat:=0
def PySem.W.Fast.tw1946374919806066855:Nat:=0
def PySem.W.Fast.tw3749271904488358007:Nat:=0
def PySem.W.Fast.tw10719926839818118376:Nat:=0
def PySem.W.Fast.tw3174114661918126275:Nat:=0
def PySem.W.Fast.tw13006869200388891606:Nat:=0
def PySem.W.Fast.tw3590120549945948726:Nat:=0
def PySem.W.Fast.tw2587373199503299612:Nat:=0
def PySem.W.Fast.tw9119564176530537916:Nat:=0
def PySem.W.Fast.tw6479524741244869782:Nat:=0
def PySem.W.Fast.tw12569635360807355887:Nat:=0
def PySem.W.Fast.tw9280178102275659288:Nat:=0
def PySem.W.Fast.tw5848005665187666679:Nat:=0
def PySem.W.Fast.tw8999368559708741543:Nat:=0
def PySem.W.Fast.tw2901699663344618996:Nat:=0
def PySem.W.Fast.tw6374507752811050518:Nat:=0
def PySem.W.Fast.tw12208758061194744288:Nat:=0
def PySem.W.Fast.tw6443059412399957738:Nat:=0
def PySem.W.Fast.tw6762106082498764937:Nat:=0
def PySem.W.Fast.tw312320717530285979:Nat:=0
def PySem.W.Fast.tw16605479447798332868:Nat:=0
def PySem.W.Fast.tw4481825831056389522:Nat:=0
def PySem.W.Fast.tw8114962035516685983:Nat:=0
def PySem.W.Fast.tw7893591774765204514:Nat:=0
def PySem.W.Fast.tw7611074686619731544:Nat:=0
def PySem.W.Fast.tw17522892668314609481:Nat:=0
def PySem.W.Fast.tw11352656126271182166:Nat:=0
def PySem.W.Fast.tw13908806475803439888:Nat:=0
def PySem.W.Fast.tw726162925088917334:Nat:=0
def PySem.W.Fast.tw2487072152770583416:Nat:=0
def PySem.W.Fast.tw17265579921576974404:Nat:=0
def PySem.W.Fast.tw14412049782243862838:Nat:=0
def PySem.W.Fast.tw16084226035743693516:Nat:=0
def PySem.W.Fast.tw5628441151349660235:Nat:=0
def PySem.W.Fast.tw8742220265248102829:Nat:=0
def PySem.W.Fast.tw8329493413172991722:Nat:=0
def PySem.W.Fast.tw4976514423841133164:Nat:=0
def PySem.W.Fast.tw14741666376310234174:Nat:=0
def PySem.W.Fast.tw6683037594800702177:Nat:=0
def PySem.W.Fast.tw12598048805990568587:Nat:=0
def PySem.W.Fast.tw6266332095112806964:Nat:=0
def PySem.W.Fast.tw15028694000489996742:Nat:=0
def PySem.W.Fast.tw12497154901179598414:Nat:=0
def PySem.W.Fast.tw5034913642077522940:Nat:=0
def PySem.W.Fast.tw15184437705607299752:Nat:=0
def PySem.W.Fast.tw12112414973086822007:Nat:=0
def PySem.W.Fast.tw2085597947811298939:Nat:=0
def PySem.W.Fast.tw4872949866504169161:Nat:=0
def PySem.W.Fast.tw12938574763880267970:Nat:=0
def PySem.W.Fast.tw9531315965391053449:Nat:=0
def PySem.W.Fast.tw1566162382498174238:Nat:=0
def PySem.W.Fast.tw1969477755734850548:Nat:=0
def PySem.W.Fast.tw3284121390421897656:Nat:=0
def PySem.W.Fast.tw5387541359937358632:Nat:=0
def PySem.W.Fast.tw8170537997215152848:Nat:=0
def PySem.W.Fast.tw3417223968747934346:Nat:=0
def PySem.W.Fast.tw17623967582713786664:Nat:=0
def PySem.W.Fast.tw16040693886223221106:Nat:=0
def PySem.W.Fast.tw2791044562346793692:Nat:=0
def PySem.W.Fast.tw12494402197638025072:Nat:=0
def PySem.W.Fast.tw17234638044116455195:Nat:=0
def PySem.W.Fast.tw8948078736767186317:Nat:=0
def PySem.W.Fast.tw11338703573707291660:Nat:=0
def PySem.W.Fast.tw14360658975976734119:Nat:=0
def PySem.W.Fast.tw2260285271962016244:Nat:=0
def PySem.W.Fast.tw5028122659420979799:Nat:=0
def PySem.W.Fast.tw10200212553129388191:Nat:=0
def PySem.W.Fast.tw15077967541208631655:Nat:=0
def PySem.W.Fast.tw8028325939897053430:Nat:=0
def PySem.W.Fast.tw14942053103406883067:Nat:=0
def PySem.W.Fast.tw149599496895635287:Nat:=0
def PySem.W.Fast.tw4968456666387090632:Nat:=0
def PySem.W.Fast.tw17404181496761791470:Nat:=0
def PySem.W.Fast.tw7221945610821813710:Nat:=0
def PySem.W.Fast.tw7575357188377210985:Nat:=0
def PySem.W.Fast.tw1313168968854135777:Nat:=0
def PySem.W.Fast.tw4122592951865921986:Nat:=0
def PySem.W.Fast.tw10736763092910311227:Nat:=0
def PySem.W.Fast.tw6373167854223474707:Nat:=0
def PySem.W.Fast.tw16953588816234562528:Nat:=0
def PySem.W.Fast.tw8879262888542401414:Nat:=0
def PySem.W.Fast.tw6406936203650385078:Nat:=0
def PySem.W.Fast.tw1338303201957350984:Nat:=0
def PySem.W.Fast.tw8544134994914417077:Nat:=0
def PySem.W.Fast.tw11052018320996874294:Nat:=0
def PySem.W.Fast.tw2996359026851215398:Nat:=0
def PySem.W.Fast.tw12232284790558152244:Nat:=0
def PySem.W.Fast.tw8920142338560930752:Nat:=0
def PySem.W.Fast.tw10093116358225956878:Nat:=0
def PySem.W.Fast.tw17500736599451713381:Nat:=0
def PySem.W.Fast.tw3162226568114486077:Nat:=0
def PySem.W.Fast.tw9834710557523439581:Nat:=0
def PySem.W.Fast.tw15563963140736948511:Nat:=0
def PySem.W.Fast.tw13531725191221356782:Nat:=0
def PySem.W.Fast.tw10431960846793683618:Nat:=0
def PySem.W.Fast.tw16808927816139166010:Nat:=0
def PySem.W.Fast.tw8652355550153973127:Nat:=0
def PySem.W.Fast.tw644198953011342733:Nat:=0
def PySem.W.Fast.tw1799676420922229311:Nat:=0
def PySem.W.Fast.tw13222720475462654811:Nat:=0
def PySem.W.Fast.tw11414395528019559051:Nat:=0
def PySem.W.Fast.tw18358756302516162830:Nat:=0
def PySem.W.Fast.tw4823301319672213419:Nat:=0
def PySem.W.Fast.tw11952537284138124994:Nat:=0
def PySem.W.Fast.tw148347693191535925:Nat:=0
def PySem.W.Fast.tw42482568631952460:Nat:=0
def PySem.W.Fast.tw6332660660064580708:Nat:=0
def PySem.W.Fast.tw15849831292944109617:Nat:=0
def PySem.W.Fast.tw27255616300399381:Nat:=0
def PySem.W.Fast.tw8232589516323313628:Nat:=0
def PySem.W.Fast.tw13628135276448764335:Nat:=0
def PySem.W.Fast.tw5097734200976430366:Nat:=0
def PySem.W.Fast.tw15221967039690400007:Nat:=0
def PySem.W.Fast.tw10140154633653077331:Nat:=0
def PySem.W.Fast.tw5323020039936098917:Nat:=0
def PySem.W.Fast.tw10412136450334206989:Nat:=0
def PySem.W.Fast.tw8634028978420529151:Nat:=0
def PySem.W.Fast.tw9050680670335168356:Nat:=0
def PySem.W.Fast.tw7396544595233584790:Nat:=0
def PySem.W.Fast.tw4489439281271724611:Nat:=0
def PySem.W.Fast.tw2406334615035672551:Nat:=0
def PySem.W.Fast.tw9143024795683925263:Nat:=0
def PySem.W.Fast.tw4746792581584945576:Nat:=0
def PySem.W.Fast.tw14667827168680135923:Nat:=0
def PySem.W.Fast.tw2605933554875864103:Nat:=0
def PySem.W.Fast.tw15829396735662588264:Nat:=0
def PySem.W.Fast.tw11499280652757971229:Nat:=0
def PySem.W.Fast.tw15705445222155890703:Nat:=0
def PySem.W.Fast.tw1526495918659479543:Nat:=0
def PySem.W.Fast.tw5061508189859599336:Nat:=0
def PySem.W.Fast.tw9166582636276842804:Nat:=0
def PySem.W.Fast.tw13384820165424945494:Nat:=0
def PySem.W.Fast.tw10173424486070245558:Nat:=0
def PySem.W.Fast.tw321296012988824783:Nat:=0
def PySem.W.Fast.tw12915530503765707079:Nat:=0
def PySem.W.Fast.tw10812405260830310696:Nat:=0
def PySem.W.Fast.tw11440705197082647881:Nat:=0
def PySem.W.Fast.tw2072020749476541902:Nat:=0
def PySem.W.Fast.tw4604792243889217186:Nat:=0
def PySem.W.Fast.tw14609871851866986506:Nat:=0
def PySem.W.Fast.tw5483145103182564991:Nat:=0
def PySem.W.Fast.tw17705469495056578900:Nat:=0
def PySem.W.Fast.tw6855260064134111941:Nat:=0
def PySem.W.Fast.tw15284645065151197777:Nat:=0
def PySem.W.Fast.tw205614153029396511:Nat:=0
def PySem.W.Fast.tw1205602029831458575:Nat:=0
def PySem.W.Fast.tw1548057739135911768:Nat:=0
def PySem.W.Fast.tw6983890706158050460:Nat:=0
def PySem.W.Fast.tw15026296910134755990:Nat:=0
def PySem.W.Fast.tw12375185458655898047:Nat:=0
def PySem.W.Fast.tw6867314211779901464:Nat:=0
def PySem.W.Fast.tw18196051095751361527:Nat:=0
def PySem.W.Fast.tw9137308946922537741:Nat:=0
def PySem.W.Fast.tw5468184266474564811:Nat:=0
def PySem.W.Fast.tw7593863364499225737:Nat:=0
def PySem.W.Fast.tw7886752094476575198:Nat:=0
def PySem.W.Fast.tw75530436322485472:Nat:=0
def PySem.W.Fast.tw7262892291201735540:Nat:=0
def PySem.W.Fast.tw10194324339966969109:Nat:=0
def PySem.W.Fast.tw9228099536277079692:Nat:=0
def PySem.W.Fast.tw7364304339475773090:Nat:=0
def PySem.W.Fast.tw9414833230833631714:Nat:=0
def PySem.W.Fast.tw15431055420683055706:Nat:=0
open PySem PySem.W PyProof.Rows
set_option maxRecDepth 100000 in
set_option maxHeartbeats 0 in
theorem PySem.Challenge.cw_ringfell_k81_texts_refused_holds : PySem.Challenge.rw_ringfell_k81_texts_refused.Holds := by
 w_on;o_law;k_head;(case hw=>w_witness2)
 k_fill
 refine K81.walk (l:=PySem.Challenge.rw_ringfell_k81_texts_refused) rfl rfl (λw h Y=>PySem.W.kIn_of Y) ?F
 case F =>
  intro w mg fa h KX G hmg
  refine' K81.all_mk KX G hmg ?_ ?_ ?_ ?_ ?_ ?_ ?_ ?_ ?_ ?_ ?_ ?_ ?_ ?_ ?_ ?_ ?_ ?_ ?_ ?_ ?_ ?_ ?_ ?_ ?_ ?_ ?_ ?_ ?_ ?_ ?_ ?_ ?_ ?_ ?_ ?_ ?_ ?_ ?_ ?_ ?_ ?_ ?_ ?_ ?_ ?_ ?_ ?_ ?_ ?_ ?_ ?_ ?_ ?_ ?_ ?_ ?_ ?_ ?_ ?_ ?_ ?_ ?_ ?_ ?_ ?_ ?_ ?_ ?_ ?_ ?_ ?_ ?_ ?_ ?_
  any_goals k_is
  any_goals (refine' L2.br.mk ?a ?l ?c ?k;(case a=>k_is);(case l=>k_is);(case c=>k_is);(case k=>k_is))
  any_goals (with_reducible refine' L2.oU.mk ?i ?n ?l ?c ?k;(case i=>k_is);(case n=>k_is);(case l=>k_is);(case c=>k_is);(case k=>k_is))
  any_goals k_keys
  all_goals kernel_rfl
