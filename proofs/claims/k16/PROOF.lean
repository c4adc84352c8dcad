import PyProof.Rows.All
import Wide.All
import OpenK.AllK
import Wide.FinOn
import Lean
import PyProof.Rows.SortStrRead
import PySem.Challenge.RW_patchkin_k16_rooms_of_names
set_option Elab.async false
set_option linter.all false
set_option maxRecDepth 100000
set_option maxHeartbeats 0
theorem M9:type_of% @PySem.wpAny_bind:=@PySem.wpAny_bind
theorem Ou:type_of% @List.length_map:=@List.length_map
theorem Oy:type_of% @List.mem_singleton:=@List.mem_singleton
theorem Oz:type_of% @PySem.wpAny_pure:=@PySem.wpAny_pure
theorem QU:type_of% @List.getElem?_eq_getElem:=@List.getElem?_eq_getElem
theorem QY:type_of% @PySem.Heap.get?_push_of_some:=@PySem.Heap.get?_push_of_some
theorem Q2:type_of% @Nat.le_refl:=@Nat.le_refl
theorem Q3:type_of% @List.mem_map_of_mem:=@List.mem_map_of_mem
theorem RT:type_of% @List.mem_cons:=@List.mem_cons
theorem RX:type_of% @List.length_append:=@List.length_append
theorem S7:type_of% @List.length_cons:=@List.length_cons
theorem Ue:type_of% @List.mem_append:=@List.mem_append
theorem Ug:type_of% @decide_eq_true:=@decide_eq_true
theorem Uk:type_of% @List.mem_cons_of_mem:=@List.mem_cons_of_mem
theorem Um:type_of% @List.mem_of_getElem?:=@List.mem_of_getElem?
theorem WO:type_of% @PySem.Heap.get?_push_size:=@PySem.Heap.get?_push_size
theorem WV:type_of% @Bool.false_ne_true:=@Bool.false_ne_true
theorem WZ:type_of% @List.size_toArray:=@List.size_toArray
theorem W3:type_of% @List.getElem?_map:=@List.getElem?_map
theorem W5:type_of% @List.filter_cons_of_pos:=@List.filter_cons_of_pos
theorem Yj:type_of% @List.mem_filter:=@List.mem_filter
theorem YI:type_of% @List.filter_cons_of_neg:=@List.filter_cons_of_neg
theorem aaa:type_of% @decide_eq_false:=@decide_eq_false
theorem aab:type_of% @if_neg:=@if_neg
theorem aac:type_of% @PySem.Heap.lt_size:=@PySem.Heap.lt_size
theorem aad:type_of% @List.mem_append_left:=@List.mem_append_left
theorem aae:type_of% @List.mem_cons_self:=@List.mem_cons_self
theorem aaf:type_of% @Option.some.inj:=@Option.some.inj
theorem aag:type_of% @Nat.le_trans:=@Nat.le_trans
theorem aah:type_of% @if_pos:=@if_pos
theorem aai:type_of% @List.map_append:=@List.map_append
theorem aaj:type_of% @PySem.Paired.length:=@PySem.Paired.length
theorem aak:type_of% @List.mem_map:=@List.mem_map
theorem aal:type_of% @Nat.lt_of_lt_of_le:=@Nat.lt_of_lt_of_le
theorem aam:type_of% @List.map_cons:=@List.map_cons
theorem aan:type_of% @PySem.W.mg_of:=@PySem.W.mg_of
theorem aao:type_of% @List.length_eq_zero_iff:=@List.length_eq_zero_iff
theorem aap:type_of% @PySem.F.plainAttrs_list:=@PySem.F.plainAttrs_list
theorem aaq:type_of% @List.take_length:=@List.take_length
theorem aar:type_of% @Nat.ne_of_lt:=@Nat.ne_of_lt
theorem aas:type_of% @List.mem_append_right:=@List.mem_append_right
theorem aat:type_of% @PySem.PassesOwn.never:=@PySem.PassesOwn.never
theorem aau:type_of% @Array.length_toList:=@Array.length_toList
theorem aav:type_of% @List.flatMap_cons:=@List.flatMap_cons
theorem aaw:type_of% @PySem.F.slot_list_append:=@PySem.F.slot_list_append
theorem aax:type_of% @PySem.F.type_list_append:=@PySem.F.type_list_append
theorem aay:type_of% @List.filter_append:=@List.filter_append
theorem aaz:type_of% @of_decide_eq_true:=@of_decide_eq_true
theorem aaA:type_of% @Array.getElem?_toList:=@Array.getElem?_toList
theorem aaB:type_of% @List.append_nil:=@List.append_nil
theorem aaC:type_of% @PySem.sizeLine_eq:=@PySem.sizeLine_eq
theorem aaD:type_of% @Nat.zero_le:=@Nat.zero_le
theorem aaE:type_of% @List.length_take:=@List.length_take
theorem aaF:type_of% @Array.getElem?_eq_getElem:=@Array.getElem?_eq_getElem
theorem aaG:type_of% @PyProof.Rows.callWith_type1:=@PyProof.Rows.callWith_type1
theorem aaH:type_of% @Bool.and_eq_true:=@Bool.and_eq_true
theorem aaI:type_of% @PySem.Heap.get?_update_self:=@PySem.Heap.get?_update_self
theorem aaJ:type_of% @List.length_filter_le:=@List.length_filter_le
theorem aaK:type_of% @List.mem_iff_getElem?:=@List.mem_iff_getElem?
theorem aaL:type_of% @List.Sublist.refl:=@List.Sublist.refl
theorem aaM:type_of% @List.nodup_cons:=@List.nodup_cons
theorem aaN:type_of% @Bool.false_eq_true:=@Bool.false_eq_true
theorem aaO:type_of% @PySem.Heap.SameBut.update:=@PySem.Heap.SameBut.update
theorem aaP:type_of% @List.filter_sublist:=@List.filter_sublist
theorem aaQ:type_of% @List.pairwise_iff_getElem:=@List.pairwise_iff_getElem
theorem aaR:type_of% @List.flatMap_append:=@List.flatMap_append
theorem aaS:type_of% @PySem.boot_len:=@PySem.boot_len
theorem aaT:type_of% @congrArg:=@congrArg
theorem aaU:type_of% @List.mem_flatMap:=@List.mem_flatMap
theorem aaV:type_of% @List.nodup_append:=@List.nodup_append
theorem aaW:type_of% @List.filter_nil:=@List.filter_nil
theorem aaX:type_of% @PySem.W.mg_none_of:=@PySem.W.mg_none_of
theorem aaY:type_of% @List.append_assoc:=@List.append_assoc
theorem aaZ:type_of% @List.replicate_succ:=@List.replicate_succ
theorem aa0:type_of% @PySem.wpAny_holding:=@PySem.wpAny_holding
theorem aa1:type_of% @PySem.wpAny_dictEntries:=@PySem.wpAny_dictEntries
theorem aa2:type_of% @List.length_range:=@List.length_range
theorem aa3:type_of% @PySem.Calls.spliced_cons:=@PySem.Calls.spliced_cons
theorem aa4:type_of% @decide_eq_true_iff:=@decide_eq_true_iff
theorem aa5:type_of% @List.getElem?_set_self:=@List.getElem?_set_self
theorem aa6:type_of% @PySem.Heap.get?_update_other:=@PySem.Heap.get?_update_other
theorem aa7:type_of% @PySem.W.kia_one:=@PySem.W.kia_one
theorem aa8:type_of% @List.nodup_nil:=@List.nodup_nil
theorem aa9:type_of% @PySem.wpAny_ite_split:=@PySem.wpAny_ite_split
theorem aa_:type_of% @List.drop_eq_getElem_cons:=@List.drop_eq_getElem_cons
theorem aba:type_of% @Nat.lt_irrefl:=@Nat.lt_irrefl
theorem abb:type_of% @PySem.wpAny_call_entry:=@PySem.wpAny_call_entry
theorem abc:type_of% @List.length_reverse:=@List.length_reverse
theorem abd:type_of% @PySem.wpAny_newObj_type:=@PySem.wpAny_newObj_type
theorem abe:type_of% @PySem.F.slot_dict_keyiterator_next:=@PySem.F.slot_dict_keyiterator_next
theorem abf:type_of% @List.getElem?_set_ne:=@List.getElem?_set_ne
theorem abg:type_of% @PySem.wpAny_mono:=@PySem.wpAny_mono
theorem abh:type_of% @List.getElem?_append_right:=@List.getElem?_append_right
theorem abi:type_of% @PySem.Calls.callWith_builtin:=@PySem.Calls.callWith_builtin
theorem abj:type_of% @beq_eq_false_iff_ne:=@beq_eq_false_iff_ne
theorem abk:type_of% @PySem.Calls.spliced_nil:=@PySem.Calls.spliced_nil
theorem abl:type_of% @PySem.mem_of_lookup:=@PySem.mem_of_lookup
theorem abm:type_of% @PySem.Heap.size_push:=@PySem.Heap.size_push
theorem abn:type_of% @PySem.tupleKind_room_in1:=@PySem.tupleKind_room_in1
theorem abo:type_of% @Nat.lt_of_le_of_lt:=@Nat.lt_of_le_of_lt
theorem abp:type_of% @PySem.wpAny_typeNameOfWhole_keyiter:=@PySem.wpAny_typeNameOfWhole_keyiter
theorem abq:type_of% @List.flatMap_nil:=@List.flatMap_nil
theorem abr:type_of% @PySem.Calls.evalArgs_plain:=@PySem.Calls.evalArgs_plain
theorem abt:type_of% @PySem.Around.under_plainId:=@PySem.Around.under_plainId
theorem abu:type_of% @PySem.wpAny_truthy_bool:=@PySem.wpAny_truthy_bool
theorem abv:type_of% @Bool.eq_false_iff:=@Bool.eq_false_iff
theorem abw:type_of% @decide_eq_true_eq:=@decide_eq_true_eq
theorem abx:type_of% @List.pairwise_map:=@List.pairwise_map
theorem aby:type_of% @List.filterMap_cons:=@List.filterMap_cons
theorem abz:type_of% @Ne.symm:=@Ne.symm
theorem abA:type_of% @Bool.eq_iff_iff:=@Bool.eq_iff_iff
theorem abB:type_of% @Option.map_some:=@Option.map_some
theorem abC:type_of% @PyProof.Rows.boot_list:=@PyProof.Rows.boot_list
theorem abD:type_of% @beq_iff_eq:=@beq_iff_eq
theorem abE:type_of% @Nat.lt_succ_self:=@Nat.lt_succ_self
theorem abF:type_of% @List.mem_filterMap:=@List.mem_filterMap
theorem abG:type_of% @List.filterMap_append:=@List.filterMap_append
theorem abH:type_of% @List.getElem?_append_left:=@List.getElem?_append_left
theorem abI:type_of% @PySem.F.plain_extend_loop:=@PySem.F.plain_extend_loop
theorem abJ:type_of% @List.take_zero:=@List.take_zero
theorem abK:type_of% @Array.toArray_toList:=@Array.toArray_toList
theorem abL:type_of% @PySem.wpAny_passesOwn:=@PySem.wpAny_passesOwn
theorem abM:type_of% @List.flatten_cons:=@List.flatten_cons
theorem abN:type_of% @PySem.wpAny_specialOf:=@PySem.wpAny_specialOf
theorem abO:type_of% @PySem.F.slot_dict_update:=@PySem.F.slot_dict_update
theorem abP:type_of% @PySem.codeAny_builtin:=@PySem.codeAny_builtin
theorem abQ:type_of% @Nat.ne_of_gt:=@Nat.ne_of_gt
theorem abR:type_of% @PySem.codeAny_mono:=@PySem.codeAny_mono
theorem abS:type_of% @Nat.le_succ:=@Nat.le_succ
theorem abT:type_of% @PySem.F.plainAttrs_dict:=@PySem.F.plainAttrs_dict
theorem abU:type_of% @List.map_congr_left:=@List.map_congr_left
theorem abV:type_of% @List.getElem?_range:=@List.getElem?_range
theorem abW:type_of% @List.lookup_cons:=@List.lookup_cons
theorem abX:type_of% @List.all_eq_true:=@List.all_eq_true
theorem abY:type_of% @List.not_mem_nil:=@List.not_mem_nil
theorem abZ:type_of% @PySem.wpAny_fieldsOf:=@PySem.wpAny_fieldsOf
theorem ab0:type_of% @List.sublist_cons_self:=@List.sublist_cons_self
theorem ab1:type_of% @List.filter_eq_nil_iff:=@List.filter_eq_nil_iff
theorem ab3:type_of% @List.getElem?_drop:=@List.getElem?_drop
theorem ab4:type_of% @List.foldl_cons:=@List.foldl_cons
theorem ab5:type_of% @List.find?_cons:=@List.find?_cons
theorem ab6:type_of% @PySem.size_of_entries:=@PySem.size_of_entries
theorem ab7:type_of% @List.getElem?_eq_none:=@List.getElem?_eq_none
theorem ab8:type_of% @List.take_sublist:=@List.take_sublist
theorem ab9:type_of% @Nat.lt_succ_of_lt:=@Nat.lt_succ_of_lt
theorem ab_:type_of% @List.ext_getElem?:=@List.ext_getElem?
theorem aca:type_of% @PySem.plainId_quiet:=@PySem.plainId_quiet
theorem acb:type_of% @Int.toNat_natCast:=@Int.toNat_natCast
theorem acd:type_of% @List.reverse_cons:=@List.reverse_cons
theorem ace:type_of% @List.filter_cons:=@List.filter_cons
theorem acf:type_of% @if_false:=@if_false
theorem acg:type_of% @List.range'_succ:=@List.range'_succ
theorem ach:type_of% @PySem.sizeLine_eq:=@PySem.sizeLine_eq
theorem aci:type_of% @List.length_set:=@List.length_set
theorem acj:type_of% @Bool.or_eq_true:=@Bool.or_eq_true
theorem ack:type_of% @List.range_succ:=@List.range_succ
theorem acm:type_of% @Sum.inr.inj:=@Sum.inr.inj
abbrev Qqq:=PySem.Value->PySem.Shared->Prop
abbrev Qqz:=List (PySem.Addr×PySem.Obj)
abbrev Qqx:=PySem.Str->Option PySem.Value
abbrev Qqy:=PySem.W.Frag
namespace L2
open PySem PySem.Spec PyProof.Rows
abbrev Key:=Sum Int Str
def vE:Key->Value->Bool
 | .inl k,v=>Value.isInt k v
 | .inr x,v=>Value.isStrOf x v
def Qo(w:World):Key->Int
 | .inl k=>hashInt k
 | .inr x=>hashStr w x
theorem iM:∀{k:Key} {v:Value},vE k v=true->(∃i t,k=Sum.inl i/\v=Value.int i t)\/(∃x t,k=Sum.inr x/\v=Value.str x t)
 | .inl i,v,h=>by
  obtain⟨t,e⟩:=Value.isInt_shape (k:=i) (v:=v) h
  exact .inl ⟨i,t,rfl,e⟩
 | .inr x,v,h=>by
  obtain⟨t,e⟩:=Value.isStrOf_shape (x:=x) (v:=v) h
  exact .inr ⟨x,t,rfl,e⟩
theorem Dy(i:Int)(t:Tok):vE (.inl i) (.int i t)=true:=by simp[vE,Value.isInt]
theorem Dz(x:Str)(t:Tok):vE (.inr x) (.str x t)=true:=by simp[vE,Value.isStrOf]
theorem JO(a b:Int):decide ((Sum.inl a:Key)=Sum.inl b)=(a ==b):=by
 by_cases e:a=b
 ·subst e;simp
 ·have h:¬(Sum.inl a:Key)=Sum.inl b:=λq=>e (Sum.inl.inj q)
  rw[aaa h]
  exact(abj.mpr e).symm
theorem JP(a b:Str):decide ((Sum.inr a:Key)=Sum.inr b)=decide (a=b):=by
 by_cases e:a=b
 ·subst e;simp
 ·have h:¬(Sum.inr a:Key)=Sum.inr b:=λq=>e (acm q)
  rw[aaa h,aaa e]
theorem JQ(a:Int)(b:Str):decide ((Sum.inl a:Key)=Sum.inr b)=false:=aaa (λq=>nomatch q)
theorem JR(a:Str)(b:Int):decide ((Sum.inr a:Key)=Sum.inl b)=false:=aaa (λq=>nomatch q)
def iy(prog:Program)(w:World):PySem.KeyKind prog w Key where
 is:=vE
 hash:=Qo w
 inj:=λv a b ha hb=>by
  rcases iM ha with⟨i,t,rfl,rfl⟩|⟨x,t,rfl,rfl⟩
  ·rcases iM hb with⟨j,u,rfl,e⟩|⟨y,u,rfl,e⟩
   ·injection e with e1 _;rw[e1]
   ·exact nomatch e
  ·rcases iM hb with⟨j,u,rfl,e⟩|⟨y,u,rfl,e⟩
   ·exact nomatch e
   ·injection e with e1 _;rw[e1]
 byValue:=λk v h=>by
  rcases iM h with⟨i,t,rfl,rfl⟩|⟨x,t,rfl,rfl⟩<;>rfl
 pyHash:=λhv h=>by
  rcases iM hv with⟨i,t,rfl,rfl⟩|⟨x,t,rfl,rfl⟩
  ·exact wpAny_pyHash_int h
  ·exact wpAny_pyHash_str h
 eqBool:=λhu hv h=>by
  rcases iM hu with⟨i,t,rfl,rfl⟩|⟨x,t,rfl,rfl⟩
  ·rcases iM hv with⟨j,u,rfl,rfl⟩|⟨y,u,rfl,rfl⟩
   ·rw[JO] at h;exact wpAny_eqBool_int h
   ·rw[JQ] at h;exact SeqAt.EqAt.int_str i t y u _ _ _ _ h
  ·rcases iM hv with⟨j,u,rfl,rfl⟩|⟨y,u,rfl,rfl⟩
   ·rw[JR] at h;exact SeqAt.EqAt.str_int x t j u _ _ _ _ h
   ·rw[JP] at h;exact wpAny_eqBool_str h
 «strs»:=λk x t v h=>by
  rcases iM h with⟨i,u,rfl,e⟩|⟨y,u,rfl,e⟩
  ·exact nomatch e
  ·injection e with e1 _
   subst e1
   cases v<;>rfl
theorem Ao(prog:Program)(w:World)(i:Int)(t:Tok):(iy prog w).is (.inl i) (.int i t)=true:=Dy i t
theorem Ap(prog:Program)(w:World)(x:Str)(t:Tok):(iy prog w).is (.inr x) (.str x t)=true:=Dz x t
inductive V where
 | iQ|bl (b:Bool)|int (i:Int)|str (x:Str)|BS (b:Array UInt8)|IW (b:UInt64)|ref (a:Addr)|ty (n:String)
 deriving DecidableEq
def RelV:V->Value->Prop
 | .iQ,u=>u=Value.none
 | .bl b,u=>u=Value.bool b
 | .int i,u=>∃t,u=Value.int i t
 | .str x,u=>∃t,u=Value.str x t
 | .BS b,u=>∃t,u=Value.bytes b t
 | .IW b,u=>∃t,u=Value.float b t
 | .ref a,u=>u=Value.ref a
 | .ty n,u=>u=Value.type n
abbrev Vals:List V->List Value->Prop:=Paired RelV
theorem Vals.length{xs:List V}{us:List Value}(r:Vals xs us):xs.length=us.length:=aaj r
theorem Vals.get:∀{xs:List V} {us:List Value} {i:Nat} {x:V},Vals xs us->xs[i]?=some x->∃u,us[i]?=some u/\RelV x u
 | _,_,_,_,.nil,e=>by simp at e
 | _,_,0,_,.cons r _,e=>by simp at e;subst e;exact⟨_,rfl,r⟩
 | _,_,i+1,x,.cons _ t,e=>by
  obtain⟨u,h1,h2⟩:=Vals.get (i:=i) (x:=x) t (by simpa using e)
  exact⟨u,by simpa using h1,h2⟩
theorem Vals.set{x:V}{u:Value}(r:RelV x u):∀{xs:List V} {us:List Value} (i:Nat),Vals xs us->Vals (xs.set i x) (us.set i u)
 | _,_,_,.nil=>.nil
 | _,_,0,.cons _ t=>.cons r t
 | _,_,i+1,.cons q t=>.cons q (Vals.set r i t)
theorem Vals.append:∀{xs ys:List V} {us ws:List Value},Vals xs us->Vals ys ws->Vals (xs++ys) (us++ws)
 | _,_,_,_,.nil,s=>s
 | _,_,_,_,.cons r t,s=>.cons r (Vals.append t s)
def oa:Option V->Option Value->Prop
 | some v,some u=>RelV v u
 | none,none=>True
 | _,_=>False
def KV{Z:Type}:List (Z×V)->List (Z×Value)->Prop:=Paired λ(p:Z×V) (q:Z×Value)=>p.1=q.1/\RelV p.2 q.2
noncomputable def kV:Key->V
 | .inl i=>.int i
 | .inr x=>.str x
inductive HO where
 | lst (xs:List V)
 | tup (xs:List V)
 | dK (kvs:List (Key×V))|dT (kvs:List (List Key×V))
 | set (S:Int->Bool) (n:Nat)
 | ins (C dx:Addr) (fs:List (Str×V))
 | own (x:Addr)
 | xd (fs:List (Str×V))
 | met (f x:Addr)
 | Pn (lo hi:Int)
 | mw (o:Obj) (u:HO)
 | G5 (ps:Array Value)
 | ext (Z:Heap->Prop)
abbrev Hp:=Addr->Option HO
def upd(H:Hp)(a:Addr)(o:HO):Hp:=λb=>if b=a then some o else H b
theorem a_{H:Hp}{a:Addr}{o:HO}:upd H a o a=some o:=by unfold upd;rw[aah rfl]
theorem c_{H:Hp}{a b:Addr}{o:HO}(h:b≠a):upd H a o b=H b:=by unfold upd;rw[aab h]
theorem Hh{H:Hp}{a:Addr}{o u:HO}:upd (upd H a o) a u=upd H a u:=by
 funext b;unfold upd;split<;>rfl
theorem iz{H:Hp}{a b:Addr}{o u:HO}(h:H a=some o)(h':H b=some u)(d:o≠u):a≠b:=by
 intro e;subst e;rw[h] at h';exact d (aaf h')
theorem fz{H:Hp}{a b:Addr}{o:HO}(h:H a=some o)(h':H b=none):a≠b:=by
 intro e;subst e;rw[h] at h';cases h'
section
variable(P:Program)(w:World)
def ia(H:Hp)(h:Heap)(a:Addr):HO->Prop
 | .lst xs=>xs.length<=sizeLine/\∃(fW:List Value)(n:Nat),Vals xs fW/\h.get? a=some {cls:=.type "list",data:=.seq fW.toArray n}
 | .tup xs=>xs.length<=sizeLine/\∃fW:List Value,Vals xs fW/\IsTup h a fW.toArray
 | .dK kvs=>kvs.length<=sizeLine/\(a ==sysModules)=false/\∃vs,KV kvs vs/\h.DictOf (iy P w) a vs
 | .dT kvs=>kvs.length<=sizeLine/\(a ==sysModules)=false/\∃xs:List (List Key×Addr×Value),
  Paired (λ(p:List Key×V) (q:List Key×Addr×Value)=>p.1=q.1/\H q.2.1=some (.tup (p.1.map kV))/\RelV p.2 q.2.2) kvs xs/\
  ∃o es ep,h.get? a=some o/\o.ExactDict/\o.data=.dict es ep/\es.toList=xs.map (entryOfKey (tupleKind (iy P w)))/\(xs.map (·.1)).Nodup
 | .set S n=>h.SetOf (intKind P w) a S n
 | .ins C dx fs=>H dx=some (.own a)/\fs.length<=1000/\dx≠a/\h.get? a=some (W.instObj C dx)/\
  ∃mA,h.Ns1 dx mA/\(∀f,oa (fs.lookup f) (mA f))/\PySem.Within mA (fs.map (·.1))
 | .own _=>∃o,h.get? a=some o
 | .xd fs=>∃mA,h.Ns1 a mA/\∀f,oa (fs.lookup f) (mA f)
 | .Pn lo hi=>∃t u v,h.get? a=some {cls:=.type "range",data:=.fields #[.int lo t,.int hi u,.int 1 v]}
 | .mw o u=>h.get? a=some o/\ia H h a u
 | .G5 ps=>h.get? a=some {cls:=.none,data:=.fields ps}
 | .met f x=>h.get? a=some (W.methodObj (.ref f) (.ref x))
 | .ext Z=>Z h/\(∃o,h.get? a=some o)/\∀h1 h2:Heap,Z h1->(∀o,h1.get? a=some o->h2.get? a=some o)->Z h2
def og(H:Hp)(h:Heap):Prop:=∀a o,H a=some o->ia P w H h a o
end
section
variable{P:Program}{w:World}{H H':Hp}{h h':Heap}{a:Addr}{o:HO}
theorem ia.lt(x:ia P w H h a o):a<h.objs.size:=by
 cases o with
 | lst xs=>obtain⟨_,_,_,_,e⟩:=x;exact aac e
 | tup xs=>obtain⟨_,_,_,p⟩:=x;exact p.lt
 | dK kvs=>obtain⟨_,_,_,_,o,_,_,e,_⟩:=x;exact aac e
 | dT kvs=>obtain⟨_,_,_,_,o,_,_,e,_⟩:=x;exact aac e
 | set S n=>obtain⟨o,_,_,_,e,_⟩:=x;exact aac e
 | ins C dx fs=>obtain⟨_,_,_,e,_⟩:=x;exact aac e
 | own y=>obtain⟨_,e⟩:=x;exact aac e
 | xd fs=>obtain⟨_,⟨_,_,_,e,_⟩,_⟩:=x;exact aac e
 | Pn lo hi=>obtain⟨_,_,_,e⟩:=x;exact aac e
 | mw ob u=>obtain⟨e,_⟩:=x;exact aac e
 | G5 ps=>exact aac (show h.get? a=some _ from x)
 | met f y=>exact aac (show h.get? a=some _ from x)
 | ext Z=>obtain⟨_,⟨_,e⟩,_⟩:=x;exact aac e
theorem Paired.j5{Z Y:Type}{F G:Z->Y->Prop}:∀{l1:List Z} {l2:List Y},Paired F l1 l2->(∀a b,F a b->G a b)->Paired G l1 l2
 | _,_,.nil,_=>.nil
 | _,_,.cons r t,f=>.cons (f _ _ r) (Paired.j5 t f)
theorem ia.rZ(x:ia P w H h a o)(k:∀b u,(b=a\/H b=some (.own a))->h.get? b=some u->h'.get? b=some u)
  (ho:∀b,H b=some (.own a)->H' b=some (.own a)) (ht:∀b xs,H b=some (.tup xs)->H' b=some (.tup xs)):ia P w H' h' a o:=by
 induction o with
 | lst xs=>obtain⟨z,fW,n,r,e⟩:=x;exact⟨z,fW,n,r,k _ _ (.inl rfl) e⟩
 | tup xs=>obtain⟨z,fW,r,ob,e,c⟩:=x;exact⟨z,fW,r,ob,k _ _ (.inl rfl) e,c⟩
 | dK kvs=>obtain⟨z,y,vs,r,ob,es,ep,e,c⟩:=x;exact⟨z,y,vs,r,ob,es,ep,k _ _ (.inl rfl) e,c⟩
 | dT kvs=>
  obtain⟨z,y,xs,r,ob,es,ep,e,c⟩:=x
  exact⟨z,y,xs,Paired.j5 r λp q z=>⟨z.1,ht _ _ z.2.1,z.2.2⟩,ob,es,ep,k _ _ (.inl rfl) e,c⟩
 | set S n=>obtain⟨ob,es,ep,t,e,c⟩:=x;exact⟨ob,es,ep,t,k _ _ (.inl rfl) e,c⟩
 | ins C dx fs=>
  obtain⟨d,z,ne,e,mA,⟨od,es,ep,e2,c⟩,r⟩:=x
  exact⟨ho _ d,z,ne,k _ _ (.inl rfl) e,mA,⟨od,es,ep,k _ _ (.inr d) e2,c⟩,r⟩
 | own y=>obtain⟨ob,e⟩:=x;exact⟨ob,k _ _ (.inl rfl) e⟩
 | xd fs=>obtain⟨mA,⟨od,es,ep,e,c⟩,r⟩:=x;exact⟨mA,⟨od,es,ep,k _ _ (.inl rfl) e,c⟩,r⟩
 | Pn lo hi=>obtain⟨t,u,v,e⟩:=x;exact⟨t,u,v,k _ _ (.inl rfl) e⟩
 | mw ob u ih=>obtain⟨e,q⟩:=x;exact⟨k _ _ (.inl rfl) e,ih q⟩
 | G5 ps=>
  have e:h.get? a=some {cls:=.none,data:=.fields ps}:=x
  show h'.get? a=some {cls:=.none,data:=.fields ps}
  exact k a _ (.inl rfl) e
 | met f y=>
  have e:h.get? a=some (W.methodObj (.ref f) (.ref y)):=x
  show h'.get? a=some (W.methodObj (.ref f) (.ref y))
  exact k a _ (.inl rfl) e
 | ext Z=>obtain⟨p,⟨o,e⟩,st⟩:=x;exact⟨st _ _ p λo q=>k _ _ (.inl rfl) q,⟨o,k _ _ (.inl rfl) e⟩,st⟩
theorem og.lt(x:og P w H h)(e:H a=some o):a<h.objs.size:=(x a o e).lt
theorem og.fresh(x:og P w H h)(e:h.objs.size<=a):H a=none:=by
 cases q:H a with
 | none=>rfl
 | some u=>exact absurd (aal (x.lt q) e) (aba _)
theorem og.kept(x:og P w H h)(k:∀b u,h.get? b=some u->h'.get? b=some u):og P w H h':=λa o e=>
 (x a o e).rZ (λb u _ q=>k b u q) (λ_ q=>q) λ_ _ q=>q
theorem og.laid(x:og P w H h)(k:∀b u,h.get? b=some u->h'.get? b=some u)(hp:h.objs.size<=a)(new:ia P w (upd H a o) h' a o):og P w (upd H a o) h':=λb u e=>by
 have hn:=x.fresh hp
 by_cases hb:b=a
 ·subst hb;rw[a_] at e;cases e;exact new
 ·rw[c_ hb] at e
  exact(x b u e).rZ (λc v _ q=>k c v q) (λc q=>by rw[c_ (fz q hn)];exact q) λc xs q=>by rw[c_ (fz q hn)];exact q
end
def Rd(H:Hp)(a:Addr)(u:HO):Prop:=H a=some u\/∃o,H a=some (.mw o u)
theorem Rd.ok{P:Program}{w:World}{H:Hp}{h:Heap}{a:Addr}{u:HO}(r:Rd H a u)(x:og P w H h):ia P w H h a u:=by
 rcases r with r|⟨o,r⟩
 ·exact x a u r
 ·obtain⟨_,q⟩:=x a _ r
  exact q
def IX:Option HO->Prop
 | some (.lst _)=>True
 | some (.dK _)=>True
 | some (.dT _)=>True
 | some (.set _ _)=>True
 | some (.ins _ _ _)=>True
 | some (.ext _)=>True
 | _=>False
section
variable{P:Program}{w:World}{H:Hp}{h h':Heap}{x e:Addr}{o':HO}
theorem og.write(ok:og P w H h)(mu:IX (H x))(he:e=x\/H e=some (.own x))(k:∀b u,b≠e->h.get? b=some u->h'.get? b=some u)(Gx:∃u,h'.get? e=some u)
  (new:ia P w (upd H x o') h' x o'):og P w (upd H x o') h':=λb u q=>by
 have NO:∀c y,H c=some (.own y)->c≠x:=λc y r z=>by subst z;rw[r] at mu;exact mu
 have Rf:∀c xs,H c=some (.tup xs)->c≠x:=λc xs r z=>by subst z;rw[r] at mu;exact mu
 by_cases hb:b=x
 ·subst hb;rw[a_] at q;cases q;exact new
 ·rw[c_ hb] at q
  by_cases Lu:b=e
  ·have q':H b=some (.own x):=by
    rcases he with z|z
    ·exact absurd (Lu.trans z) hb
    ·rw[Lu];exact z
   rw[q] at q';cases q'
   obtain⟨v,hv⟩:=Gx
   exact⟨v,by rw[Lu];exact hv⟩
  ·refine(ok b u q).rZ (λc v hc r=>k c v ?_ r) (λc r=>by rw[c_ (NO c b r)];exact r) λc xs r=>by rw[c_ (Rf c xs r)];exact r
   rcases hc with rfl|hc
   ·exact Lu
   ·rintro rfl
    rcases he with z|z
    ·exact NO c b hc z
    ·rw[hc] at z;cases z;exact hb rfl
end
structure Un(fs ex:List Addr)(H H':Hp)(h h':Heap):Prop where
 keep:∀b o,h.get? b=some o->H b=none->b∉fs->b∉ex->h'.get? b=some o
 slot:∀b o,h.get? b=some o->H b=none->b∈fs->b∉ex->∃sl,h'.get? b=some {o with slots:=sl}
 free:∀b o,h.get? b=some o->H b=none->b∉ex->H' b=none
 there:∀b o,h.get? b=some o->b∉ex->∃o',h'.get? b=some o'
 oh:∀b xs,H b=some (.tup xs)->H' b=some (.tup xs)
 qJ:∀b o u,H b=some (.mw o u)->H' b=some (.mw o u)
 r9:∀b ps,H b=some (.G5 ps)->∃more,H' b=some (.G5 (ps++more))
section
variable{fs W6 ex ex':List Addr}{H H1 H2:Hp}{h h1 h2 h':Heap}{a x e:Addr}{o:HO}
theorem Un.any(u:Un fs ex H H1 h h1){b:Addr}{ob:Obj}(q:h.get? b=some ob)(n:H b=none)(hx:b∉ex):∃sl,h1.get? b=some {ob with slots:=sl}:=by
 by_cases hb:b∈fs
 ·exact u.slot b ob q n hb hx
 ·exact⟨ob.slots,u.keep b ob q n hb hx⟩
theorem Un.kept(k:∀b u,h.get? b=some u->h'.get? b=some u):Un fs ex H H h h':=
 ⟨λb ob q _ _ _=>k b ob q,λb ob q _ _ _=>⟨ob.slots,k b ob q⟩,λ_ _ _ n _=>n,λb ob q _=>⟨ob,k b ob q⟩,λ_ _ q=>q,λ_ _ _ q=>q,λ_ ps q=>⟨#[],by rw[q];simp⟩⟩
theorem Un.refl:Un fs ex H H h h:=Un.kept λ_ _ q=>q
theorem Un.laid(k:∀b u,h.get? b=some u->h'.get? b=some u)(hp:h.objs.size<=a)(hn:H a=none):Un fs ex H (upd H a o) h h' where
 keep:=λb u q _ _ _=>k b u q
 slot:=λb u q _ _ _=>⟨u.slots,k b u q⟩
 free:=λb u q n _=>by rw[c_ (aar (aal (aac q) hp))];exact n
 there:=λb u q _=>⟨u,k b u q⟩
 oh:=λb xs q=>by rw[c_ (fz q hn)];exact q
 qJ:=λb u xs q=>by rw[c_ (fz q hn)];exact q
 r9:=λb ps q=>⟨#[],by rw[c_ (fz q hn),q];simp⟩
theorem Un.write(mu:IX (H x))(he:e=x\/H e=some (.own x))(k:∀b u,b≠e->h.get? b=some u->h'.get? b=some u)(Gx:∃u,h'.get? e=some u):Un fs ex H (upd H x o) h h':=by
 have hx:∀b,H b=none->b≠x:=λb n z=>by subst z;rw[n] at mu;exact mu
 have hb:∀b,H b=none->b≠e:=λb n z=>by
  subst z
  rcases he with r|r
  ·exact hx b n r
  ·rw[n] at r;cases r
 have hm:∀b u,H b=some u->¬IX (some u)->b≠x:=λb u q nm z=>by subst z;rw[q] at mu;exact nm mu
 refine⟨λb u q n _ _=>k b u (hb b n) q,λb u q n _ _=>⟨u.slots,k b u (hb b n) q⟩,λb u q n _=>by rw[c_ (hx b n)];exact n,λb u q _=>?_,
  λb xs q=>by rw[c_ (hm b _ q λz=>z)];exact q,λb u xs q=>by rw[c_ (hm b _ q λz=>z)];exact q,λb ps q=>⟨#[],by rw[c_ (hm b _ q λz=>z),q];simp⟩⟩
 by_cases Lu:b=e
 ·subst Lu;exact Gx
 ·exact⟨u,k b u Lu q⟩
end
def Po(h:Heap)(H:Hp):List Addr:=(List.range h.objs.size).filter λa=>(H a).isSome
def yJ(h:Heap)(H:Hp):Heap:=W.hideAll h (Po h H)
theorem DA(h:Heap)(H:Hp):(yJ h H).objs.size=h.objs.size:=W.hideAll_size _ _
theorem EH{h:Heap}{H:Hp}{b:Addr}{o:Obj}(e:h.get? b=some o)(n:H b=none):(yJ h H).get? b=some o:=
 W.hideAll_get _ e λhm=>by
  have q:(H b).isSome=true:=(Yj.mp hm).2
  rw[n] at q;simp at q
theorem Hi{h:Heap}{H:Hp}{b:Addr}{o:Obj}(e:(yJ h H).get? b=some o):h.get? b=some o/\H b=none:=by
 have e':h.get? b=some o:=W.of_hideAll (Po h H) e
 refine⟨e',?_⟩
 cases q:H b with
 | none=>rfl
 | some x=>
  have hm:b∈Po h H:=Yj.mpr ⟨List.mem_range.mpr (aac e'),by simp[q]⟩
  have z:(yJ h H).get? b=none:=W.hideAll_none (Po h H) hm
  rw[z] at e;cases e
def Hj(g h:Heap)(L:Addr):Qqz:=(List.range h.objs.size).filterMap λa=>if a=L\/(g.get? a).isSome=true then none else(h.get? a).map λo=>(a,o)
def rest(g h:Heap)(L d:Addr):Qqz:=(Hj g h L).filter λp=>decide (p.1≠d)
structure Mod(K:Qqy)(mg:Qqx)(base:Heap):Prop where
 JS:K.In base
 glob:base.Ns mainGlobals mg
 blt:∃mb,base.Ns builtinsNs mb/\∀x:Str,x≠"__name__"->mb x=bootBuiltins x
 nolimit:base.NoLimit
structure Cx where
 prog:Program
 w:World
 K:Qqy
 mg:Qqx
 base:Heap
 A:Around
 N:List Str
 s₀:Shared
 H₀:Hp
 env:Env
 outer:List Env
 stack:List Env
 ex:List Addr
 fn:Str->Bool
 calm:Bool
 pn:Qqz
 xe:Qqq
def pd(l:List Env):List Addr:=l.filterMap (·.frame)
abbrev Cx.fs(X:Cx):List Addr:=pd X.outer
def Qp(sc:Scope)(x:Str):Prop:=sc.names.lookup x=some .local\/sc.names.lookup x=some .cell\/sc.names.lookup x=some .free
def Loc(sc:Scope)(x:Str):Prop:=sc.names.lookup x=some .local\/sc.names.lookup x=some .cell
def Look(env:Env)(h:Heap)(m:Qqx)(x:Str)(u:Value):Prop:=
 (env.kindOf x=some .local/\m x=some u)\/((env.kindOf x=some .cell\/env.kindOf x=some .free)/\∃c,env.cells.lookup x=some c/\h.IsCell c (some u))
structure Cx.Ok(X:Cx):Prop where
 mod:Mod X.K X.mg X.base
 kind:X.env.scope.kind=.function
 glob:X.env.globals=mainGlobals
 blt:X.env.builtins=builtinsNs
 above:X.s₀.heap.objs.size<=X.env.locals
 inj:∀x y c,X.env.cells.lookup x=some c->X.env.cells.lookup y=some c->x=y
 has:∀x,(X.env.kindOf x=some .cell\/X.env.kindOf x=some .free)->∃c,X.env.cells.lookup x=some c
 IY:∀x c,X.fn x=true->X.env.cells.lookup x=some c->X.s₀.heap.objs.size<=c
 hd:X.calm=true->X.A.handled=none
 frames:X.A.frames=some X.stack
 JT:X.stack=X.outer\/(X.stack=X.env::X.outer/\X.env.frame=some X.env.locals)
 Mx:∀b∈X.ex,b≠X.env.locals/\∀x c,X.env.cells.lookup x=some c->c≠b
 bs:∀b o,X.base.get? b=some o->X.s₀.heap.get? b=some o/\X.H₀ b=none
 Ez:X.base.objs.size<=X.s₀.heap.objs.size
 pz:∀b o,X.base.get? b=some o->b∉X.ex
 BU:∀b∈X.ex,b∉X.fs
 pC:X.s₀.heap.FunFrames X.base X.outer
 EA:∀b∈X.fs,X.H₀ b=none
structure Inv(X:Cx)(ak:Qqz)(Z:List (Option V))(H:Hp)(s:Shared):Prop where
 ok:X.Ok
 os:s.os=X.s₀.os
 bare:AllBare s.gens
 base:Un X.fs X.ex X.H₀ H X.s₀.heap s.heap
 loc:∃m,s.heap.Ns X.env.locals m/\∀(i:Nat)(x:Str)(v:V),X.N[i]?=some x->Z[i]?=some (some v)->Qp X.env.scope x->∃u,RelV v u/\Look X.env s.heap m x u
 cell:∀x c,X.env.cells.lookup x=some c->∃v,s.heap.IsCell c v
 free:H X.env.locals=none
 kC:∀x c,X.env.cells.lookup x=some c->H c=none
 pin:∀p∈X.pn++ak,s.heap.get? p.1=some p.2/\H p.1=none/\p.1≠X.env.locals/\p.1∉X.fs/\∀v,p.2.data≠.cell v
 gX:og X.prog X.w H s.heap
 len:Z.length=X.N.length
section
variable{X:Cx}{ak:Qqz}{Z:List (Option V)}{H H':Hp}{s:Shared}{h':Heap}
theorem Cx.Ok.Hk(ok:X.Ok){b:Addr}{o:Obj}(e:X.base.get? b=some o):b∉X.fs:=λhb=>by
 have:=(ok.pC.mem hb).1
 rw[e] at this;cases this
theorem Inv.bs(I:Inv X ak Z H s):∀b o,X.base.get? b=some o->s.heap.get? b=some o/\H b=none:=λb o e=>
 ⟨I.base.keep b o (I.ok.bs b o e).1 (I.ok.bs b o e).2 (I.ok.Hk e) (I.ok.pz b o e),I.base.free b o (I.ok.bs b o e).1 (I.ok.bs b o e).2 (I.ok.pz b o e)⟩
theorem Inv.bk(I:Inv X ak Z H s):∀b o,X.base.get? b=some o->s.heap.get? b=some o:=λb o e=>(I.bs b o e).1
theorem Inv.mod(I:Inv X ak Z H s):Mod X.K X.mg X.base:=I.ok.mod
theorem Inv.r_(I:Inv X ak Z H s):X.K.In s.heap:=I.ok.mod.JS.keeps I.bk
theorem Inv.lt(I:Inv X ak Z H s):X.env.locals<s.heap.objs.size:=let ⟨_,hn,_⟩:=I.loc;hn.lt
theorem Inv.sz(I:Inv X ak Z H s):X.s₀.heap.objs.size<=s.heap.objs.size:=aag I.ok.above (Nat.le_of_lt I.lt)
theorem Inv.My(I:Inv X ak Z H s){a:Addr}(h:s.heap.objs.size<=a):a∉X.fs:=λhb=>by
 obtain⟨_,o,ho,_⟩:=I.ok.pC.mem hb
 exact absurd (aal (aac ho) (aag I.sz h)) (aba _)
theorem Inv.JU(I:Inv X ak Z H s):∀x c,X.env.cells.lookup x=some c->c≠X.env.locals:=λx c e z=>by
 obtain⟨v,o,ho,hd⟩:=I.cell x c e
 obtain⟨m,⟨o',es,ep,mv,Rg,_⟩,_⟩:=I.loc
 rw[z,mv] at ho;cases ho;rw[Rg] at hd;cases hd
theorem Inv.pC(I:Inv X ak Z H s):s.heap.FunFrames X.base X.outer:=by
 have all:∀(l:List Env),(∀b∈pd l,b∈X.fs)->X.s₀.heap.FunFrames X.base l->s.heap.FunFrames X.base l:=by
  intro l
  induction l with
  | nil=>intro _ _;trivial
  | cons env r ih=>
   intro hs hl
   obtain⟨hk,⟨L,o,hf,hn,ho,hd⟩,hr⟩:=hl
   have hL:L∈X.fs:=hs L (by unfold pd;rw[aby,hf];exact aae)
   obtain⟨sl,e⟩:=I.base.slot L o ho (I.ok.EA L hL) hL λz=>I.ok.BU L z hL
   exact⟨hk,⟨L,_,hf,hn,e,hd⟩,ih (λb hb=>hs b (by unfold pd;rw[aby,hf];exact Uk _ hb)) hr⟩
 exact all X.outer (λ_ hb=>hb) I.ok.pC
theorem Inv.stack(I:Inv X ak Z H s):s.heap.FunFrames X.base X.stack:=by
 rcases I.ok.JT with e|⟨e,hf⟩
 ·rw[e];exact I.pC
 ·rw[e]
  obtain⟨m,hn,_⟩:=I.loc
  refine .cons (by rw[I.ok.kind];decide) hf hn ?_ I.pC
  exact Heap.get?_none_of_le (aag I.ok.Ez I.ok.above)
theorem Inv.tL(I:Inv X ak Z H s):∀b∈pd X.stack,b∈X.env.locals::X.fs:=λb hb=>by
 rcases I.ok.JT with e|⟨e,hf⟩
 ·rw[e] at hb;exact Uk _ hb
 ·rw[e] at hb
  unfold pd at hb
  rw[aby,hf] at hb
  exact hb
theorem Inv.vk(I:Inv X ak Z H s):∀b∈pd X.stack,H b=none:=λb hb=>by
 rcases RT.mp (I.tL b hb) with e|hb
 ·rw[e];exact I.free
 ·obtain⟨_,o,ho,_⟩:=I.ok.pC.mem hb
  exact I.base.free b o ho (I.ok.EA b hb) λz=>I.ok.BU b z hb
theorem Inv.step{g':Array GenState}{t':Nat}{d':Drawn}{ch:List Addr}(I:Inv X ak Z H s)
  (G9:∀b∈ch,(b∈X.ex\/X.s₀.heap.objs.size<=b)/\b≠X.env.locals/\(∀x c,X.env.cells.lookup x=some c->c≠b)/\∀p∈X.pn++ak,p.1≠b)
  (keep:∀b o,b≠X.env.locals->b∉X.fs->b∉ch->s.heap.get? b=some o->H b=none->h'.get? b=some o)
  (slot:∀b o,b≠X.env.locals->b∈X.fs->b∉ch->s.heap.get? b=some o->H b=none->∃sl,h'.get? b=some {o with slots:=sl}) (free:∀b o,b∉ch->s.heap.get? b=some o->H b=none->H' b=none)
  (there:∀b o,b∉ch->s.heap.get? b=some o->∃o',h'.get? b=some o')
  (oh:∀b xs,H b=some (.tup xs)->H' b=some (.tup xs)) (qJ:∀b o u,H b=some (.mw o u)->H' b=some (.mw o u)) (r9:∀b ps,H b=some (.G5 ps)->∃more,H' b=some (.G5 (ps++more)))
  (ns:∀m,s.heap.Ns X.env.locals m->h'.Ns X.env.locals m) (gX:og X.prog X.w H' h') (hg:AllBare g') :
  Inv X ak Z H' {s with heap:=h',gens:=g',drawn:=d',toks:=t'}:=by
 have Uo:∀b o,X.s₀.heap.get? b=some o->b≠X.env.locals:=λb o e=>aar (aal (aac e) I.ok.above)
 have PD:∀b o,X.s₀.heap.get? b=some o->b∉X.ex->b∉ch:=λb o e hx hb=>by
  rcases(G9 b hb).1 with z|z
  ·exact hx z
  ·exact absurd (aal (aac e) z) (aba _)
 have cellK:∀x c,X.env.cells.lookup x=some c->∀v,s.heap.IsCell c v->h'.IsCell c v:=λx c e v ⟨o,ho,hd⟩=>by
  have NP:c∉ch:=λz=>(G9 c z).2.2.1 x c e rfl
  by_cases hc:c∈X.fs
  ·obtain⟨sl,q⟩:=slot c o (I.JU x c e) hc NP ho (I.kC x c e)
   exact⟨_,q,hd⟩
  ·exact⟨o,keep c o (I.JU x c e) hc NP ho (I.kC x c e),hd⟩
 refine⟨I.ok,I.os,hg,⟨λb o e n hb hx=>?_,λb o e n hb hx=>?_,λb o e n hx=>?_,λb o e hx=>?_,λb xs e=>oh b xs (I.base.oh b xs e),λb o xs e=>qJ b o xs (I.base.qJ b o xs e),λb ps e=>?_⟩,?_,λx c e=>?_,?_,λx c e=>?_,λp hp=>?_,gX,I.len⟩
 ·exact keep b o (Uo b o e) hb (PD b o e hx) (I.base.keep b o e n hb hx) (I.base.free b o e n hx)
 ·obtain⟨sl,e1⟩:=I.base.slot b o e n hb hx
  obtain⟨W7,e2⟩:=slot b _ (Uo b o e) hb (PD b o e hx) e1 (I.base.free b o e n hx)
  exact⟨W7,e2⟩
 ·obtain⟨o',e1⟩:=I.base.there b o e hx
  exact free b o' (PD b o e hx) e1 (I.base.free b o e n hx)
 ·obtain⟨o',e1⟩:=I.base.there b o e hx
  exact there b o' (PD b o e hx) e1
 ·obtain⟨m1,e1⟩:=I.base.r9 b ps e
  obtain⟨m2,e2⟩:=r9 b _ e1
  exact⟨m1++m2,by rw[e2,Array.append_assoc]⟩
 ·obtain⟨m,hn,hl⟩:=I.loc
  refine⟨m,ns m hn,λi x v e1 e2 e3=>?_⟩
  obtain⟨u,r,l⟩:=hl i x v e1 e2 e3
  refine⟨u,r,?_⟩
  rcases l with l|⟨k,c,e,z⟩
  ·exact .inl l
  ·exact .inr ⟨k,c,e,cellK x c e _ z⟩
 ·obtain⟨v,z⟩:=I.cell x c e
  exact⟨v,cellK x c e v z⟩
 ·obtain⟨m,⟨o,_,_,ho,_⟩,_⟩:=I.loc
  exact free _ o (λz=>(G9 _ z).2.1 rfl) ho I.free
 ·obtain⟨v,o,ho,hd⟩:=I.cell x c e
  exact free c o (λz=>(G9 c z).2.2.1 x c e rfl) ho (I.kC x c e)
 ·obtain⟨e,n,ne,nf,d⟩:=I.pin p hp
  have NP:p.1∉ch:=λz=>(G9 p.1 z).2.2.2 p hp rfl
  exact⟨keep p.1 p.2 ne nf NP e n,free p.1 p.2 NP e n,ne,nf,d⟩
theorem Inv.un{t':Nat}(I:Inv X ak Z H s)(u:Un X.fs [] H H' s.heap h')(gX:og X.prog X.w H' h'):Inv X ak Z H' {s with heap:=h',toks:=t'}:=by
 obtain⟨m,⟨o,es,ep,ho,r⟩,_⟩:=id I.loc
 obtain⟨sl,hL⟩:=u.any ho I.free (by simp)
 exact I.step (g':=s.gens) (d':=s.drawn) (ch:=[]) (λ_ z=>nomatch z) (λb o _ hb _ e n=>u.keep b o e n hb (by simp)) (λb o _ hb _ e n=>u.slot b o e n hb (by simp)) (λb o _ e n=>u.free b o e n (by simp)) (λb o _ e=>u.there b o e (by simp)) u.oh u.qJ u.r9 (λm' hm=>by
  obtain⟨o',es',Jt,mv,r'⟩:=hm
  rw[ho] at mv;cases mv
  exact⟨_,es',Jt,hL,r'⟩) gX I.bare
theorem Inv.call{g':Array GenState}{t':Nat}{d':Drawn}{ch:List Addr}(I:Inv X ak Z H s)(u:Un (pd X.stack) ch H H' s.heap h')(gX:og X.prog X.w H' h')(hg:AllBare g')
  (G9:∀b∈ch,(b∈X.ex\/X.s₀.heap.objs.size<=b)/\b≠X.env.locals/\(∀x c,X.env.cells.lookup x=some c->c≠b)/\∀p∈X.pn++ak,p.1≠b) :
  Inv X ak Z H' {s with heap:=h',gens:=g',drawn:=d',toks:=t'}:=by
 obtain⟨m,⟨o,es,ep,ho,r⟩,_⟩:=id I.loc
 obtain⟨sl,hL⟩:=u.any ho I.free λz=>(G9 _ z).2.1 rfl
 exact I.step (ch:=ch) G9 (λb o hL hb hc e n=>u.keep b o e n (λz=>(RT.mp (I.tL b z)).elim hL hb) hc) (λb o _ _ hc e n=>u.any e n hc) (λb o hc e n=>u.free b o e n hc) (λb o hc e=>u.there b o e hc) u.oh u.qJ u.r9 (λm' hm=>by
  obtain⟨o',es',Jt,mv,r'⟩:=hm
  rw[ho] at mv;cases mv
  exact⟨_,es',Jt,hL,r'⟩) gX hg
theorem Inv.turned{t':Nat}{it:Addr}(I:Inv X ak Z H s)(k:∀b o,b≠it->s.heap.get? b=some o->h'.get? b=some o)(hn:H it=none)(hL:it≠X.env.locals)
  (h1:it∈X.ex\/X.s₀.heap.objs.size<=it) (h2:∀x c,X.env.cells.lookup x=some c->c≠it) (h3:∀p∈X.pn++ak,p.1≠it):Inv X ak Z H {s with heap:=h',toks:=t'}:=by
 have Up:∀b u,H b=some u->b≠it:=λb u e z=>by rw[z,hn] at e;cases e
 refine I.step (g':=s.gens) (d':=s.drawn) (ch:=[it]) (λb hb=>?_) (λb o _ _ hc e _=>k b o (λz=>hc (by simp[z])) e) (λb o _ _ hc e _=>⟨o.slots,k b o (λz=>hc (by simp[z])) e⟩) (λ_ _ _ _ n=>n)
  (λb o hc e=>⟨o,k b o (λz=>hc (by simp[z])) e⟩) (λ_ _ e=>e) (λ_ _ _ e=>e) (λb ps e=>⟨#[],by rw[e];simp⟩) (λm hm=>?_) (λb u e=>?_) I.bare
 ·have e:b=it:=by simpa using hb
  subst e
  exact⟨h1,hL,h2,h3⟩
 ·obtain⟨o,es,ep,ho,r⟩:=hm
  exact⟨o,es,ep,k _ o (abz hL) ho,r⟩
 ·refine(I.gX b u e).rZ (λc v hc q=>k c v ?_ q) (λ_ q=>q) λ_ _ q=>q
  rcases hc with z|z
  ·rw[z];exact Up b u e
  ·exact Up c _ z
theorem Inv.tok(I:Inv X ak Z H s)(t:Nat):Inv X ak Z H {s with toks:=t}:=I.un (h':=s.heap) (t':=t) Un.refl I.gX
theorem Inv.kept{t':Nat}(I:Inv X ak Z H s)(k:∀b u,s.heap.get? b=some u->h'.get? b=some u):Inv X ak Z H {s with heap:=h',toks:=t'}:=I.un (Un.kept k) (I.gX.kept k)
theorem Inv.laid{a:Addr}{o:HO}{t':Nat}(I:Inv X ak Z H s)(k:∀b u,s.heap.get? b=some u->h'.get? b=some u)(hp:s.heap.objs.size<=a)(new:ia X.prog X.w (upd H a o) h' a o) :
 Inv X ak Z (upd H a o) {s with heap:=h',toks:=t'}:=I.un (Un.laid k hp (I.gX.fresh hp)) (I.gX.laid k hp new)
theorem Inv.write{x e:Addr}{o:HO}{t':Nat}(I:Inv X ak Z H s)(mu:IX (H x))(he:e=x\/H e=some (.own x))(k:∀b u,b≠e->s.heap.get? b=some u->h'.get? b=some u)(Gx:∃u,h'.get? e=some u)
 (new:ia X.prog X.w (upd H x o) h' x o):Inv X ak Z (upd H x o) {s with heap:=h',toks:=t'}:=I.un (Un.write mu he k Gx) (I.gX.write mu he k Gx new)
theorem Inv.vp{Ju:Qqz}(I:Inv X ak Z H s)(h:∀p∈Ju,s.heap.get? p.1=some p.2/\H p.1=none/\p.1≠X.env.locals/\p.1∉X.fs/\∀v,p.2.data≠.cell v):Inv X Ju Z H s:=
 ⟨I.ok,I.os,I.bare,I.base,I.loc,I.cell,I.free,I.kC,λp hp=>(Ue.mp hp).elim (λz=>I.pin p (aad _ z)) (h p),I.gX,I.len⟩
theorem Aq{N:List Str}(hN:N.Nodup){i j:Nat}{x:Str}(a:N[i]?=some x)(b:N[j]?=some x):i=j:=by
 obtain⟨h1,e1⟩:=List.getElem?_eq_some_iff.mp a
 obtain⟨h2,e2⟩:=List.getElem?_eq_some_iff.mp b
 exact(List.getElem_inj hN).mp (e1.trans e2.symm)
theorem x5{M:Model}{A:Around}{E:Qqq}{i:Nat}{x:Str}{v:V}{u:Value}{Q:Unit->Shared->Prop}(I:Inv X ak Z H s)(hN:X.N.Nodup)(hi:X.N[i]?=some x)(hx:Loc X.env.scope x)(r:RelV v u)
  (h:∀s',Inv X ak (Z.set i (some v)) H s'->(∃a,Heap.SameBut a s.heap s'.heap/\(a=X.env.locals\/X.env.cells.lookup x=some a))->Q () s') (hf:X.fn x=true\/X.env.scope.names.lookup x=some .local:=by first|exact .inl rfl|exact .inr rfl|assumption):wpAny M A (storeName X.env x u) Q E s:=by
 obtain⟨m,hn,hl⟩:=id I.loc
 have Rh:(X.env.scope.kind ==.class||(X.env.scope.kind ==.module&&X.env.locals != X.env.globals))=false:=by rw[I.ok.kind];rfl
 have Uq:i<Z.length:=by rw[I.len];exact(List.getElem?_eq_some_iff.mp hi).1
 have JU:=I.JU
 have tracked:∀{a:Addr} {h':Heap},(∃o,s.heap.get? a=some o/\H a=none)->Heap.SameBut a s.heap h'->og X.prog X.w H h':=λ{a h'} ha hs b ob e=>by
  obtain⟨_,_,u1⟩:=ha
  refine(I.gX b ob e).rZ (λc w' hc q=>(hs.2 c ?_).trans q) (λ_ q=>q) λ_ _ q=>q
  rintro rfl
  rcases hc with rfl|hc
  ·rw[u1] at e;cases e
  ·rw[u1] at hc;cases hc
 rcases hx with hk|hk
 ·refine wpAny_storeName_local hk hn (λh' Mg hs=>?_) Rh
  obtain⟨oL,_,_,NQ,_⟩:=id hn
  refine h _ ⟨I.ok,I.os,I.bare,⟨λb o e n hb hx=>?_,λb o e n hb hx=>?_,I.base.free,λb o e hx=>?_,I.base.oh,I.base.qJ,I.base.r9⟩,⟨_,Mg,λj y v' e1 e2 e3=>?_⟩,λy c e=>?_,I.free,I.kC,λp hp=>?_,tracked ⟨oL,NQ,I.free⟩ hs,by simpa using I.len⟩ ⟨_,hs,.inl rfl⟩
  ·exact(hs.2 b (aar (aal (aac e) I.ok.above))).trans (I.base.keep b o e n hb hx)
  ·obtain⟨sl,e1⟩:=I.base.slot b o e n hb hx
   exact⟨sl,(hs.2 b (aar (aal (aac e) I.ok.above))).trans e1⟩
  ·obtain⟨o',e1⟩:=I.base.there b o e hx
   exact⟨o',(hs.2 b (aar (aal (aac e) I.ok.above))).trans e1⟩
  ·by_cases hj:j=i
   ·subst hj
    rw[hi] at e1;cases e1
    rw[aa5 Uq] at e2
    cases e2
    exact⟨u,r,.inl ⟨hk,by simp⟩⟩
   ·rw[abf (abz hj)] at e2
    obtain⟨u',r',q⟩:=hl j y v' e1 e2 e3
    refine⟨u',r',?_⟩
    rcases q with⟨k,e⟩|⟨k,c,e,z⟩
    ·refine .inl ⟨k,?_⟩
     have:y≠x:=λe=>hj (Aq hN e1 (e▸hi))
     simp[this,e]
    ·exact .inr ⟨k,c,e,z.sameBut hs (JU y c e)⟩
  ·obtain⟨w',z⟩:=I.cell y c e
   exact⟨w',z.sameBut hs (JU y c e)⟩
  ·obtain⟨e,n,ne,nf,d⟩:=I.pin p hp
   exact⟨(hs.2 p.1 ne).trans e,n,ne,nf,d⟩
 ·have Ri:X.fn x=true:=by
   rcases hf with z|z
   ·exact z
   ·rw[z] at hk;cases hk
  obtain⟨c,hc⟩:=I.ok.has x (.inl hk)
  obtain⟨w',z⟩:=I.cell x c hc
  refine wpAny_storeName_cell I.ok.kind hk hc z (λh' yF hs=>?_)
  obtain⟨oc,Ur,Rj⟩:=id z
  refine h {s with heap:=h'} ⟨I.ok,I.os,I.bare,⟨λb o e n hb hx=>?_,λb o e n hb hx=>?_,I.base.free,λb o e hx=>?_,I.base.oh,I.base.qJ,I.base.r9⟩,⟨m,hn.sameBut hs (abz (JU x c hc)),λj y v' e1 e2 e3=>?_⟩,λy c' e=>?_,I.free,I.kC,λp hp=>?_,tracked ⟨oc,Ur,I.kC x c hc⟩ hs,by simpa using I.len⟩ ⟨c,hs,.inr hc⟩
  ·exact(hs.2 b (aar (aal (aac e) (I.ok.IY x c Ri hc)))).trans (I.base.keep b o e n hb hx)
  ·obtain⟨sl,e1⟩:=I.base.slot b o e n hb hx
   exact⟨sl,(hs.2 b (aar (aal (aac e) (I.ok.IY x c Ri hc)))).trans e1⟩
  ·obtain⟨o',e1⟩:=I.base.there b o e hx
   exact⟨o',(hs.2 b (aar (aal (aac e) (I.ok.IY x c Ri hc)))).trans e1⟩
  ·by_cases hj:j=i
   ·subst hj
    rw[hi] at e1;cases e1
    rw[aa5 Uq] at e2
    cases e2
    exact⟨u,r,.inr ⟨.inl hk,c,hc,yF⟩⟩
   ·rw[abf (abz hj)] at e2
    obtain⟨u',r',q⟩:=hl j y v' e1 e2 e3
    refine⟨u',r',?_⟩
    rcases q with q|⟨k,c',e,z'⟩
    ·exact .inl q
    ·refine .inr ⟨k,c',e,z'.sameBut hs ?_⟩
     rintro rfl
     exact hj (Aq hN e1 (I.ok.inj _ _ _ e hc▸hi))
  ·by_cases Us:c'=c
   ·subst Us;exact⟨_,yF⟩
   ·obtain⟨w2,z2⟩:=I.cell y c' e
    exact⟨w2,z2.sameBut hs Us⟩
  ·obtain⟨e,n,ne,nf,d⟩:=I.pin p hp
   refine⟨(hs.2 p.1 ?_).trans e,n,ne,nf,d⟩
   intro q
   rw[q,Ur] at e
   have q':oc=p.2:=aaf e
   exact d w' (by rw[<-q'];exact Rj)
theorem Ar{M:Model}{A:Around}{E:Qqq}{i:Nat}{x:Str}{v:V}{u:Value}{Q:Unit->Shared->Prop}(I:Inv X ak Z H s)(hN:X.N.Nodup)(hi:X.N[i]?=some x)(hx:Loc X.env.scope x)(r:RelV v u)
  (h:∀s',Inv X ak (Z.set i (some v)) H s'->Q () s') (hf:X.fn x=true\/X.env.scope.names.lookup x=some .local:=by first|exact .inl rfl|exact .inr rfl|assumption):wpAny M A (storeName X.env x u) Q E s:=
 x5 I hN hi hx r (λs' I' _=>h s' I') hf
theorem Inv.IZ{s':Shared}{ch:List Addr}(I:Inv X ak Z H s)(ho:s'.os=s.os)(u:Un (pd X.stack) ch H H' s.heap s'.heap)(gX:og X.prog X.w H' s'.heap)(hg:AllBare s'.gens)
  (G9:∀b∈ch,(b∈X.ex\/X.s₀.heap.objs.size<=b)/\b≠X.env.locals/\(∀x c,X.env.cells.lookup x=some c->c≠b)/\∀p∈X.pn++ak,p.1≠b):Inv X ak Z H' s':=by
 obtain⟨h',g',d',t',o'⟩:=s'
 have e:o'=s.os:=ho
 subst e
 exact I.call (g':=g') (t':=t') (d':=d') u gX hg G9
end
abbrev XK:=Value->Option Addr->Hp->Prop
abbrev St:=List (Option V)
abbrev VK:=V->Hp->Prop
abbrev TE:=St->Hp->VK->Prop
abbrev TT:=St->Hp->(Bool->Hp->Prop)->Prop
abbrev TA:=St->Hp->(List V->Hp->Prop)->Prop
structure Ends where
 nx:St->Hp->Prop
 rt:VK
 bk:St->Hp->Prop:=λ_ _=>False
 ct:St->Hp->Prop:=λ_ _=>False
abbrev TS:=Ends->St->Hp->Prop
def EP(X:Cx)(ak:Qqz)(Z:St)(Q:VK)(u:Value)(s':Shared):Prop:=∃v H',Inv X ak Z H' s'/\RelV v u/\Q v H'
def TP(X:Cx)(ak:Qqz)(Z:St)(Q:Bool->Hp->Prop)(b:Bool)(s':Shared):Prop:=∃H',Inv X ak Z H' s'/\Q b H'
def AP(X:Cx)(ak:Qqz)(Z:St)(Q:List V->Hp->Prop)(us:List Value)(s':Shared):Prop:=∃vs H',Inv X ak Z H' s'/\Vals vs us/\Q vs H'
def SP(X:Cx)(ak:Qqz)(D:Ends)(f:Flow)(s':Shared):Prop:=
 match f with
 | .next=>∃Z' H',Inv X ak Z' H' s'/\D.nx Z' H'
 | .brk=>∃Z' H',Inv X ak Z' H' s'/\D.bk Z' H'
 | .cont=>∃Z' H',Inv X ak Z' H' s'/\D.ct Z' H'
 | .ret u=>∃v Z' H',Inv X ak Z' H' s'/\RelV v u/\D.rt v H'
def PE(X:Cx)(e:Expr)(t:TE):Prop:=
 ∀(ak:Qqz)(s:Shared)(Z:St)(H:Hp)(Q:VK),Inv X ak Z H s->t Z H Q->wpAny (model X.prog X.w) X.A (eval e X.env) (EP X ak Z Q) X.xe s
def PT(X:Cx)(e:Expr)(t:TT):Prop:=
 ∀(ak:Qqz)(s:Shared)(Z:St)(H:Hp)(Q:Bool->Hp->Prop),Inv X ak Z H s->t Z H Q->wpAny (model X.prog X.w) X.A (isTrue e X.env (eval e X.env)) (TP X ak Z Q) X.xe s
def PW(X:Cx)(e:Expr)(t:TT):Prop:=
 ∀(whole:Sem Value)(ak:Qqz)(s:Shared)(Z:St)(H:Hp)(Q:Bool->Hp->Prop),Inv X ak Z H s->t Z H Q->wpAny (model X.prog X.w) X.A (isTrue e X.env whole) (TP X ak Z Q) X.xe s
theorem PW.pt{X:Cx}{e:Expr}{t:TT}(h:PW X e t):PT X e t:=h _
def PA(X:Cx)(es:List Expr)(t:TA):Prop:=
 ∀(pos:Pos)(ak:Qqz)(s:Shared)(Z:St)(H:Hp)(Q:List V->Hp->Prop),Inv X ak Z H s->t Z H Q->wpAny (model X.prog X.w) X.A (spliced (backTo pos (starEach es X.env))) (AP X ak Z Q) X.xe s
def PS(X:Cx)(st:Stmt)(t:TS):Prop:=
 ∀(ak:Qqz)(s:Shared)(Z:St)(H:Hp)(D:Ends),Inv X ak Z H s->t D Z H->wpAny (model X.prog X.w) X.A (exec st X.env) (SP X ak D) X.xe s
def Am(X:Cx)(st:List Stmt)(t:TS):Prop:=
 ∀(ak:Qqz)(s:Shared)(Z:St)(H:Hp)(D:Ends),Inv X ak Z H s->t D Z H->wpAny (model X.prog X.w) X.A (execs st X.env) (SP X ak D) X.xe s
theorem il{Z:Type}{t:Sem Z}{Q Q':Z->Shared->Prop}{M:Model}{A:Around}{E:Qqq}{s:Shared}(h:wpAny M A t Q E s)(hQ:∀a s,Q a s->Q' a s):wpAny M A t Q' E s:=abg h hQ λ_ _ x=>x
section
variable{X:Cx}
inductive Mz(i:Nat)(Z:St)(H:Hp)(Q:VK):Prop
 | mk (v) (_:Z[i]?=some (some v)) (_:Q v H)
def tC(v:V):TE:=λ_ H Q=>Q v H
theorem JV{i:Nat}{x:Str}{pos:Pos}(hN:X.N[i]?=some x)(hv:Qp X.env.scope x)(hd:(x ==("__debug__":Str))=false:=by decide)(yG:(x ==("__classdict__":Str))=false:=by decide):PE X (.Name x pos) (Mz i):=by
 intro ak s Z H Q I h
 obtain⟨v,e,h⟩:=h
 obtain⟨m,hn,hl⟩:=I.loc
 obtain⟨u,r,l⟩:=hl i x v hN e hv
 have fin:EP X ak Z Q u s:=⟨v,H,I,r,h⟩
 rcases l with⟨hk,hm⟩|⟨hk,c,hc,Jw⟩
 ·exact wpAny_Name (wpAny_loadName_local I.ok.kind hk hn hm fin) hd
 ·rcases hk with hk|hk
  ·exact wpAny_Name (wpAny_loadName_cell I.ok.kind hk hc Jw fin) hd
  ·exact wpAny_Name (wpAny_loadName_free I.ok.kind hk hc Jw fin yG) hd
theorem fJ{i j pos}:PE X (.Constant (.int i) j pos) (tC (.int i)):=λ_ _ _ H _ I h=>wpAny_Constant_int ⟨.int i,H,I.tok _,⟨_,rfl⟩,h⟩
theorem lH{b j pos}:PE X (.Constant (.bool b) j pos) (tC (.bl b)):=λ_ _ _ H _ I h=>Constant_bool ⟨.bl b,H,I,rfl,h⟩
theorem vF{j pos}:PE X (.Constant .none j pos) (tC .iQ):=λ_ _ _ H _ I h=>Constant_none ⟨.iQ,H,I,rfl,h⟩
theorem jC{x j pos}:PE X (.Constant (.str x) j pos) (tC (.str x)):=λ_ _ _ H _ I h=>Calls.Constant_str ⟨.str x,H,I.tok _,⟨_,rfl⟩,h⟩
def Gl(X:Cx)(x:Str):Prop:=X.env.kindOf x=some .globalImplicit
theorem qt{E:Qqq}{ak:Qqz}{s:Shared}{Z:St}{H:Hp}{x:Str}{u:Value}{pos:Pos}{Q:Qqq}(I:Inv X ak Z H s)(hg:Gl X x)(hm:X.mg x=some u)(h:Q u s)
  (hd:(x ==("__debug__":Str))=false:=by decide):wpAny (model X.prog X.w) X.A (eval (.Name x pos) X.env) Q E s:=
 Calls.Name_function_global I.ok.kind hg (Calls.loadGlobal_global (by rw[I.ok.glob];exact I.mod.glob.keeps I.bk) hm h) hd
theorem lr{E:Qqq}{ak:Qqz}{s:Shared}{Z:St}{H:Hp}{x:Str}{u:Value}{pos:Pos}{Q:Qqq}(I:Inv X ak Z H s)(hg:Gl X x)(hm:X.mg x=none)(hv:bootBuiltins x=some u)(h:Q u s)
  (hn:x≠"__name__":=by decide) (hd:(x ==("__debug__":Str))=false:=by decide):wpAny (model X.prog X.w) X.A (eval (.Name x pos) X.env) Q E s:=by
 obtain⟨mb,h1,h2⟩:=I.mod.blt
 exact Calls.Name_function_global I.ok.kind hg (Calls.loadGlobal_builtin (by rw[I.ok.glob];exact I.mod.glob.keeps I.bk) hm (by rw[I.ok.blt];exact h1.keeps I.bk) ((h2 x hn).trans hv) h) hd
theorem yK{x:Str}{v:V}{u:Value}{pos:Pos}(hg:Gl X x)(hm:X.mg x=some u)(r:RelV v u)(hd:(x ==("__debug__":Str))=false:=by decide):PE X (.Name x pos) (tC v):=
 λ_ _ _ H _ I h=>qt I hg hm ⟨v,H,I,r,h⟩ hd
theorem CW{x:Str}{v:V}{u:Value}{pos:Pos}(hg:Gl X x)(hm:X.mg x=none)(hv:bootBuiltins x=some u)(r:RelV v u)(hn:x≠"__name__":=by decide)(hd:(x ==("__debug__":Str))=false:=by decide):PE X (.Name x pos) (tC v):=
 λ_ _ _ H _ I h=>lr I hg hm hv ⟨v,H,I,r,h⟩ hn hd
variable{a b:Expr}{ta tb:TE}{pos:Pos}
def PC(X:Cx)(op:CmpOp)(a b:Expr)(t:TE):Prop:=
 ∀(ak:Qqz)(s:Shared)(Z:St)(H:Hp)(Q:VK),Inv X ak Z H s->t Z H Q->
  wpAny (model X.prog X.w) X.A (eval a X.env) (λv s1=>wpAny (model X.prog X.w) X.A (eval b X.env) (λu s2=>wpAny (model X.prog X.w) X.A (compareOp op v u) (EP X ak Z Q) X.xe s2) X.xe s1) X.xe s
theorem As(b:Expr){op:CmpOp}(h:op≠.In)(h2:op≠.NotIn):behindInMarks op b=false:=by
 have e1:(op ==CmpOp.In)=false:=by cases op<;>first|rfl|exact absurd rfl h
 have e2:(op ==CmpOp.NotIn)=false:=by cases op<;>first|rfl|exact absurd rfl h2
 cases b<;>simp[behindInMarks,e1,e2]
def MA(ta:TE):TE:=λZ H Q=>ta Z H λx H1=>Q (.bl (!decide (x=.iQ))) H1
theorem RelV.EI{x:V}{v:Value}(r:RelV x v):(v ==Value.none)=decide (x=.iQ):=by
 cases x with
 | iQ=>cases r;rfl
 | bl _=>cases r;rfl
 | int _=>obtain⟨t,rfl⟩:=r;rfl
 | str _=>obtain⟨t,rfl⟩:=r;rfl
 | BS _=>obtain⟨t,rfl⟩:=r;rfl
 | IW _=>obtain⟨t,rfl⟩:=r;rfl
 | ref _=>cases r;rfl
 | ty _=>cases r;rfl
theorem j6{j pos'}(ha:PE X a ta):PC X .IsNot a (.Constant .none j pos') (MA ta):=by
 intro ak s Z H Q I h
 refine il (ha ak s Z H _ I h) λv s1 g9=>?_
 obtain⟨x,H1,I1,r1,q1⟩:=g9
 exact Constant_none (isnot_none_gen ⟨.bl _,H1,I1,by rw[r1.EI];rfl,q1⟩)
inductive bK(x:V)(H:Hp)(Q:Bool->Hp->Prop):Prop
 | mk (k:Bool) (_:x=.bl k) (_:Q k H)
def tB(t:TE):TT:=λZ H Q=>t Z H λx H1=>bK x H1 Q
theorem JW{op:CmpOp}{t:TE}(h:PC X op a b t)(h1:behindInMarks op b=false:=by first|exact As _ (by decide) (by decide)|rfl):PE X (.Compare a [op] [b] pos) t:=λak s Z H Q I hw=>wpAny_Compare1 (h ak s Z H Q I hw) h1
theorem iR{op:CmpOp}{t:TE}(h:PC X op a b t)(h1:behindInMarks op b=false:=by first|exact As _ (by decide) (by decide)|rfl):PT X (.Compare a [op] [b] pos) (tB t):=by
 intro ak s Z H Q I hw
 refine wpAny_isTrue_Compare1 (il (h ak s Z H _ I hw) λv s1 h1=>il h1 λu s2 h2=>il h2 λc s3 g9=>?_) h1
 obtain⟨x,H1,I1,r1,q1⟩:=g9
 obtain⟨d,rfl,q⟩:=q1
 cases r1
 exact abu ⟨H1,I1,q⟩
theorem vG{e:Expr}{t:TE}(h:PE X e t)(he:∀whole,isTrue e X.env whole=(do let v <-whole;standAt e.pos;holding [v] (truthy v)):=by intro _;rfl):PT X e (tB t):=by
 intro ak s Z H Q I hw
 refine isTrue_plain (il (h ak s Z H _ I hw) λv s1 g9=>?_) (he _)
 obtain⟨x,H1,I1,r1,q1⟩:=g9
 obtain⟨d,rfl,q⟩:=q1
 cases r1
 exact abu ⟨H1,I1,q⟩
variable{tA PH:TT}{rest:List Expr}
def Qq(t u:TT):TT:=λZ H Q=>t Z H λc H1=>if c=true then u Z H1 Q else Q false H1
def WI(t u:TT):TT:=λZ H Q=>t Z H λc H1=>if c=true then Q true H1 else u Z H1 Q
def Qr(t:TT):TT:=λZ H Q=>t Z H λc H1=>Q (!c) H1
theorem pw_and1(ha:PT X a tA):PW X (.BoolOp .And [a] pos) tA:=by
 intro wh ak s Z H Q I h
 refine isTrue_and (il (ha ak s Z H Q I h) λc s1 e=>?_)
 cases c with
 | true=>exact isTrue_and_nil e
 | false=>exact e
theorem pw_or1(ha:PT X a tA):PW X (.BoolOp .Or [a] pos) tA:=by
 intro wh ak s Z H Q I h
 refine isTrue_or (il (ha ak s Z H Q I h) λc s1 e=>?_)
 cases c with
 | false=>exact isTrue_or_nil e
 | true=>exact e
theorem pw_and(ha:PT X a tA)(hb:PW X (.BoolOp .And (b::rest) pos) PH):PW X (.BoolOp .And (a::b::rest) pos) (Qq tA PH):=by
 intro wh ak s Z H Q I h
 refine isTrue_and (il (ha ak s Z H _ I h) λc s1 g9=>?_)
 obtain⟨H1,I1,q1⟩:=g9
 cases c with
 | true=>exact hb wh ak s1 Z H1 Q I1 q1
 | false=>exact⟨H1,I1,q1⟩
theorem pw_or(ha:PT X a tA)(hb:PW X (.BoolOp .Or (b::rest) pos) PH):PW X (.BoolOp .Or (a::b::rest) pos) (WI tA PH):=by
 intro wh ak s Z H Q I h
 refine isTrue_or (il (ha ak s Z H _ I h) λc s1 g9=>?_)
 obtain⟨H1,I1,q1⟩:=g9
 cases c with
 | true=>exact⟨H1,I1,q1⟩
 | false=>exact hb wh ak s1 Z H1 Q I1 q1
theorem tM(ha:PT X a tA):PT X (.UnaryOp .Not a pos) (Qr tA):=by
 intro ak s Z H Q I h
 exact isTrue_not (ha ak s Z H (λc H1=>Q (!c) H1) I h)
def MB(ta tb:TE):TE:=λZ H Q=>ta Z H λx H1=>∃c,x=.bl c/\if c=true then tb Z H1 Q else Q (.bl false) H1
theorem JX{op}{t:TE}(h:PE X a t):PE X (.BoolOp op [a] pos) t:=λak s Z H Q I hw=>BoolOp_one (h ak s Z H Q I hw)
theorem JY(ha:PE X a ta)(hb:PE X (.BoolOp .And (b::rest) pos) tb):PE X (.BoolOp .And (a::b::rest) pos) (MB ta tb):=by
 intro ak s Z H Q I h
 refine BoolOp_and (il (ha ak s Z H _ I h) λv s1 g9=>?_)
 obtain⟨x,H1,I1,r1,q1⟩:=g9
 obtain⟨c,rfl,q1⟩:=q1
 cases r1
 refine abu ?_
 cases c with
 | true=>exact hb ak s1 Z H1 Q I1 q1
 | false=>exact⟨.bl false,H1,I1,rfl,q1⟩
end
def gP(K:Qqy)(H:Hp)(a:Addr)(xs:List V):Prop:=
 Rd H a (.lst xs)\/
  ∃(o:Obj)(fW:Array Value)(n:Nat),K.lookup a=some o/\o.cls=.type "list"/\o.dict=none/\o.data=.seq fW n/\fW.size<=sizeLine/\Vals xs fW.toList
def xy(K:Qqy)(H:Hp)(a:Addr)(xs:List V):Prop:=
 Rd H a (.tup xs)\/
  ∃(o:Obj)(fW:Array Value)(n:Nat),K.lookup a=some o/\o.cls=.type "tuple"/\o.data=.seq fW n/\fW.size<=sizeLine/\Vals xs fW.toList
noncomputable def Qs:Value->Option V
 | .none=>some .iQ
 | .bool b=>some (.bl b)
 | .int i _=>some (.int i)
 | .str x _=>some (.str x)
 | .bytes b _=>some (.BS b)
 | .float b _=>some (.IW b)
 | .ref a=>some (.ref a)
 | .type n=>some (.ty n)
 | _=>none
theorem RelV.abs{x:V}{u:Value}(r:RelV x u):Qs u=some x:=by
 cases x with
 | iQ=>cases r;rfl
 | bl _=>cases r;rfl
 | int _=>obtain⟨t,rfl⟩:=r;rfl
 | str _=>obtain⟨t,rfl⟩:=r;rfl
 | BS _=>obtain⟨t,rfl⟩:=r;rfl
 | IW _=>obtain⟨t,rfl⟩:=r;rfl
 | ref _=>cases r;rfl
 | ty _=>cases r;rfl
theorem RelV.inj{x y:V}{u:Value}(r:RelV x u)(q:RelV y u):x=y:=aaf (r.abs.symm.trans q.abs)
theorem Vals.inj:∀{xs ys:List V} {us:List Value},Vals xs us->Vals ys us->xs=ys
 | _,_,_,.nil,.nil=>rfl
 | _,_,_,.cons r t,.cons r' t'=>by rw[r.inj r',Vals.inj t t']
section
variable{X:Cx}{ak:Qqz}{Z:St}{H:Hp}{s:Shared}{a:Addr}{xs ys:List V}
theorem gP.of{K:Qqy}(h:H a=some (.lst xs)):gP K H a xs:=.inl (.inl h)
theorem xy.of{K:Qqy}(h:H a=some (.tup xs)):xy K H a xs:=.inl (.inl h)
theorem Inv.list(I:Inv X ak Z H s)(h:gP X.K H a xs):∃fW:List Value,Vals xs fW/\PlainL s.heap a fW.toArray/\xs.length<=sizeLine:=by
 rcases h with h|⟨o,fW,n,hk,hc,hd,hs,hz,r⟩
 ·obtain⟨z,fW,n,r,e⟩:=h.ok I.gX
  exact⟨fW,r,⟨_,n,e,rfl,rfl,rfl⟩,z⟩
 ·refine⟨fW.toList,r,⟨o,n,I.r_ a o hk,hc,hd,by simpa using hs⟩,?_⟩
  have e:=r.length
  simp only [aau] at e
  omega
theorem Inv.tuple(I:Inv X ak Z H s)(h:xy X.K H a xs):∃fW:List Value,Vals xs fW/\IsTup s.heap a fW.toArray/\xs.length<=sizeLine:=by
 rcases h with h|⟨o,fW,n,hk,hc,hs,hz,r⟩
 ·obtain⟨z,fW,r,p⟩:=h.ok I.gX
  exact⟨fW,r,p,z⟩
 ·refine⟨fW.toList,r,⟨o,I.r_ a o hk,hc,n,by simpa using hs⟩,?_⟩
  have e:=r.length
  simp only [aau] at e
  omega
theorem Inv.ni(I:Inv X ak Z H s)(h:gP X.K H a xs)(h':gP X.K H a ys):xs=ys:=by
 obtain⟨fW,r,⟨o,n,e,_,_,d⟩,_⟩:=I.list h
 obtain⟨its',r',⟨o',n',e',_,_,d'⟩,_⟩:=I.list h'
 rw[e] at e';cases e'
 rw[d] at d'
 injection d' with d1 _
 have:fW=its':=by simpa using aaT Array.toList d1
 subst this
 exact r.inj r'
theorem Inv.DB(I:Inv X ak Z H s)(h:xy X.K H a xs)(h':xy X.K H a ys):xs=ys:=by
 obtain⟨fW,r,⟨o,e,_,n,d⟩,_⟩:=I.tuple h
 obtain⟨its',r',⟨o',e',_,n',d'⟩,_⟩:=I.tuple h'
 rw[e] at e';cases e'
 rw[d] at d'
 injection d' with d1 _
 have:fW=its':=by simpa using aaT Array.toList d1
 subst this
 exact r.inj r'
end
noncomputable abbrev Cx.xC(X:Cx)(E:Qqq):Cx:={X with xe:=E}
noncomputable abbrev Cx.I_(X:Cx):Cx:=X.xC λ_ _=>False
theorem Cx.Ok.xC{X:Cx}(ok:X.Ok)(E:Qqq):(X.xC E).Ok:=
 ⟨ok.mod,ok.kind,ok.glob,ok.blt,ok.above,ok.inj,ok.has,ok.IY,ok.hd,ok.frames,ok.JT,ok.Mx,ok.bs,ok.Ez,ok.pz,ok.BU,ok.pC,ok.EA⟩
theorem Cx.Ok.pE{X:Cx}{E:Qqq}(ok:(X.xC E).Ok):X.Ok:=
 ⟨ok.mod,ok.kind,ok.glob,ok.blt,ok.above,ok.inj,ok.has,ok.IY,ok.hd,ok.frames,ok.JT,ok.Mx,ok.bs,ok.Ez,ok.pz,ok.BU,ok.pC,ok.EA⟩
section
variable{X:Cx}{ak:Qqz}{Z:St}{H:Hp}{s:Shared}{E:Qqq}
theorem Inv.xC(I:Inv X ak Z H s)(E:Qqq):Inv (X.xC E) ak Z H s:=⟨I.ok.xC E,I.os,I.bare,I.base,I.loc,I.cell,I.free,I.kC,I.pin,I.gX,I.len⟩
theorem Inv.pE(I:Inv (X.xC E) ak Z H s):Inv X ak Z H s:=⟨I.ok.pE,I.os,I.bare,I.base,I.loc,I.cell,I.free,I.kC,I.pin,I.gX,I.len⟩
theorem SP.pE{D:Ends}{f:Flow}{s':Shared}(h:SP (X.xC E) ak D f s'):SP X ak D f s':=by
 cases f with
 | next=>obtain⟨Z',H',I,q⟩:=h;exact⟨Z',H',I.pE,q⟩
 | brk=>obtain⟨Z',H',I,q⟩:=h;exact⟨Z',H',I.pE,q⟩
 | cont=>obtain⟨Z',H',I,q⟩:=h;exact⟨Z',H',I.pE,q⟩
 | ret u=>obtain⟨v,Z',H',I,r,q⟩:=h;exact⟨v,Z',H',I.pE,r,q⟩
theorem Am.I_{st:List Stmt}{t:TS}(h:Am X.I_ st t):Am X st t:=λak s Z H D I hw=>
 abg (h ak s Z H D (I.xC _) hw) (λ_ _ q=>q.pE) λ_ _ z=>False.elim z
end
section
variable{X:Cx}{st:Stmt}{rest:List Stmt}{t u:TS}{e:Expr}{te:TE}{pos:Pos}
def MC:TS:=λD Z H=>D.nx Z H
def hX(t u:TS):TS:=λD Z H=>t {D with nx:=u D} Z H
theorem gQ:Am X [] MC:=λ_ _ Z H _ I h=>wpAny_execs_nil ⟨Z,H,I,h⟩
theorem de(h1:PS X st t)(h2:Am X rest u):Am X (st::rest) (hX t u):=by
 intro ak s Z H D I h
 refine wpAny_execs_cons (il (h1 ak s Z H {D with nx:=u D} I h) λf s1 q=>?_)
 cases f with
 | next=>
  obtain⟨Z',H',I',q⟩:=q
  exact h2 ak s1 Z' H' D I' q
 | ret v=>exact q
 | brk=>exact q
 | cont=>exact q
theorem d_(h1:PS X st t):Am X [st] t:=by
 intro ak s Z H D I h
 refine wpAny_execs_cons (il (h1 ak s Z H D I h) λf s1 q=>?_)
 cases f with
 | next=>exact wpAny_execs_nil q
 | ret v=>exact q
 | brk=>exact q
 | cont=>exact q
def MD:TS:=λD Z H=>D.ct Z H
theorem Au:PS X (.Continue pos) MD:=λ_ _ Z H _ I h=>wpAny_Continue ⟨Z,H,I,h⟩
theorem Inv.quiet{ak:Qqz}{Z:St}{H:Hp}{s:Shared}(I:Inv X ak Z H s):interactive X.env=false:=by simp[interactive,I.ok.kind]
def ME(te:TE):TS:=λD Z H=>te Z H λ_ H1=>D.nx Z H1
theorem gY(he:PE X e te)(hs:swapsWith e none pos.line X.env=pure false:=by rfl):PS X (.Expr e pos) (ME te):=by
 intro ak s Z H D I h
 exact wpAny_Expr_any (il (he ak s Z H _ I h) λv s1 ⟨x,H1,I1,r1,q1⟩=>⟨Z,H1,I1,q1⟩) I.quiet hs
def Qt(te:TE):TS:=λD Z H=>te Z H D.rt
theorem f_(he:PE X e te):PS X (.Return (some e) pos) (Qt te):=by
 intro ak s Z H D I h
 exact wpAny_Return_some (il (he ak s Z H _ I h) λv s1 ⟨x,H1,I1,r1,q1⟩=>⟨x,Z,H1,I1,r1,q1⟩)
def Qu(c:TT)(t u:TS):TS:=λD Z H=>c Z H λb H1=>if b=true then t D Z H1 else u D Z H1
theorem iw{c:Expr}{a b:List Stmt}{tc:TT}(hc:PT X c tc)(ha:Am X a t)(hb:Am X b u):PS X (.If c a b pos) (Qu tc t u):=by
 intro ak s Z H D I h
 refine wpAny_If (il (hc ak s Z H _ I h) λd s1 g9=>?_)
 obtain⟨H1,I1,q1⟩:=g9
 cases d with
 | true=>exact ha ak s1 Z H1 D I1 q1
 | false=>exact hb ak s1 Z H1 D I1 q1
end
abbrev TG:=V->St->Hp->(St->Hp->Prop)->Prop
abbrev JZ:=List V->St->Hp->(St->Hp->Prop)->Prop
def PG(X:Cx)(target:Expr)(t:TG):Prop:=
 ∀(ak:Qqz)(s:Shared)(Z:St)(H:Hp)(v:V)(u:Value)(Q:St->Hp->Prop),Inv X ak Z H s->RelV v u->t v Z H Q->
  wpAny (model X.prog X.w) X.A (assign target X.env u) (λ_ s'=>∃Z' H',Inv X ak Z' H' s'/\Q Z' H') X.xe s
def Pp(X:Cx)(ts:List Expr)(t:JZ):Prop:=
 ∀(ak:Qqz)(s:Shared)(Z:St)(H:Hp)(vs:List V)(us:List Value)(Q:St->Hp->Prop),Inv X ak Z H s->Vals vs us->t vs Z H Q->
  wpAny (model X.prog X.w) X.A (assignInOrder ((assignEach ts X.env).map (·.2)) us) (λ_ s'=>∃Z' H',Inv X ak Z' H' s'/\Q Z' H') X.xe s
abbrev J0:=V->V->V->Hp->(Hp->Prop)->Prop
def MF(X:Cx)(t:J0):Prop:=
 ∀(ak:Qqz)(s:Shared)(Z:St)(H:Hp)(o i v:V)(ov iv u:Value)(Q:Hp->Prop),Inv X ak Z H s->RelV o ov->RelV i iv->RelV v u->t o i v H Q->
  wpAny (model X.prog X.w) X.A (setItem ov iv u) (λ_ s'=>∃H',Inv X ak Z H' s'/\Q H') X.xe s
section
variable{X:Cx}{pos:Pos}
def nj(i:Nat):TG:=λv Z H Q=>Q (Z.set i (some v)) H
theorem iI{i:Nat}{x:Str}(hN:X.N.Nodup)(hi:X.N[i]?=some x)(hx:Loc X.env.scope x)(hf:X.fn x=true\/X.env.scope.names.lookup x=some .local:=by first|exact .inl rfl|exact .inr rfl|assumption):PG X (.Name x pos) (nj i):=by
 intro ak s Z H v u Q I r h
 exact wpAny_assign_Name (Ar I hN hi hx r (λs' I'=>⟨_,H,I',h⟩) hf)
def Qv:JZ:=λvs Z H Q=>vs=[]/\Q Z H
def MG(t:TG)(u:JZ):JZ:=λvs Z H Q=>∃v r,vs=v::r/\t v Z H λZ' H'=>u r Z' H' Q
theorem CY:Pp X [] Qv:=by
 intro ak s Z H vs us Q I r h
 obtain⟨e,h⟩:=h
 subst e
 cases r
 exact assignInOrder_nil ⟨Z,H,I,h⟩
theorem sd{e:Expr}{es:List Expr}{t:TG}{u:JZ}(h1:PG X e t)(h2:Pp X es u)
  (hs:(assignEach (e::es) X.env).map (·.2)=assign e X.env::(assignEach es X.env).map (·.2):=by rfl):Pp X (e::es) (MG t u):=by
 intro ak s Z H vs us Q I r h
 obtain⟨v,vr,e1,h⟩:=h
 subst e1
 cases r with
 | cons r rr=>
  rw[hs]
  refine assignInOrder_cons (il (h1 ak s Z H _ _ _ I r h) λ_ s1 g9=>?_)
  obtain⟨Z1,H1,I1,q1⟩:=g9
  exact h2 ak s1 Z1 H1 _ _ Q I1 rr q1
def Qw(K:Qqy)(n:Nat)(t:JZ):TG:=λv Z H Q=>∃a xs,v=.ref a/\xy K H a xs/\xs.length=n/\t xs Z H Q
theorem EJ{es:List Expr}{k:Nat}{t:JZ}{n:Nat}(hc:X.calm=true)(h:Pp X es t)
  (hn:(assignEach es X.env).length=n:=by rfl) (yH:(assignEach es X.env).findIdx? (·.1)=none:=by rfl):PG X (.Tuple es k pos) (Qw X.K n t):=by
 intro ak s Z H v u Q I r hw
 obtain⟨a,xs,e1,hq,hl,hw⟩:=hw
 subst e1
 cases r
 obtain⟨fW,rv,ht,hz⟩:=I.tuple hq
 refine assign_Tuple_tuple (I.ok.hd hc) ht (by simp[hn,<-hl,rv.length]) yH λh' hx=>?_
 have I1:Inv X ak Z H {s with heap:=h'}:=I.kept (t':=s.toks) λb o e=>hx b o (aar (aac e)) e
 exact h ak _ Z H xs _ Q I1 (by simpa using rv) hw
def Qx(to ti:TE)(t:J0):TG:=λv Z H Q=>to Z H λo H1=>ti Z H1 λi H2=>t o i v H2 λH3=>Q Z H3
theorem yL{o i:Expr}{to ti:TE}{t:J0}(ho:PE X o to)(hi:PE X i ti)(hs:MF X t)
  (ha:∀v,assign (.Subscript o i pos) X.env v=(do
   let ov <-holding [v] (eval o X.env)
   let iv <-holding [v,ov] (eval i X.env)
   standAt pos
   holding [v,ov,iv] (setItem ov iv v)
   release [v,ov,iv] []):=by intro _;rfl):PG X (.Subscript o i pos) (Qx to ti t):=by
 intro ak s Z H v u Q I r h
 rw[ha]
 refine M9 (aa0 (il (ho ak s Z H _ I h) λov s1 g9=>?_))
 obtain⟨x,H1,I1,r1,q1⟩:=g9
 refine M9 (aa0 (il (hi ak s1 Z H1 _ I1 q1) λiv s2 g9=>?_))
 obtain⟨y,H2,I2,r2,q2⟩:=g9
 refine M9 (wpAny_standAt (M9 (aa0 (il (hs ak s2 Z H2 x y v ov iv u _ I2 r1 r2 r q2) λ_ s3 g9=>?_))))
 obtain⟨H3,I3,q3⟩:=g9
 exact wpAny_release ⟨Z,H3,I3,q3⟩
def EK(te:TE)(g:TG):TS:=λD Z H=>te Z H λx H1=>g x Z H1 D.nx
theorem yM{tg e:Expr}{te:TE}{g:TG}(he:PE X e te)(hg:PG X tg g)(hs:swapsWithSole [tg] e pos.line X.env=pure false:=by rfl)(hw:swappedStores [tg] e X.env=pure none:=by rfl)
  (h1:(assignEach [tg] X.env).map (·.2)=[assign tg X.env]:=by rfl):PS X (.Assign [tg] e pos) (EK te g):=by
 intro ak s Z H D I h
 refine wpAny_Assign_stores (il (he ak s Z H _ I h) λv s1 g9=>?_) hs hw
 obtain⟨x,H1,I1,r1,q1⟩:=g9
 rw[h1]
 exact il (hg ak s1 Z H1 x v _ I1 r1 q1) λ_ s2 q=>q
theorem mR{i:Nat}{x:Str}{e:Expr}{te:TE}{pos':Pos}(hN:X.N.Nodup)(hi:X.N[i]?=some x)(hx:Loc X.env.scope x)(he:PE X e te)(hs:swapsWith e (some (.Name x pos')) pos.line X.env=pure false:=by rfl)(hf:X.fn x=true\/X.env.scope.names.lookup x=some .local:=by first|exact .inl rfl|exact .inr rfl|assumption) :
  PS X (.Assign [.Name x pos'] e pos) (EK te (nj i)):=by
 intro ak s Z H D I h
 refine wpAny_Assign_Name (il (he ak s Z H _ I h) λv s1 g9=>?_) hs
 obtain⟨y,H1,I1,r1,q1⟩:=g9
 exact Ar I1 hN hi hx r1 (λs2 I2=>⟨_,H1,I2,q1⟩) hf
def J2(c:TT)(tb:TS):TS:=λD Z H=>∃W:Nat->St->Hp->Prop,(∃m,W m Z H)/\∀m Z H,W m Z H->
 c Z H λb H1=>if b=true then ∃N:St->Hp->Prop,(∀Z' H',N Z' H'->∃m',m'<m/\W m' Z' H')/\tb {D with nx:=N,ct:=N,bk:=D.nx} Z H1 else D.nx Z H1
theorem Av{c:Expr}{body:List Stmt}{tc:TT}{tb:TS}(hp:PassesOwn (model X.prog X.w) X.A X.env X.xe)(hc:PT X c tc)(hb:Am X body tb):PS X (.While c body [] pos) (J2 tc tb):=by
 intro ak s Z H D I h
 obtain⟨W,⟨m0,w0⟩,turn⟩:=h
 refine wpAny_While (codeAny_whileLoop (λn s'=>∃Z' H',Inv X ak Z' H' s'/\W n Z' H') ?_ m0 ⟨Z,H,I,w0⟩)
 rintro n s1 ⟨Z1,H1,I1,w1⟩
 refine abL hp (il (hc ak s1 Z1 H1 _ I1 (turn n Z1 H1 w1)) λb s2 g9=>?_)
 obtain⟨H2,I2,q2⟩:=g9
 cases b with
 | true=>
  obtain⟨N,hN,q2⟩:=q2
  rw[aah rfl]
  refine abL hp (il (hb ak s2 Z1 H2 _ I2 q2) λf s3 q3=>?_)
  cases f with
  | next=>
   obtain⟨Z3,H3,I3,n3⟩:=q3
   obtain⟨m',hm,w3⟩:=hN Z3 H3 n3
   exact⟨m',hm,Z3,H3,I3,w3⟩
  | cont=>
   obtain⟨Z3,H3,I3,n3⟩:=q3
   obtain⟨m',hm,w3⟩:=hN Z3 H3 n3
   exact⟨m',hm,Z3,H3,I3,w3⟩
  | brk=>exact q3
  | ret v=>exact q3
 | false=>
  rw[aab WV]
  exact wpAny_execs_nil ⟨Z1,H2,I2,q2⟩
end
structure It where
 go:Nat->Hp->Prop
 G6:Nat->Hp->V->Hp->Prop
 stop:Nat->Hp->Prop
def rB(X:Cx)(ak:Qqz)(H:Hp)(b:Addr):Prop:=
 H b=none/\b≠X.env.locals/\b∉X.fs/\(b∈X.ex\/X.s₀.heap.objs.size<=b)/\(∀x c,X.env.cells.lookup x=some c->c≠b)/\∀p∈X.pn++ak,p.1≠b
theorem Inv.vH{X:Cx}{ak:Qqz}{Z:St}{H H':Hp}{s:Shared}{b:Addr}(I:Inv X ak Z H s)(hb:s.heap.objs.size<=b)(hn:H' b=none):rB X ak H' b:=by
 refine⟨hn,abQ (aal I.lt hb),I.My hb,.inr (aag I.sz hb),λx c e z=>?_,λp hp z=>?_⟩
 ·obtain⟨v,q⟩:=I.cell x c e
  exact absurd (aal q.lt (by rw[z];exact hb)) (aba _)
 ·exact absurd (aal (aac (I.pin p hp).1) (by rw[z];exact hb)) (aba _)
structure Turn(P:Program)(w:World)(K:Qqy)(tg:Expr)(J:It)(fp:List Addr)(it:Addr)(tn:Nat->Heap->Prop):Prop where
 mem:it∈fp
 obj:∀i h,tn i h->∀b∈fp,∃o,h.get? b=some o/\∀v,o.data≠.cell v
 keep:∀i h h',tn i h->(∀b∈fp,∀o,h.get? b=some o->h'.get? b=some o)->tn i h'
 item:∀(X:Cx),X.prog=P->X.w=w->X.K=K->X.calm=true->∀(i:Nat)(ak:Qqz)(s:Shared)(Z:St)(H:Hp)(E:Qqq),Inv X ak Z H s->(∀b∈fp,rB X ak H b)->tn i s.heap->J.go i H->
  wpAny (model P w) X.A (pyNext (.ref it)) (λr s1=>∃u,r=some u/\
   wpAny (model P w) X.A (letOwnedTupleGo tg (.ref it) u) (λ_ s2=>∃x H',Inv X ak Z H' s2/\RelV x u/\J.G6 i H x H'/\tn (i+1) s2.heap/\∀b∈fp,H' b=none) E s1) E s
 done:∀(X:Cx),X.prog=P->X.w=w->X.K=K->X.calm=true->∀(i:Nat)(ak:Qqz)(s:Shared)(Z:St)(H:Hp)(E:Qqq),Inv X ak Z H s->(∀b∈fp,rB X ak H b)->tn i s.heap->J.stop i H->
  wpAny (model P w) X.A (pyNext (.ref it)) (λr s1=>r=none/\Inv X ak Z H s1) E s
 self:∀(A:Around)(i:Nat)(s:Shared)(Q:Qqq)(E:Qqq),tn i s.heap->Q (.ref it) s->wpAny (model P w) A (pyIter (.ref it)) Q E s
abbrev TI:=St->Hp->(It->Hp->Prop)->Prop
def Qy(X:Cx)(ak:Qqz)(Z:St)(tg:Expr)(R:It->Hp->Prop)(PJ:Value)(s2:Shared):Prop:=
 ∃(it:Addr)(fp:List Addr)(tn:Nat->Heap->Prop)(J:It)(H':Hp),PJ=.ref it/\Inv X ak Z H' s2/\Turn X.prog X.w X.K tg J fp it tn/\tn 0 s2.heap/\(∀b∈fp,rB X ak H' b)/\R J H'
def PI(X:Cx)(tg iter:Expr)(wi:TI):Prop:=
 ∀(ak:Qqz)(s:Shared)(Z:St)(H:Hp)(R:It->Hp->Prop),Inv X ak Z H s->wi Z H R->
  wpAny (model X.prog X.w) X.A (eval iter X.env) (λv s1=>wpAny (model X.prog X.w) X.A (pyIter v) (Qy X ak Z tg R) X.xe s1) X.xe s
theorem vI{M:Model}{A:Around}{E:Qqq}{s:Shared}{tg:Expr}{it:Addr}{u:Value}{o:Obj}{n:String}{vs:Array Value}{Q:Unit->Shared->Prop}(ho:s.heap.get? it=some o)(hc:o.cls=.type n)(hd:o.data=.fields vs)
  (hn:["enumerate","zip","dict_itemiterator","dict_reverseitemiterator","odict_iterator","itertools.zip_longest","itertools.pairwise"].contains n=false) (hQ:Q () s):wpAny M A (letOwnedTupleGo tg (.ref it) u) Q E s:=by
 unfold letOwnedTupleGo
 cases tg<;>first
  | exact Oz hQ
  | (cases u<;>first
   | exact Oz hQ
   | (
    refine M9 (wpAny_load ho ?_)
    rw[hc,hd]
    show wpAny M A (if(["enumerate","zip","dict_itemiterator","dict_reverseitemiterator","odict_iterator","itertools.zip_longest","itertools.pairwise"].contains n&&vs[0]? ==some (rawInt _))=true then _ else _) Q E s
    rw[aab (by intro h;rw[hn,Bool.false_and] at h;cases h)]
    exact Oz hQ))
def L6(K:Qqy)(a:Addr):It:=
 ⟨λi H=>∃xs x,gP K H a xs/\xs[i]?=some x,λi H x H'=>H'=H/\∀xs,gP K H a xs->xs[i]?=some x,λi H=>∃xs,gP K H a xs/\xs.length<=i⟩
def Ja(lo:Int)(n:Nat):It:=⟨λi _=>i<n,λi H x H'=>H'=H/\x=.int (lo+i),λi _=>n<=i⟩
theorem DC{P:Program}{w:World}{K:Qqy}{tg:Expr}(a it:Addr):Turn P w K tg (L6 K a) [it] it (λi h=>h.IsListIter it a i) where
 mem:=by simp
 obj:=λi h st b hb=>by
  have e:b=it:=by simpa using hb
  subst e
  obtain⟨o,e,c,d⟩:=st
  exact⟨o,e,λv z=>by rw[d] at z;cases z⟩
 keep:=λi h h' st k=>st.at λo e=>k it (by simp) o e
 item:=by
  intro X hP hw hK hc i ak s Z H E I hf st hg
  subst hP hw hK
  obtain⟨xs,x,hq,hx⟩:=hg
  obtain⟨fW,rv,p,hz⟩:=I.list hq
  obtain⟨u,hu,ru⟩:=rv.get hx
  obtain⟨f0,f1,f2,f3,f4,f5⟩:=hf it (by simp)
  refine wpAny_pyNext_list_item st p.isList (x:=u) (by simpa using hu) λh' uw sb=>?_
  have I1:Inv X ak Z H {s with heap:=h'}:=I.turned (t':=s.toks) (λb o hb e=>(sb.2 b hb).trans e) f0 f1 f3 f4 f5
  obtain⟨o,e,c,d⟩:=id uw
  exact⟨u,rfl,vI (s:={s with heap:=h'}) e c d (by decide) ⟨x,H,I1,ru,⟨rfl,λys hy=>by rw[I.ni hy hq];exact hx⟩,uw,λb hb=>(hf b hb).1⟩⟩
 done:=by
  intro X hP hw hK hc i ak s Z H E I hf st hg
  subst hP hw hK
  obtain⟨xs,hq,hx⟩:=hg
  obtain⟨fW,rv,p,hz⟩:=I.list hq
  obtain⟨f0,f1,f2,f3,f4,f5⟩:=hf it (by simp)
  have hl:=rv.length
  exact wpAny_pyNext_list_end (I.ok.hd hc) st p.isList (by simp;omega) λh' eb=>⟨rfl,I.turned (t':=s.toks) (λb o hb e=>eb b o hb e) f0 f1 f3 f4 f5⟩
 self:=λ_ _ _ _ _ st h=>wpAny_pyIter_listiter st h
theorem BV{P:Program}{w:World}{K:PySem.W.Frag}{tg:Expr}(it:Addr)(lo:Int)(n:Nat):Turn P w K tg (Ja lo n) [it] it (λi h=>IsRangeIter h it (lo+(i:Nat)*1) ((n:Int)-(i:Nat)) 1) where
 mem:=by simp
 obj:=λi h st b hb=>by
  have e:b=it:=by simpa using hb
  subst e
  exact⟨_,st,λv z=>by
   have z':Data.fields _=Data.cell v:=z
   cases z'⟩
 keep:=λi h h' st k=>k it (by simp) _ st
 item:=by
  intro X hP hw hK hc i ak s Z H E I hf st hg
  subst hP hw hK
  obtain⟨f0,f1,f2,f3,f4,f5⟩:=hf it (by simp)
  have W:=Walks.range (prog:=X.prog) (w:=X.w) (I.ok.hd hc) it lo 1 n
  refine W.item i s _ _ hg st λv h' tk hv uw kk=>?_
  obtain⟨t,rfl⟩:=hv
  have I1:Inv X ak Z H {s with heap:=h',toks:=tk}:=I.turned (λb o hb e=>kk b o (by simpa using hb) e) f0 f1 f3 f4 f5
  refine⟨_,rfl,vI (s:={s with heap:=h',toks:=tk}) (n:="range_iterator") uw rfl rfl (by decide) ⟨.int (lo+i),H,I1,⟨t,?_⟩,⟨rfl,rfl⟩,uw,λb hb=>(hf b hb).1⟩⟩
  rw[Int.mul_one]
 done:=by
  intro X hP hw hK hc i ak s Z H E I hf st hg
  subst hP hw hK
  obtain⟨f0,f1,f2,f3,f4,f5⟩:=hf it (by simp)
  exact wpAny_pyNext_range_end (I.ok.hd hc) st (by have:n<=i:=hg;omega) λh' eb=>⟨rfl,I.turned (t':=s.toks) (λb o hb e=>eb b o hb e) f0 f1 f3 f4 f5⟩
 self:=λ_ _ _ _ _ st h=>wpAny_pyIter_rangeiter st h
section
variable{X:Cx}{tg:Expr}
inductive lK(K:Qqy)(x:V)(H:Hp)(R:It->Hp->Prop):Prop
 | mk (a:Addr) (_:x=.ref a) (_:∃xs,gP K H a xs) (_:R (L6 K a) H)
def MH(K:Qqy)(tl:TE):TI:=λZ H R=>tl Z H λx H1=>lK K x H1 R
theorem ib{l:Expr}{tl:TE}(hl:PE X l tl):PI X tg l (MH X.K tl):=by
 intro ak s Z H R I h
 refine il (hl ak s Z H _ I h) λv s1 g9=>?_
 obtain⟨x,H1,I1,r1,q1⟩:=g9
 obtain⟨a,e,⟨xs,hq⟩,q⟩:=q1
 subst e
 cases r1
 obtain⟨fW,rv,p,hz⟩:=I1.list hq
 refine wpAny_pyIter_list p.isList ?_
 refine⟨s1.heap.objs.size,[s1.heap.objs.size],_,_,H1,rfl,I1.kept (t':=s1.toks) λb o e=>QY _ e,DC a _,⟨_,WO _ rfl,rfl,rfl⟩,λb hb=>?_,q⟩
 have e:b=s1.heap.objs.size:=by simpa using hb
 subst e
 exact I1.vH (Q2 _) (I1.gX.fresh (Q2 _))
theorem Aw{ak:Qqz}{Z:St}{H:Hp}{s:Shared}{R:It->Hp->Prop}{E:Qqq}{lo hi:Int}{t u v:Tok}{tk:Nat}(I:Inv X ak Z H s)(h1:-(2 ^ 62)<=lo)(h2:lo<2 ^ 62)(h3:-(2 ^ 62)<=hi)(h4:hi<2 ^ 62)
  (q:R (Ja lo (hi-lo).toNat) H):wpAny (model X.prog X.w) X.A (pyIter (.ref s.heap.objs.size)) (Qy X ak Z tg R) E {s with heap:=s.heap.push {cls:=.type "range",data:=.fields #[.int lo t,.int hi u,.int 1 v]},toks:=tk}:=by
 refine wpAny_pyIter_range (IsRange.new ..) (small_one h1 h2 h3 h4) ?_
 have I1:Inv X ak Z H {s with heap:=s.heap.push {cls:=.type "range",data:=.fields #[.int lo t,.int hi u,.int 1 v]},toks:=tk}:=I.kept λb o e=>QY _ e
 refine⟨(s.heap.push {cls:=.type "range",data:=.fields #[.int lo t,.int hi u,.int 1 v]}).objs.size,[(s.heap.push {cls:=.type "range",data:=.fields #[.int lo t,.int hi u,.int 1 v]}).objs.size],_,_,H,rfl,
  I1.kept (t':=tk) λb o e=>QY _ e,BV _ lo (hi-lo).toNat,?_,λb hb=>?_,q⟩
 ·have e1:lo+((0:Nat):Int)*1=lo:=by simp
  have e2:(((hi-lo).toNat:Nat):Int)-((0:Nat):Int)=Builtin.Range.rangeSize lo hi 1:=by rw[rangeSize_one];split<;>omega
  show IsRangeIter _ _ (lo+((0:Nat):Int)*1) ((((hi-lo).toNat:Nat):Int)-((0:Nat):Int)) 1
  rw[e1,e2]
  exact WO _ rfl
 ·have e:b=(s.heap.push {cls:=.type "range",data:=.fields #[.int lo t,.int hi u,.int 1 v]}).objs.size:=by simpa using hb
  subst e
  exact I1.vH (Q2 _) (I1.gX.fresh (Q2 _))
def MJ(ta:TA):TI:=λZ H R=>ta Z H λvs H1=>∃j:Int,vs=[.int j]/\-(2 ^ 62)<=j/\j<2 ^ 62/\R (Ja 0 j.toNat) H1
def MK(ta:TA):TI:=λZ H R=>ta Z H λvs H1=>∃i j:Int,vs=[.int i,.int j]/\(-(2 ^ 62)<=i/\i<2 ^ 62/\-(2 ^ 62)<=j/\j<2 ^ 62)/\R (Ja i (j-i).toNat) H1
theorem nq{a:Expr}{ta:TA}{p pos:Pos}(hg:Gl X "range")(hm:X.mg "range"=none)(ha:PA X [a] ta)(hs:starEach [a] X.env=[(false,eval a X.env)]:=by rfl):PI X tg (.Call (.Name "range" p) [a] [] pos) (MJ ta):=by
 intro ak s Z H R I h
 refine Call_ (lr I hg hm boot_range (aaG (il (ha pos ak s Z H _ I h) λus s1 g9=>?_) hs rfl))
 obtain⟨vs,H1,I1,r1,q1⟩:=g9
 obtain⟨j,e,q1,q2,q⟩:=q1
 subst e
 cases r1 with
 | cons r rr=>
  cases rr
  obtain⟨t,rfl⟩:=r
  exact call_range_1 (Aw I1 (by omega) (by omega) q1 q2 (by simpa using q))
theorem x6{a b:Expr}{ta:TA}{p pos:Pos}(hg:Gl X "range")(hm:X.mg "range"=none)(ha:PA X [a,b] ta)(hs:starEach [a,b] X.env=[(false,eval a X.env),(false,eval b X.env)]:=by rfl)(Jx:starEach [b] X.env=[(false,eval b X.env)]:=by rfl) :
  PI X tg (.Call (.Name "range" p) [a,b] [] pos) (MK ta):=by
 intro ak s Z H R I h
 refine Call_ (lr I hg hm boot_range (aaG (il (ha pos ak s Z H _ I h) λus s1 g9=>?_) (by rw[hs,Jx]) (by rw[Jx];rfl)))
 obtain⟨vs,H1,I1,r1,q1⟩:=g9
 obtain⟨i,j,e,⟨q1,q2,q3,q4⟩,q⟩:=q1
 subst e
 cases r1 with
 | cons r rr=>
  cases rr with
  | cons r' rr=>
   cases rr
   obtain⟨t,rfl⟩:=r
   obtain⟨t',rfl⟩:=r'
   exact call_range_2 (Aw I1 q1 q2 q3 q4 q)
def J3(wi:TI)(g:TG)(tb:TS):TS:=λD Z H=>wi Z H λJ H1=>∃W:Nat->Nat->St->Hp->Prop,(∃m,W 0 m Z H1)/\∀i m Z H,W i m Z H->
 (J.stop i H/\D.nx Z H)\/(J.go i H/\∃N:St->Hp->Prop,(∀Z' H',N Z' H'->∃m',m'<m/\W (i+1) m' Z' H')/\∀x H',J.G6 i H x H'->g x Z H' λZ2 H2=>tb {D with nx:=N,ct:=N,bk:=D.nx} Z2 H2)
def vJ(fp:List Addr)(h:Heap):Qqz:=fp.filterMap λb=>(h.get? b).map λo=>(b,o)
theorem oj{fp:List Addr}{h:Heap}{b:Addr}{o:Obj}(hb:b∈fp)(e:h.get? b=some o):(b,o)∈vJ fp h:=abF.mpr ⟨b,hb,by rw[e];rfl⟩
theorem DD{fp:List Addr}{h:Heap}{p:Addr×Obj}(hp:p∈vJ fp h):p.1∈fp/\h.get? p.1=some p.2:=by
 obtain⟨b,hb,e⟩:=abF.mp hp
 cases q:h.get? b with
 | none=>rw[q] at e;cases e
 | some o=>
  rw[q] at e
  have e':(b,o)=p:=aaf e
  subst e'
  exact⟨hb,q⟩
theorem Inv.pinned{ak:Qqz}{Z:St}{H:Hp}{s:Shared}{fp:List Addr}(I:Inv X ak Z H s)(hf:∀b∈fp,rB X ak H b)(ho:∀b∈fp,∃o,s.heap.get? b=some o/\∀v,o.data≠.cell v):Inv X (ak++vJ fp s.heap) Z H s:=
 I.vp λp hp=>(Ue.mp hp).elim (λz=>I.pin p (aas _ z)) λz=>by
  obtain⟨hb,e⟩:=DD z
  obtain⟨f0,f1,f2,_⟩:=hf p.1 hb
  obtain⟨o,e',d⟩:=ho p.1 hb
  rw[e] at e';cases e'
  exact⟨e,f0,f1,f2,d⟩
theorem Inv.se{ak pl:Qqz}{Z:St}{H:Hp}{s:Shared}(I:Inv X (ak++pl) Z H s):Inv X ak Z H s:=I.vp λp hp=>I.pin p (aas _ (aad _ hp))
theorem ip{iter:Expr}{body:List Stmt}{wi:TI}{g:TG}{tb:TS}{pos:Pos}(hp:PassesOwn (model X.prog X.w) X.A X.env X.xe)(hc:X.calm=true)(hi:PI X tg iter wi)(hg:PG X tg g)(hb:Am X body tb)
  (hs:∀x,foldedSetIterable iter X.env x=pure x:=by intro _;rfl):PS X (.For tg iter body [] pos) (J3 wi g tb):=by
 intro ak s Z H D I h
 refine wpAny_For (il (hi ak s Z H _ I h) λv s1 h1=>il h1 λPJ s2 h2=>?_) hs
 obtain⟨it,fp,tn,J,H2,e,I2,T,xU,f2,W,⟨m0,w0⟩,turn⟩:=h2
 subst e
 have Lv:∀{H':Hp},(∀b∈fp,H' b=none)->∀b∈fp,rB X ak H' b:=λhn b hb=>⟨hn b hb,(f2 b hb).2⟩
 refine codeAny_forLoop_any (λn s'=>∃i Z' H',Inv X ak Z' H' s'/\tn i s'.heap/\(∀b∈fp,H' b=none)/\W i n Z' H') ?_ m0 ⟨0,Z,H2,I2,xU,λb hb=>(f2 b hb).1,w0⟩
 rintro n s3 ⟨i,Z3,H3,I3,L7,NR,w3⟩
 rcases turn i n Z3 H3 w3 with⟨stop,qn⟩|⟨go,N,hN,step⟩
 ·refine abL hp (il (T.done X rfl rfl rfl hc i ak s3 Z3 H3 X.xe I3 (Lv NR) L7 stop) λr s4 g9=>?_)
  obtain⟨hr,I4⟩:=g9
  subst hr
  exact wpAny_execs_nil ⟨Z3,H3,I4,qn⟩
 ·refine abL hp (il (T.item X rfl rfl rfl hc i ak s3 Z3 H3 X.xe I3 (Lv NR) L7 go) λr s4 g9=>?_)
  obtain⟨u,hr,h4⟩:=g9
  subst hr
  refine abL hp (il h4 λ_ s5 g9=>?_)
  obtain⟨x,H5,I5,r5,y5,Lw,Rl⟩:=g9
  have Rm:=I5.pinned (Lv Rl) (T.obj _ _ Lw)
  refine abL hp (il (hg _ s5 Z3 H5 x u _ Rm r5 (step x H5 y5)) λ_ s6 g9=>?_)
  obtain⟨Z6,H6,I6,q6⟩:=g9
  refine abL hp (il (hb _ s6 Z6 H6 _ I6 q6) λf s7 q7=>?_)
  have again:∀{Z7:St} {H7:Hp},Inv X (ak++vJ fp s5.heap) Z7 H7 s7->N Z7 H7->∃m,m<n/\∃i Z' H',Inv X ak Z' H' s7/\tn i s7.heap/\(∀b∈fp,H' b=none)/\W i m Z' H':=λ{Z7 H7} I7 n7=>by
   obtain⟨m',hm,w7⟩:=hN Z7 H7 n7
   refine⟨m',hm,i+1,Z7,H7,I7.se,T.keep _ _ _ Lw λb hb o e=>(I7.pin (b,o) (aas _ (aas _ (oj hb e)))).1,λb hb=>?_,w7⟩
   obtain⟨o,e,d⟩:=T.obj _ _ Lw b hb
   exact(I7.pin (b,o) (aas _ (aas _ (oj hb e)))).2.1
  cases f with
  | next=>obtain⟨Z7,H7,I7,n7⟩:=q7;exact again I7 n7
  | cont=>obtain⟨Z7,H7,I7,n7⟩:=q7;exact again I7 n7
  | brk=>obtain⟨Z7,H7,I7,q7⟩:=q7;exact⟨Z7,H7,I7.se,q7⟩
  | ret v=>obtain⟨x7,Z7,H7,I7,r7,q7⟩:=q7;exact⟨x7,Z7,H7,I7.se,r7,q7⟩
end
theorem jh{K:PySem.W.Frag}{a:Addr}{xs:List V}{g:TG}{tb:TS}{D:Ends}{Z:St}{H:Hp}(Pv:Nat->St->Hp->Prop)(h0:Pv 0 Z H)(hl:∀i Z H,i<=xs.length->Pv i Z H->gP K H a xs)
  (hs:∀i x Z H,xs[i]?=some x->Pv i Z H->g x Z H λZ2 H2=>tb {D with nx:=Pv (i+1),ct:=Pv (i+1),bk:=D.nx} Z2 H2) (hd:∀Z H,Pv xs.length Z H->D.nx Z H) :
  ∃W:Nat->Nat->St->Hp->Prop,(∃m,W 0 m Z H)/\∀i m Z H,W i m Z H->
   ((L6 K a).stop i H/\D.nx Z H)\/((L6 K a).go i H/\∃N:St->Hp->Prop,(∀Z' H',N Z' H'->∃m',m'<m/\W (i+1) m' Z' H')/\∀x H',(L6 K a).G6 i H x H'->g x Z H' λZ2 H2=>tb {D with nx:=N,ct:=N,bk:=D.nx} Z2 H2):=by
 refine⟨λi m Z H=>m=xs.length-i/\i<=xs.length/\Pv i Z H,⟨xs.length,by simp,aaD _,h0⟩,?_⟩
 rintro i m Z H ⟨rfl,hi,p⟩
 have q:=hl i Z H hi p
 by_cases jI:i<xs.length
 ·refine .inr ⟨⟨xs,xs[i],q,by simp[jI]⟩,Pv (i+1),λZ' H' p'=>⟨xs.length-(i+1),by omega,rfl,jI,p'⟩,λx H' y=>?_⟩
  obtain⟨e,y⟩:=y
  subst e
  exact hs i x Z _ (y xs q) p
 ·have e:i=xs.length:=by omega
  subst e
  exact .inl ⟨⟨xs,q,Q2 _⟩,hd Z H p⟩
theorem lT{lo:Int}{n:Nat}{g:TG}{tb:TS}{D:Ends}{Z:St}{H:Hp}(Pv:Nat->St->Hp->Prop)(h0:Pv 0 Z H)
  (hs:∀i Z H,i<n->Pv i Z H->g (.int (lo+i)) Z H λZ2 H2=>tb {D with nx:=Pv (i+1),ct:=Pv (i+1),bk:=D.nx} Z2 H2) (hd:∀Z H,Pv n Z H->D.nx Z H) :
  ∃W:Nat->Nat->St->Hp->Prop,(∃m,W 0 m Z H)/\∀i m Z H,W i m Z H->
   ((Ja lo n).stop i H/\D.nx Z H)\/((Ja lo n).go i H/\∃N:St->Hp->Prop,(∀Z' H',N Z' H'->∃m',m'<m/\W (i+1) m' Z' H')/\∀x H',(Ja lo n).G6 i H x H'->g x Z H' λZ2 H2=>tb {D with nx:=N,ct:=N,bk:=D.nx} Z2 H2):=by
 refine⟨λi m Z H=>m=n-i/\i<=n/\Pv i Z H,⟨n,by simp,aaD _,h0⟩,?_⟩
 rintro i m Z H ⟨rfl,hi,p⟩
 by_cases jI:i<n
 ·refine .inr ⟨jI,Pv (i+1),λZ' H' p'=>⟨n-(i+1),by omega,rfl,jI,p'⟩,λx H' y=>?_⟩
  obtain⟨e,y⟩:=y
  subst e y
  exact hs i Z _ jI p
 ·have e:i=n:=by omega
  subst e
  exact .inl ⟨Q2 _,hd Z H p⟩
abbrev R2:=V->V->Hp->VK->Prop
def vK(X:Cx)(f:Value->Value->Sem Value)(r:R2):Prop:=
 ∀(ak:Qqz)(s:Shared)(Z:St)(H:Hp)(x y:V)(v u:Value)(Q:VK),Inv X ak Z H s->RelV x v->RelV y u->r x y H Q->
  wpAny (model X.prog X.w) X.A (f v u) (EP X ak Z Q) X.xe s
def Qz(X:Cx)(f:Value->Sem Value)(r:V->Hp->VK->Prop):Prop:=
 ∀(ak:Qqz)(s:Shared)(Z:St)(H:Hp)(x:V)(v:Value)(Q:VK),Inv X ak Z H s->RelV x v->r x H Q->
  wpAny (model X.prog X.w) X.A (f v) (EP X ak Z Q) X.xe s
def qR(X:Cx)(f:Value)(r:List V->Hp->VK->Prop):Prop:=
 ∀(ak:Qqz)(s:Shared)(Z:St)(H:Hp)(xs:List V)(us:List Value)(Q:VK),Inv X ak Z H s->Vals xs us->r xs H Q->
  wpAny (model X.prog X.w) X.A (call f us) (EP X ak Z Q) X.xe s
def QA(X:Cx)(r:V->Hp->(Bool->Hp->Prop)->Prop):Prop:=
 ∀(ak:Qqz)(s:Shared)(Z:St)(H:Hp)(x:V)(v:Value)(Q:Bool->Hp->Prop),Inv X ak Z H s->RelV x v->r x H Q->
  wpAny (model X.prog X.w) X.A (truthy v) (TP X ak Z Q) X.xe s
def ML(r:R2)(ta tb:TE):TE:=λZ H Q=>ta Z H λx H1=>tb Z H1 λy H2=>r x y H2 Q
def WJ(r:V->Hp->VK->Prop)(ta:TE):TE:=λZ H Q=>ta Z H λx H1=>r x H1 Q
inductive rI(C:Int->Int->Prop)(g:Int->Int->V)(x:V)(y:V)(H:Hp)(Q:VK):Prop
 | mk (i j) (_:x=.int i) (_:y=.int j) (_:C i j) (_:Q (g i j) H)
inductive J4(g:Int->Int->V)(x:V)(y:V)(H:Hp)(Q:VK):Prop
 | mk (i j) (_:x=.int i) (_:y=.int j) (_:Q (g i j) H)
def rU(g:Int->V):V->Hp->VK->Prop:=λx H Q=>∃i,x=.int i/\Q (g i) H
section
variable{X:Cx}{a b c:Expr}{ta tb tc:TE}{pos:Pos}
theorem J6(ha:PE X a ta)(hb:PE X b tb){ak:Qqz}{s:Shared}{Z:St}{H:Hp}{R:V->V->Hp->Prop}(I:Inv X ak Z H s)
  (h:ta Z H λx H1=>tb Z H1 λy H2=>R x y H2) {Q:Qqq} {f:Value->Value->Sem Value}
  (hf:∀v u s2 x y H2,Inv X ak Z H2 s2->RelV x v->RelV y u->R x y H2->wpAny (model X.prog X.w) X.A (f v u) Q X.xe s2) :
  wpAny (model X.prog X.w) X.A (eval a X.env) (λv s₁=>wpAny (model X.prog X.w) X.A (eval b X.env) (λu s₂=>wpAny (model X.prog X.w) X.A (f v u) Q X.xe s₂) X.xe s₁) X.xe s:=by
 refine il (ha ak s Z H _ I h) λv s1 g9=>?_
 obtain⟨x,H1,I1,r1,q1⟩:=g9
 refine il (hb ak s1 Z H1 _ I1 q1) λu s2 g9=>?_
 obtain⟨y,H2,I2,r2,q2⟩:=g9
 exact hf v u s2 x y H2 I2 r1 r2 q2
theorem gU{op:Operator}{r:R2}(ho:vK X (binaryOp op) r)(ha:PE X a ta)(hb:PE X b tb):PE X (.BinOp a op b pos) (ML r ta tb):=by
 intro ak s Z H Q I h
 exact wpAny_BinOp (J6 ha hb I h λv u s2 x y H2 I2 rx ry q=>ho ak s2 Z H2 x y v u Q I2 rx ry q)
theorem si{op:UnaryOp}{r:V->Hp->VK->Prop}(ho:Qz X (unaryOp op) r)(ha:PE X a ta):PE X (.UnaryOp op a pos) (WJ r ta):=by
 intro ak s Z H Q I h
 exact UnaryOp_ (il (ha ak s Z H _ I h) λv s1 ⟨x,H1,I1,r1,q1⟩=>ho ak s1 Z H1 x v Q I1 r1 q1)
theorem QB{f:Value->Value->Sem Value}{C:Int->Int->Prop}{g:Int->Int->Int}
  (rule:∀(i j:Int)(t u:Tok)(s:Shared)(Q:Qqq)(E:Qqq),C i j->Q (.int (g i j) s.toks) {s with toks:=s.toks+1}->wpAny (model X.prog X.w) X.A (f (.int i t) (.int j u)) Q E s) :
  vK X f (rI C λi j=>.int (g i j)):=by
 intro ak s Z H x y v u Q I rx ry h
 obtain⟨i,j,rfl,rfl,hc,q⟩:=h
 obtain⟨t,rfl⟩:=rx
 obtain⟨t',rfl⟩:=ry
 exact rule i j t t' s _ _ hc ⟨.int (g i j),H,I.tok _,⟨_,rfl⟩,q⟩
theorem MM{f:Value->Value->Sem Value}{g:Int->Int->Int}
  (rule:∀(i j:Int)(t u:Tok)(s:Shared)(Q:Qqq)(E:Qqq),Q (.int (g i j) s.toks) {s with toks:=s.toks+1}->wpAny (model X.prog X.w) X.A (f (.int i t) (.int j u)) Q E s) :
  vK X f (J4 λi j=>.int (g i j)):=by
 intro ak s Z H x y v u Q I rx ry h
 obtain⟨i,j,rfl,rfl,q⟩:=h
 obtain⟨t,rfl⟩:=rx
 obtain⟨t',rfl⟩:=ry
 exact rule i j t t' s _ _ ⟨.int (g i j),H,I.tok _,⟨_,rfl⟩,q⟩
theorem J7{f:Value->Value->Sem Value}{g:Int->Int->Bool}
  (rule:∀(i j:Int)(t u:Tok)(s:Shared)(Q:Qqq)(E:Qqq),Q (.bool (g i j)) s->wpAny (model X.prog X.w) X.A (f (.int i t) (.int j u)) Q E s) :
  vK X f (J4 λi j=>.bl (g i j)):=by
 intro ak s Z H x y v u Q I rx ry h
 obtain⟨i,j,rfl,rfl,q⟩:=h
 obtain⟨t,rfl⟩:=rx
 obtain⟨t',rfl⟩:=ry
 exact rule i j t t' s _ _ ⟨.bl (g i j),H,I,rfl,q⟩
def QC(i j:Int):Prop:=0<j/\j<1073741824
def J9(i j:Int):Prop:=(-(2 ^ 64)<i/\i<2 ^ 64)\/(-(2 ^ 64)<j/\j<2 ^ 64)
theorem J9.ok{i j:Int}(h:J9 i j):IntMulOk i j:=by
 rcases h with⟨h1,h2⟩|⟨h1,h2⟩
 ·exact .of_left (intBits_le_64 h1 h2)
 ·exact .of_right (intBits_le_64 h1 h2)
theorem iS:vK X (binaryOp .Add) (J4 λi j=>.int (i+j)):=MM λ_ _ _ _ _ _ _ q=>add_int q
theorem yN:vK X (binaryOp .Sub) (J4 λi j=>.int (i-j)):=MM λ_ _ _ _ _ _ _ q=>sub_int q
theorem BW:vK X (binaryOp .Mult) (rI J9 λi j=>.int (i*j)):=QB λ_ _ _ _ _ _ _ hc q=>mul_int q hc.ok
theorem yO:vK X (binaryOp .FloorDiv) (rI QC λi j=>.int (i/j)):=QB λi j _ _ _ _ _ hc q=>by
 have h1:(0:Int)<j:=hc.1
 have h2:j<1073741824:=hc.2
 exact floordiv_int (by omega) (by rw[Int.fdiv_eq_ediv_of_nonneg i (by omega)];exact q) (.inl (PyProof.noPylong_small (by omega)))
theorem mS:vK X (binaryOp .Mod) (rI (λ_ j=>0<j) λi j=>.int (i%j)):=QB λi j _ _ _ _ _ hc q=>by
 have h1:(0:Int)<j:=hc
 exact mod_int' (by omega) (by rw[Int.fmod_eq_emod_of_nonneg i (by omega)];exact q)
theorem WK{f:Value->Sem Value}{g:Int->Int}
  (rule:∀(i:Int)(t:Tok)(s:Shared)(Q:Qqq)(E:Qqq),Q (.int (g i) s.toks) {s with toks:=s.toks+1}->wpAny (model X.prog X.w) X.A (f (.int i t)) Q E s) :
  Qz X f (rU λi=>.int (g i)):=by
 intro ak s Z H x v Q I rx h
 obtain⟨i,rfl,q⟩:=h
 obtain⟨t,rfl⟩:=rx
 exact rule i t s _ _ ⟨.int (g i),H,I.tok _,⟨_,rfl⟩,q⟩
theorem om:Qz X (unaryOp .USub) (rU λi=>.int (-i)):=WK λ_ _ _ _ _ q=>neg_int q
end
noncomputable def J_:V->V->Bool
 | .iQ,.iQ=>true|.iQ,.int _=>true|.int _,.iQ=>true|.iQ,.bl _=>true|.bl _,.iQ=>true|.iQ,.str _=>true|.str _,.iQ=>true
 | .int _,.int _=>true|.bl _,.bl _=>true|.str _,.str _=>true|.BS _,.BS _=>true
 | .int _,.str _=>true|.str _,.int _=>true|.bl _,.str _=>true|.str _,.bl _=>true
 | _,_=>false
noncomputable def WL:R2:=λx y H Q=>J_ x y=true/\Q (.bl (decide (x=y))) H
noncomputable def WM:R2:=λx y H Q=>J_ x y=true/\Q (.bl (!decide (x=y))) H
theorem CZ{i j:Int}:decide (V.int i=V.int j)=(i ==j):=by
 rw[abA]
 simp
theorem EL{i j:Bool}:decide (V.bl i=V.bl j)=(i ==j):=by
 rw[abA]
 simp
theorem C0{i j:Str}:decide (V.str i=V.str j)=(i ==j):=by
 rw[abA]
 simp
theorem C1{i j:Array UInt8}:decide (V.BS i=V.BS j)=(i.toList ==j.toList):=by
 rw[abA]
 cases i
 cases j
 simp
section
variable{X:Cx}{a b c:Expr}{ta tb tc:TE}{pos:Pos}
theorem hG{ak:Qqz}{Z:St}{H:Hp}{s:Shared}{Q:VK}{k k':Bool}(I:Inv X ak Z H s)(q:Q (.bl k) H)(e:k=k'):EP X ak Z Q (.bool k') s:=by
 subst e
 exact⟨.bl k,H,I,rfl,q⟩
theorem uF:vK X (compareOp .Eq) WL:=by
 intro ak s Z H x y v u Q I rx ry h
 obtain⟨hs,q⟩:=h
 cases x with
 | iQ=>
  cases rx
  cases y with
  | iQ=>cases ry;exact PySem.EqNone.eq_none_none (hG I q (by simp))
  | bl j=>cases ry;exact PySem.EqNone.eq_none_bool (hG I q (by simp))
  | int j=>obtain⟨t',rfl⟩:=ry;exact PySem.EqNone.eq_none_int (hG I q (by simp))
  | str j=>obtain⟨t',rfl⟩:=ry;exact PySem.EqNone.eq_none_str (hG I q (by simp))
  | _=>exact absurd (show false=true from hs) WV
 | bl i=>
  cases rx
  cases y with
  | iQ=>cases ry;exact PySem.EqNone.eq_bool_none (hG I q (by simp))
  | bl j=>cases ry;exact eq_bool (hG I q EL)
  | str j=>obtain⟨t',rfl⟩:=ry;exact PySem.EqMixed.eq_bool_str (hG I q (by simp))
  | _=>exact absurd (show false=true from hs) WV
 | int i=>
  obtain⟨t,rfl⟩:=rx
  cases y with
  | iQ=>cases ry;exact PySem.EqNone.eq_int_none (hG I q (by simp))
  | int j=>obtain⟨t',rfl⟩:=ry;exact eq_int (hG I q CZ)
  | str j=>obtain⟨t',rfl⟩:=ry;exact PySem.EqMixed.eq_int_str (hG I q (by simp))
  | _=>exact absurd (show false=true from hs) WV
 | str i=>
  obtain⟨t,rfl⟩:=rx
  cases y with
  | iQ=>cases ry;exact PySem.EqNone.eq_str_none (hG I q (by simp))
  | bl j=>cases ry;exact PySem.EqMixed.eq_str_bool (hG I q (by simp))
  | int j=>obtain⟨t',rfl⟩:=ry;exact PySem.EqMixed.eq_str_int (hG I q (by simp))
  | str j=>obtain⟨t',rfl⟩:=ry;exact eq_str (hG I q C0)
  | _=>exact absurd (show false=true from hs) WV
 | BS i=>
  obtain⟨t,rfl⟩:=rx
  cases y with
  | BS j=>obtain⟨t',rfl⟩:=ry;exact W.eq_bytes (hG I q C1)
  | _=>exact absurd (show false=true from hs) WV
 | _=>cases y<;>exact absurd (show false=true from hs) WV
theorem EM:vK X (compareOp .NotEq) WM:=by
 intro ak s Z H x y v u Q I rx ry h
 obtain⟨hs,q⟩:=h
 cases x with
 | iQ=>
  cases rx
  cases y with
  | iQ=>cases ry;exact PySem.EqNone.ne_none_none (hG I q (by simp))
  | bl j=>cases ry;exact PySem.EqNone.ne_none_bool (hG I q (by simp))
  | int j=>obtain⟨t',rfl⟩:=ry;exact PySem.EqNone.ne_none_int (hG I q (by simp))
  | str j=>obtain⟨t',rfl⟩:=ry;exact PySem.EqNone.ne_none_str (hG I q (by simp))
  | _=>exact absurd (show false=true from hs) WV
 | bl i=>
  cases rx
  cases y with
  | iQ=>cases ry;exact PySem.EqNone.ne_bool_none (hG I q (by simp))
  | bl j=>cases ry;exact ne_bool (hG I q (aaT not EL))
  | str j=>obtain⟨t',rfl⟩:=ry;exact PySem.EqMixed.ne_bool_str (hG I q (by simp))
  | _=>exact absurd (show false=true from hs) WV
 | int i=>
  obtain⟨t,rfl⟩:=rx
  cases y with
  | iQ=>cases ry;exact PySem.EqNone.ne_int_none (hG I q (by simp))
  | int j=>obtain⟨t',rfl⟩:=ry;exact ne_int (hG I q (aaT not CZ))
  | str j=>obtain⟨t',rfl⟩:=ry;exact PySem.EqMixed.ne_int_str (hG I q (by simp))
  | _=>exact absurd (show false=true from hs) WV
 | str i=>
  obtain⟨t,rfl⟩:=rx
  cases y with
  | iQ=>cases ry;exact PySem.EqNone.ne_str_none (hG I q (by simp))
  | bl j=>cases ry;exact PySem.EqMixed.ne_str_bool (hG I q (by simp))
  | int j=>obtain⟨t',rfl⟩:=ry;exact PySem.EqMixed.ne_str_int (hG I q (by simp))
  | str j=>obtain⟨t',rfl⟩:=ry;exact ne_str (hG I q (aaT not C0))
  | _=>exact absurd (show false=true from hs) WV
 | BS i=>
  obtain⟨t,rfl⟩:=rx
  cases y with
  | BS j=>obtain⟨t',rfl⟩:=ry;exact W.ne_bytes (hG I q (aaT not C1))
  | _=>exact absurd (show false=true from hs) WV
 | _=>cases y<;>exact absurd (show false=true from hs) WV
theorem MN:vK X (compareOp .Lt) (J4 λi j=>.bl (decide (i<j))):=J7 λ_ _ _ _ _ _ _ q=>lt_int q
theorem Jb:vK X (compareOp .LtE) (J4 λi j=>.bl (decide (i<=j))):=J7 λ_ _ _ _ _ _ _ q=>le_int q
theorem MO:vK X (compareOp .Gt) (J4 λi j=>.bl (decide (j<i))):=J7 λ_ _ _ _ _ _ _ q=>gt_int q
theorem yP:vK X (compareOp .NotIn) (λx y H Q=>∃i j,x=.str i/\y=.str j/\Q (.bl (!(!(Builtin.Str.occurrences j i 0 j.length 1).isEmpty))) H):=by
 intro ak s Z H x y v u Q I rx ry h
 obtain⟨i,j,rfl,rfl,q⟩:=h
 obtain⟨t,rfl⟩:=rx
 obtain⟨t',rfl⟩:=ry
 exact notIn_str (hG I q rfl)
theorem jS(b:Expr){op:CmpOp}(h:op≠.In:=by decide)(h2:op≠.NotIn:=by decide):behindInMarks op b=false:=by
 have e1:(op ==CmpOp.In)=false:=by cases op<;>first|rfl|exact absurd rfl h
 have e2:(op ==CmpOp.NotIn)=false:=by cases op<;>first|rfl|exact absurd rfl h2
 cases b<;>simp[behindInMarks,e1,e2]
theorem C2{op:CmpOp}{r:R2}(ho:vK X (compareOp op) r)(ha:PE X a ta)(hb:PE X b tb)(hm:behindInMarks op b=false):PE X (.Compare a [op] [b] pos) (ML r ta tb):=by
 intro ak s Z H Q I h
 exact wpAny_Compare1 (J6 ha hb I h λv u s2 x y H2 I2 rx ry q=>ho ak s2 Z H2 x y v u Q I2 rx ry q) hm
def Jc(t:TE):TT:=λZ H Q=>t Z H λx H'=>bK x H' Q
theorem jo{op:CmpOp}{r:R2}(ho:vK X (compareOp op) r)(ha:PE X a ta)(hb:PE X b tb)(hm:behindInMarks op b=false):PT X (.Compare a [op] [b] pos) (Jc (ML r ta tb)):=by
 intro ak s Z H Q I h
 refine wpAny_isTrue_Compare1 (il (ha ak s Z H _ I h) λv s1 ⟨x,H1,I1,r1,q1⟩=>il (hb ak s1 Z H1 _ I1 q1) λu s2 ⟨y,H2,I2,r2,q2⟩=>
  il (ho ak s2 Z H2 x y v u _ I2 r1 r2 q2) λc s3 ⟨z,H3,I3,r3,k,e,q3⟩=>?_) hm
 subst e
 cases r3
 exact abu ⟨H3,I3,q3⟩
def Ka(r r':R2)(ta tb tc:TE):TE:=λZ H Q=>ta Z H λx H1=>tb Z H1 λy H2=>r x y H2 λz H3=>∃k,z=.bl k/\
 (if k=true then tc Z H3 λw' H4=>r' y w' H4 Q else Q (.bl false) H3)
theorem EN{op Rn:CmpOp}{r r':R2}(ho:vK X (compareOp op) r)(mv:vK X (compareOp Rn) r')(ha:PE X a ta)(hb:PE X b tb)(hc:PE X c tc)
  (hm:lastMarks [op,Rn] [b,c]=false:=by with_unfolding_all rfl):PT X (.Compare a [op,Rn] [b,c] pos) (Jc (Ka r r' ta tb tc)):=by
 intro ak s Z H Q I h
 refine isTrue_chain (il (ha ak s Z H _ I h) λv s1 ⟨x,H1,I1,r1,q1⟩=>test_link (il (hb ak s1 Z H1 _ I1 q1) λu s2 ⟨y,H2,I2,r2,q2⟩=>
  il (ho ak s2 Z H2 x y v u _ I2 r1 r2 q2) λd s3 ⟨z,H3,I3,r3,k,e,q3⟩=>?_)) hm
 subst e
 cases r3
 refine abu ?_
 cases k with
 | false=>
  obtain⟨k',e',q'⟩:=q3
  cases e'
  exact ite_ff ⟨H3,I3,q'⟩
 | true=>
  refine ite_tt (test_last (il (hc ak s3 Z H3 _ I3 q3) λw' s4 g9=>?_))
  obtain⟨z',H4,I4,r4,q4⟩:=g9
  refine il (mv ak s4 Z H4 y z' u w' _ I4 r2 r4 q4) λd' s5 Gy=>?_
  obtain⟨z2,H5,I5,r5,k2,e2,q5⟩:=Gy
  subst e2
  cases r5
  exact abu ⟨H5,I5,q5⟩
def MP(K:Qqy)(x:V)(H:Hp)(k:Bool):Prop:=
 match x with
 | .iQ=>k=false
 | .bl b=>k=b
 | .int i=>k=(i != 0)
 | .str y=>y.length<=sizeLine/\k=((y.length:Int) != 0)
 | .BS y=>y.size<=sizeLine/\k=((y.size:Int) != 0)
 | .ref p=>(∃xs,gP K H p xs/\k=!xs.isEmpty)\/(∃xs,xy K H p xs/\k=!xs.isEmpty)\/∃kvs,H p=some (.dK kvs)/\k=!kvs.isEmpty
 | _=>False
theorem BX{Z:Type}{kvs:List (Z×V)}{vs:List (Z×Value)}(r:KV kvs vs):(!vs.isEmpty)=!kvs.isEmpty:=by
 cases r<;>rfl
theorem vL{xs:List V}{fW:List Value}(r:Vals xs fW):(!fW.toArray.isEmpty)=!xs.isEmpty:=by
 cases r<;>simp
theorem rC:(sizeLine:Nat)<2 ^ 63:=by rw[ach];decide
theorem Kb:QA X (λx H Q=>∃k,MP X.K x H k/\Q k H):=by
 intro ak s Z H x v Q I rx h
 obtain⟨k,e,q⟩:=h
 have hl:=rC
 have hs:sizeLine=16777216:=ach
 cases x with
 | iQ=>
  cases rx
  have e':k=false:=e
  subst e'
  exact truthy_none ⟨H,I,q⟩
 | bl b=>
  cases rx
  have e':k=b:=e
  subst e'
  exact abu ⟨H,I,q⟩
 | int i=>
  obtain⟨t,rfl⟩:=rx
  have e':k=(i != 0):=e
  subst e'
  exact PySem.P.truthy_int ⟨H,I,q⟩
 | str y=>
  obtain⟨t,rfl⟩:=rx
  obtain⟨hy,e'⟩:y.length<=sizeLine/\k=((y.length:Int) != 0):=e
  subst e'
  exact PySem.P.truthy_str (by omega) ⟨H,I.tok _,q⟩
 | BS y=>
  obtain⟨t,rfl⟩:=rx
  obtain⟨hy,e'⟩:y.size<=sizeLine/\k=((y.size:Int) != 0):=e
  subst e'
  exact W.truthy_bytes (by omega) ⟨H,I.tok _,q⟩
 | ref p=>
  cases rx
  have e':(∃xs,gP X.K H p xs/\k=!xs.isEmpty)\/(∃xs,xy X.K H p xs/\k=!xs.isEmpty)\/∃kvs,H p=some (.dK kvs)/\k=!kvs.isEmpty:=e
  rcases e' with⟨xs,hx,e'⟩|⟨xs,hx,e'⟩|⟨kvs,hx,e'⟩
  ·subst e'
   obtain⟨fW,r,pl,hz⟩:=I.list hx
   have hlen:=r.length
   exact wpAny_truthy_list pl.isList (by simp only [WZ];omega) ⟨H,I.tok _,by rw[vL r];exact q⟩
  ·subst e'
   obtain⟨fW,r,pl,hz⟩:=I.tuple hx
   have hlen:=r.length
   exact truthy_tuple pl (by simp only [WZ];omega) ⟨H,I.tok _,by rw[vL r];exact q⟩
  ·subst e'
   obtain⟨hz,hS,vs,r,m⟩:kvs.length<=sizeLine/\(p ==sysModules)=false/\∃vs,KV kvs vs/\s.heap.DictOf (iy X.prog X.w) p vs:=I.gX p _ hx
   have hlen:kvs.length=vs.length:=aaj r
   exact wpAny_truthy_dict hS m (by omega) ⟨H,I.tok _,by rw[BX r];exact q⟩
 | _=>exact(show False from e).elim
theorem sj(ha:PE X a ta)(he:∀whole,isTrue a X.env whole=(do let v <-whole;standAt a.pos;holding [v] (truthy v))) :
  PT X a (λZ H Q=>ta Z H λx H'=>∃k,MP X.K x H' k/\Q k H'):=by
 intro ak s Z H Q I h
 exact isTrue_plain (il (ha ak s Z H _ I h) λv s1 ⟨x,H1,I1,r1,q1⟩=>Kb ak s1 Z H1 x v Q I1 r1 q1) (he _)
theorem vM:vK X (binaryOp .Add) (λx y H Q=>∃i j,x=.str i/\y=.str j/\i.length+j.length<=sizeLine/\Q (.str (i++j)) H):=by
 intro ak s Z H x y v u Q I rx ry h
 obtain⟨i,j,rfl,rfl,hz,q⟩:=h
 obtain⟨t,rfl⟩:=rx
 obtain⟨t',rfl⟩:=ry
 exact add_str (λt' tk=>⟨.str (i++j),H,I.tok _,⟨_,rfl⟩,q⟩) hz
theorem vals1{x:V}{us:List Value}(r:Vals [x] us):∃u,us=[u]/\RelV x u:=by
 cases r with
 | cons r1 r2=>cases r2;exact⟨_,rfl,r1⟩
theorem vals2{x y:V}{us:List Value}(r:Vals [x,y] us):∃u w',us=[u,w']/\RelV x u/\RelV y w':=by
 cases r with
 | cons r1 r2=>
  cases r2 with
  | cons r3 r4=>cases r4;exact⟨_,_,rfl,r1,r3⟩
theorem DE(hc:X.calm=true):qR X (.builtin "max") (λxs H Q=>∃i j,xs=[.int i,.int j]/\Q (.int (if j>i then j else i)) H):=by
 intro ak s Z H xs us Q I r h
 obtain⟨i,j,rfl,q⟩:=h
 obtain⟨u,w',rfl,⟨t,rfl⟩,⟨t',rfl⟩⟩:=vals2 r
 refine max_two_ints (I.ok.hd hc) λh' tk k=>⟨_,H,I.kept k,?_,q⟩
 by_cases hj:j>i
 ·rw[aah hj,aah hj];exact⟨_,rfl⟩
 ·rw[aab hj,aab hj];exact⟨_,rfl⟩
end
structure BY(h:Heap)(x dx C:Addr)(mA:Qqx):Prop where
 obj:h.get? x=some (W.instObj C dx)
 ns:h.Ns1 dx mA
 ne:dx≠x
theorem DG{h:Heap}{dx:Addr}{mA:Qqx}(n:h.Ns1 dx mA):∃od,h.get? dx=some od/\∀name,W.lookIn name od=some (mA name):=by
 obtain⟨o,es,ep,ho,hd,hk,_,hm⟩:=n
 refine⟨o,ho,λname=>?_⟩
 have e:=hm name
 unfold nsFind findBy at e
 rw[<-Array.find?_toList] at e
 unfold W.lookIn
 rw[hd]
 dsimp only
 split
 ·rename_i y q
  rw[q] at e
  exact aaT some e
 ·rename_i q
  rw[q] at e
  have a:es.toList.any (·.refKey)=false:=by
   rw[List.any_eq_false]
   intro y hy
   obtain⟨z,t,Lx⟩:=hk y (Array.mem_toList_iff.mp hy)
   simp[DictEntry.refKey,Lx]
  have a':¬es.toList.any (·.refKey)=true:=by rw[a];exact WV
  rw[aab a']
  exact aaT some e
theorem BY.look{h:Heap}{x dx C:Addr}{mA:Qqx}(I:BY h x dx C mA):∃od,W.InstAt h x (W.instObj C dx) C (some od)/\∀name,W.lookIn name od=some (mA name):=
 let ⟨od,ho,hl⟩:=DG I.ns
 ⟨od,⟨I.obj,rfl,rfl,ho⟩,hl⟩
section
variable{prog:Program}{w:World}{A:Around}{E:Qqq}{s:Shared}{K:Qqy}{x dx C f:Addr}{mA:Qqx}{name:Str}{v:Value}
theorem get_map{expr:Bool}{Q:Qqq}(X:K.In s.heap)(I:BY s.heap x dx C mA)(hg:W.plainGet K C name=true)(hh:W.hasDictIn K C=true)
  (ha:W.findIn K (.ref C) name=some none) (hv:mA name=some v) (W9:W.handedIn v=true) (h:Q v {s with toks:=s.toks+1}) :
  wpAny (model prog w) A (getAttr (.ref x) name expr) Q E s:=by
 obtain⟨od,J,hl⟩:=I.look
 exact W.get_value X J (W.plainGet_of hg).1 (W.findObj_own hh ha rfl (by rw[hl,hv])) W9 h
theorem EO{pl:Sem Bool}{Q:Value×List Value->Shared->Prop}(X:K.In s.heap)(I:BY s.heap x dx C mA)(hg:W.plainGet K C name=true)
  (hf:W.findIn K (.ref C) name=some (some (.ref f))) (ht:W.isFn K (.ref f)=true) (hv:mA name=none) (h:Q (.ref f,[.ref x]) s) :
  wpAny (model prog w) A (getMethod (.ref x) name pl) Q E s:=by
 obtain⟨od,J,hl⟩:=I.look
 exact W.method_fn X J (W.plainGet_of hg).1 (W.plainGet_of hg).2 hf (abD.mp ht) (by show(W.lookIn name od).map (·.isSome)=some false;rw[hl,hv];rfl) h
theorem Hl{ns:List Str}{Q:Unit->Shared->Prop}(X:K.In s.heap)(I:BY s.heap x dx C mA)
  (hs:W.findIn K (.ref C) "__setattr__"=some (some (.builtin "object.__setattr__"))) (hp:W.plainOver K C=true) (ht:W.takerIn K C name=some none) (hh:W.hasDictIn K C=true)
  (hw:PySem.Within mA ns) (hsz:ns.length<=sizeLine)
  (h:∀h',BY h' x dx C (λy=>if y=name then some v else mA y)->Heap.SameBut dx s.heap h'->Q () {s with heap:=h',toks:=s.toks+2}) :
  wpAny (model prog w) A (setAttr (.ref x) name v) Q E s:=by
 obtain⟨od,J,hl⟩:=I.look
 refine W.set_plain X J hs (W.osa_open (s:={s with toks:=s.toks+1}) (r:=none) X J hp ht λb=>?_)
 obtain⟨cd,hc,Rg⟩:=W.any_some hh
 have hx:s.heap.get? x=some ⟨.ref C,some dx,.plain,#[]⟩:=I.obj
 refine M9 (Oz (M9 (M9 (wpAny_loadPart hx (M9 (W.Looks.here (s:={s with toks:=s.toks+1}) (W.looks_clsIn X hc) ?_))))))
 rw[Rg]
 refine Oz (a:=some dx) (M9 (Oz (M9 ?_)))
 refine wpAny_nsSet1 (s:={s with toks:=s.toks+1}) I.ns λh' Ly Jx=>?_
 obtain⟨oD,esD,epD,W_,Xa,Xb⟩:=Ly.count (PySem.Within.cons name v hw)
 refine M9 (wpAny_lookBehind W_ (by rw[Xa];exact pastItsLine_dict (aag Xb (by rw[S7];omega))) ?_)
 exact Oz (h _ ⟨(Jx.2 _ (abz I.ne)).trans I.obj,Ly,I.ne⟩ Jx)
theorem ER{R:Result->Shared->Prop}{vs:List Value}{kw:List (Str×Value)}(X:K.In s.heap)(hm:W.makesIn K C=true)
  (hi:W.findIn K (.ref C) "__init__"=some (some (.ref f))) (hf:W.typeIn K (.ref f)=some (.type "function"))
  (h:codeAny (model prog w) (A.under (.builtin "type.__call__" ⟨.ref C::vs,kw⟩)) (.call (.ref f) ⟨.ref (s.heap.objs.size+1)::vs,kw⟩) (W.InitBack (s.heap.objs.size+1) R)
   {s with heap:=(s.heap.push W.emptyDict).push (W.instObj C s.heap.objs.size)}) :
  codeAny (model prog w) A (.call (.ref C) ⟨vs,kw⟩) R s:=by
 obtain⟨hh,g,d,t,os⟩:=s
 exact W.make_core (W.makes_of X hm) (W.looks_findIn X hi) (λself=>W.bind_fn X self hf) (.inl rfl) h
end
noncomputable def iZ(f:Str)(v:V):List (Str×V)->List (Str×V)
 | []=>[(f,v)]
 | (g,x)::r=>if g=f then(g,v)::r else(g,x)::iZ f v r
theorem uG(f g:Str)(v:V):∀fs:List (Str×V),(iZ f v fs).lookup g=if g=f then some v else fs.lookup g
 | []=>by
  show List.lookup g [(f,v)]=_
  by_cases h:g=f
  ·have hb:(g ==f)=true:=abD.mpr h
   simp only [List.lookup,hb,aah h]
  ·have hb:(g ==f)=false:=abj.mpr h
   simp only [List.lookup,hb,aab h]
 | (k,x)::r=>by
  have ih:=uG f g v r
  rw[show iZ f v ((k,x)::r)=(if k=f then(k,v)::r else(k,x)::iZ f v r) from rfl]
  by_cases hk:k=f
  ·rw[aah hk]
   by_cases h:g=k
   ·have hb:(g ==k)=true:=abD.mpr h
    simp only [List.lookup,hb,aah (h.trans hk)]
   ·have hb:(g ==k)=false:=abj.mpr h
    simp only [List.lookup,hb,aab (λe:g=f=>h (e.trans hk.symm))]
  ·rw[aab hk]
   by_cases h:g=k
   ·have hb:(g ==k)=true:=abD.mpr h
    simp only [List.lookup,hb,aab (λe:g=f=>hk (h.symm.trans e))]
   ·have hb:(g ==k)=false:=abj.mpr h
    simp only [List.lookup,hb]
    exact ih
theorem tN(f:Str)(v:V):∀fs:List (Str×V),f∈(iZ f v fs).map (·.1)/\∀g,g∈fs.map (·.1)->g∈(iZ f v fs).map (·.1)
 | []=>⟨by simp[iZ],λg h=>by simp at h⟩
 | (k,x)::r=>by
  obtain⟨i1,i2⟩:=tN f v r
  rw[show iZ f v ((k,x)::r)=(if k=f then(k,v)::r else(k,x)::iZ f v r) from rfl]
  by_cases hk:k=f
  ·rw[aah hk]
   subst hk
   exact⟨by simp,λg h=>by simpa using h⟩
  ·rw[aab hk]
   refine⟨?_,λg h=>?_⟩
   ·rw[aam]
    exact Uk _ i1
   ·rw[aam] at h ⊢
    rcases RT.mp h with e|e
    ·exact RT.mpr (.inl e)
    ·exact Uk _ (i2 g e)
theorem uH(f:Str)(v:V):∀fs:List (Str×V),(iZ f v fs).length<=fs.length+1
 | []=>by simp[iZ]
 | (k,x)::r=>by
  have ih:=uH f v r
  rw[show iZ f v ((k,x)::r)=(if k=f then(k,v)::r else(k,x)::iZ f v r) from rfl]
  by_cases hk:k=f
  ·rw[aah hk,S7,S7];omega
  ·rw[aab hk,S7,S7];omega
theorem oa.some_of{v:V}{o:Option Value}(r:oa (some v) o):∃u,o=some u/\RelV v u:=by
 cases o with
 | none=>exact(show False from r).elim
 | some u=>exact⟨u,rfl,r⟩
theorem oa.none_of{o:Option Value}(r:oa none o):o=none:=by
 cases o with
 | none=>rfl
 | some u=>exact(show False from r).elim
theorem DH{v:V}{u:Value}(r:RelV v u):W.handedIn u=true:=by
 cases v with
 | iQ=>cases (show u=Value.none from r);rfl
 | bl b=>cases (show u=Value.bool b from r);rfl
 | int i=>obtain⟨t,e⟩:=(show ∃t,u=Value.int i t from r);cases e;rfl
 | str x=>obtain⟨t,e⟩:=(show ∃t,u=Value.str x t from r);cases e;rfl
 | BS b=>obtain⟨t,e⟩:=(show ∃t,u=Value.bytes b t from r);cases e;rfl
 | IW b=>obtain⟨t,e⟩:=(show ∃t,u=Value.float b t from r);cases e;rfl
 | ref a=>cases (show u=Value.ref a from r);rfl
 | ty n=>cases (show u=Value.type n from r);rfl
section
variable{P:Program}{w:World}{H H':Hp}{h h':Heap}{a C dx:Addr}{fs W6:List (Str×V)}
theorem vq(gX:og P w H h)(e:H a=some (.ins C dx fs)):∃mA,BY h a dx C mA/\(∀f,oa (fs.lookup f) (mA f))/\PySem.Within mA (fs.map (·.1))/\fs.length<=1000/\H dx=some (.own a):=by
 obtain⟨d,z,ne,ob,mA,n,r,q⟩:=(show ia P w H h a (.ins C dx fs) from gX a _ e)
 exact⟨mA,⟨ob,n,ne⟩,r,q,z,d⟩
end
structure Ax(K:Qqy)(C:Addr):Prop where
 pg:W.plainGet K C Str.empty=true
 hd:W.hasDictIn K C=true
 po:W.plainOver K C=true
 sa:W.findIn K (.ref C) "__setattr__"=some (some (.builtin "object.__setattr__"))
theorem Ax.get{K:Qqy}{C:Addr}(c:Ax K C)(f:Str):W.plainGet K C f=true:=c.pg
def ji(K:Qqy)(C:Addr)(f:Str):Prop:=W.findIn K (.ref C) f=some none
theorem ji.MQ{K:Qqy}{C:Addr}{f:Str}(n:ji K C f):W.takerIn K C f=some none:=by
 unfold W.takerIn
 rw[show W.findIn K (.ref C) f=some none from n]
 rfl
structure Meth(K:Qqy)(C:Addr)(m:Str)(f:Addr):Prop where
 at_:W.findIn K (.ref C) m=some (some (.ref f))
 fn:W.isFn K (.ref f)=true
 kp:W.keepIn K (.ref f)=true
section
variable{X:Cx}{ak:Qqz}{Z:St}{H:Hp}{s:Shared}{a C dx:Addr}{fs:List (Str×V)}{f:Str}{v:V}{A:Around}{E:Qqq}
theorem BZ{b:Bool}{Q:Qqq}(I:Inv X ak Z H s)(e:H a=some (.ins C dx fs))(c:Ax X.K C)(n:ji X.K C f)(l:fs.lookup f=some v)
  (h:∀u s',Inv X ak Z H s'->RelV v u->Q u s'):wpAny (model X.prog X.w) A (getAttr (.ref a) f b) Q E s:=by
 obtain⟨mA,O,r,_,_,_⟩:=vq I.gX e
 obtain⟨u,hu,ru⟩:=oa.some_of (v:=v) (o:=mA f) (by rw[<-l];exact r f)
 exact get_map I.r_ O (c.get f) c.hd n hu (DH ru) (h u _ (I.tok _) ru)
theorem rD{m:Str}{g:Addr}{pl:Sem Bool}{Q:Value×List Value->Shared->Prop}(I:Inv X ak Z H s)(e:H a=some (.ins C dx fs))(c:Ax X.K C)(k:Meth X.K C m g)(l:fs.lookup m=none)
  (h:Q (.ref g,[.ref a]) s):wpAny (model X.prog X.w) A (getMethod (.ref a) m pl) Q E s:=by
 obtain⟨mA,O,r,_,_,_⟩:=vq I.gX e
 have hn:mA m=none:=oa.none_of (by rw[<-l];exact r m)
 exact EO I.r_ O (c.get m) k.at_ k.fn hn h
theorem B0{y:V}{u:Value}{Q:Unit->Shared->Prop}(I:Inv X ak Z H s)(e:H a=some (.ins C dx fs))(c:Ax X.K C)(n:ji X.K C f)(hl:fs.length<1000)(ry:RelV y u)
  (h:∀s',Inv X ak Z (upd H a (.ins C dx (iZ f y fs))) s'->Q () s'):wpAny (model X.prog X.w) A (setAttr (.ref a) f u) Q E s:=by
 obtain⟨mA,O,r,wi,_,ho⟩:=vq I.gX e
 have hz:(fs.map (·.1)).length<=sizeLine:=by rw[Ou,ach];omega
 refine Hl I.r_ O c.sa c.po n.MQ c.hd wi hz λh' O' sb=>h _ ?_
 have hd:∃o,h'.get? dx=some o:=let ⟨o,_,_,e',_⟩:=O'.ns;⟨o,e'⟩
 refine I.write (x:=a) (e:=dx) (by rw[e];exact True.intro) (.inr ho) (λb q hb z=>(sb.2 b hb).trans z) hd ?_
 refine⟨by rw[c_ O.ne];exact ho,?_,O.ne,O'.obj,_,O'.ns,λg=>?_,λg hg=>?_⟩
 ·have:=uH f y fs;omega
 ·show oa ((iZ f y fs).lookup g) (if g=f then some u else mA g)
  rw[uG]
  by_cases q:g=f
  ·rw[aah q,aah q];exact ry
  ·rw[aab q,aab q];exact r g
 ·by_cases q:g=f
  ·rw[q];exact(tN f y fs).1
  ·refine(tN f y fs).2 g (wi g λz=>hg ?_)
   show(if g=f then some u else mA g)=none
   rw[aab q];exact z
theorem Inv.made(I:Inv X ak Z H s):Inv X ak Z (upd (upd H s.heap.objs.size (.own (s.heap.objs.size+1))) (s.heap.objs.size+1) (.ins C s.heap.objs.size []))
  {s with heap:=(s.heap.push W.emptyDict).push (W.instObj C s.heap.objs.size)}:=by
 have e1:(s.heap.push W.emptyDict).get? s.heap.objs.size=some W.emptyDict:=WO s.heap rfl
 have e2:((s.heap.push W.emptyDict).push (W.instObj C s.heap.objs.size)).get? (s.heap.objs.size+1)=some (W.instObj C s.heap.objs.size):=by
  have:=WO (s.heap.push W.emptyDict) (o:=W.instObj C s.heap.objs.size) rfl
  rwa [abm] at this
 have e3:(s.heap.push W.emptyDict).Ns s.heap.objs.size (λ_=>none):=⟨W.emptyDict,#[],_,e1,rfl,(λe he=>absurd he (by simp)),λ_=>rfl⟩
 have I1:=I.laid (a:=s.heap.objs.size) (o:=.own (s.heap.objs.size+1)) (h':=s.heap.push W.emptyDict) (t':=s.toks) (λb u q=>QY _ q) (Q2 _) ⟨_,e1⟩
 refine I1.laid (a:=s.heap.objs.size+1) (o:=.ins C s.heap.objs.size []) (t':=s.toks) (λb u q=>QY _ q) (Nat.le_of_eq (abm _ _)) ?_
 have ne:s.heap.objs.size≠s.heap.objs.size+1:=aar (abE _)
 refine⟨by rw[c_ ne,a_],aaD _,ne,e2,λ_=>none,(Heap.Ns1.of_empty e3).at λo q=>QY _ q,λ_=>True.intro,λy hy=>absurd rfl hy⟩
theorem Hm{prog:Program}{w:World}{env:Env}{e:Expr}{f:Str}{pos:Pos}{s:Shared}{Q:Qqq}(hb:attributeBase e f env (eval e env)=eval e env)
  (h:wpAny (model prog w) A (eval e env) (λo s1=>wpAny (model prog w) A (getAttr o f true) Q E s1) E s):wpAny (model prog w) A (eval (.Attribute e f pos) env) Q E s:=
 Attribute_any_ h (by rw[arm_eval_Attribute,hb])
end
inductive fK(K:Qqy)(f:Str)(x:V)(H:Hp)(Q:VK):Prop
 | mk (a C dx:Addr) (fs:List (Str×V)) (v:V) (_:x=.ref a) (_:H a=some (.ins C dx fs)) (_:Ax K C) (_:ji K C f) (_:fs.lookup f=some v) (_:Q v H)
def QD(K:Qqy)(ta:TE)(f:Str):TE:=λZ H Q=>ta Z H λx H1=>fK K f x H1 Q
def QE(K:Qqy)(ta tv:TE)(f:Str):TS:=λD Z H=>tv Z H λy H1=>ta Z H1 λx H2=>∃a C dx fs,x=.ref a/\H2 a=some (.ins C dx fs)/\Ax K C/\ji K C f/\fs.length<1000/\
 D.nx Z (upd H2 a (.ins C dx (iZ f y fs)))
section
variable{X:Cx}{o e value:Expr}{f:Str}{pos pos' Lz:Pos}{ta tv:TE}
theorem fS(he:PE X e ta)(hb:attributeBase e f X.env (eval e X.env)=eval e X.env):PE X (.Attribute e f pos) (QD X.K ta f):=by
 intro ak s Z H Q I h
 refine Hm hb (il (he ak s Z H _ I h) λu s1 g9=>?_)
 obtain⟨x,H1,I1,rx,a,C,dx,fs,v,ex,ea,c,n,l,q⟩:=g9
 subst ex
 obtain rfl:u=Value.ref a:=rx
 exact BZ I1 ea c n l λu' s2 I2 ru=>⟨v,H1,I2,ru,q⟩
theorem j7(ha:PE X o ta)(hv:PE X value tv)(hs:swapsWith value (some (.Attribute o f pos')) pos.line X.env=pure false):PS X (.Assign [.Attribute o f pos'] value pos) (QE X.K ta tv f):=by
 intro ak s Z H D I h
 refine plainObj_wpAny_Assign_Attribute (il (hv ak s Z H _ I h) λu s1 g9=>?_) hs
 obtain⟨y,H1,I1,ry,q⟩:=g9
 refine il (ha ak s1 Z H1 _ I1 q) λov s2 Gy=>?_
 obtain⟨x,H2,I2,rx,a,C,dx,fs,ex,ea,c,n,l,q2⟩:=Gy
 subst ex
 obtain rfl:ov=Value.ref a:=rx
 exact B0 I2 ea c n l ry λs3 I3=>⟨Z,_,I3,q2⟩
end
section
variable{X:Cx}{ak:Qqz}{Z:St}{H:Hp}{s:Shared}{A:Around}{E:Qqq}{Q:Qqq}{c:Value}{b:Bool}
inductive tO(K:Qqy)(H:Hp):V->Value->Prop where
 | iQ:tO K H .iQ (.type "NoneType")
 | bl (x:Bool):tO K H (.bl x) (.type "bool")
 | int (i:Int):tO K H (.int i) (.type "int")
 | str (x:Str):tO K H (.str x) (.type "str")
 | IW (x:UInt64):tO K H (.IW x) (.type "float")
 | lst {a:Addr} {xs:List V} (e:H a=some (.lst xs)):tO K H (.ref a) (.type "list")
 | mw {a:Addr} {o:Obj} {xs:List V} (e:H a=some (.mw o (.lst xs))):tO K H (.ref a) (.type "list")
 | tup {a:Addr} {xs:List V} (e:H a=some (.tup xs)):tO K H (.ref a) (.type "tuple")
 | dK {a:Addr} {kvs:List (Key×V)} (e:H a=some (.dK kvs)):tO K H (.ref a) (.type "dict")
 | dT {a:Addr} {kvs:List (List Key×V)} (e:H a=some (.dT kvs)):tO K H (.ref a) (.type "dict")
 | ins {a C dx:Addr} {fs:List (Str×V)} (e:H a=some (.ins C dx fs)) (cl:Ax K C) (ha:W.findIn K (.ref C) "__class__"=some (some (.builtin "object.__class__")))
  (hn:W.specialIn K (.builtin "object.__class__") "__get__"=some (some (.builtin "getset_descriptor.__get__"))) (Ut:W.takesIn K (.builtin "object.__class__")=some true)
  (hm:W.mroIn K C (.type "object")=some true):tO K H (.ref a) (.ref C)
theorem DI{x:V}{u t:Value}(I:Inv X ak Z H s)(rx:RelV x u)(ty:tO X.K H x t)(e:W.kitOne X.K t c=some b)(h:∀tk,Q (.bool b) {s with toks:=tk}) :
  wpAny (model X.prog X.w) A (call (.builtin "isinstance") [u,c]) Q E s:=by
 cases ty with
 | iQ=>cases (show u=Value.none from rx);exact aa7 W.kitx_none I.r_ True.intro e (λz=>nomatch z) h
 | bl y=>cases (show u=Value.bool y from rx);exact aa7 W.kitx_bool I.r_ True.intro e (λz=>nomatch z) h
 | int i=>obtain⟨t,q⟩:=(show ∃t,u=Value.int i t from rx);cases q;exact aa7 W.kitx_int I.r_ True.intro e (λz=>nomatch z) h
 | str y=>obtain⟨t,q⟩:=(show ∃t,u=Value.str y t from rx);cases q;exact aa7 W.kitx_str I.r_ True.intro e (λz=>nomatch z) h
 | IW y=>obtain⟨t,q⟩:=(show ∃t,u=Value.float y t from rx);cases q;exact aa7 W.kitx_float I.r_ True.intro e (λz=>nomatch z) h
 | @lst a xs ea=>
  cases (show u=Value.ref a from rx)
  obtain⟨_,_,n,_,h1⟩:=(show ia X.prog X.w H s.heap a (.lst xs) from I.gX a _ ea)
  exact aa7 W.kitx_list I.r_ ⟨_,h1,rfl⟩ e (λz=>nomatch z) h
 | @mw a ob xs ea=>
  cases (show u=Value.ref a from rx)
  obtain⟨_,_,_,n,_,h1⟩:=(show ia X.prog X.w H s.heap a (.mw ob (.lst xs)) from I.gX a _ ea)
  exact aa7 W.kitx_list I.r_ ⟨_,h1,rfl⟩ e (λz=>nomatch z) h
 | @tup a xs ea=>
  cases (show u=Value.ref a from rx)
  obtain⟨_,_,_,p⟩:=(show ia X.prog X.w H s.heap a (.tup xs) from I.gX a _ ea)
  obtain⟨o,h1,h2,_⟩:=p
  exact aa7 W.kitx_tuple I.r_ ⟨o,h1,h2⟩ e (λz=>nomatch z) h
 | @dK a kvs ea=>
  cases (show u=Value.ref a from rx)
  obtain⟨_,_,vs,_,p⟩:=(show ia X.prog X.w H s.heap a (.dK kvs) from I.gX a _ ea)
  obtain⟨o,es,ep,h1,h2,_⟩:=p
  exact aa7 W.kitx_dict I.r_ ⟨o,h1,h2.1⟩ e (λz=>nomatch z) h
 | @dT a kvs ea=>
  cases (show u=Value.ref a from rx)
  obtain⟨_,_,xs,_,o,es,ep,h1,h2,_⟩:=(show ia X.prog X.w H s.heap a (.dT kvs) from I.gX a _ ea)
  exact aa7 W.kitx_dict I.r_ ⟨o,h1,h2.1⟩ e (λz=>nomatch z) h
 | @ins a C dx fs ea cl ha hn Ut hm=>
  cases (show u=Value.ref a from rx)
  obtain⟨mA,O,_⟩:=vq I.gX ea
  obtain⟨od,J,_⟩:=O.look
  exact aa7 (W.kitx_own (cl.get _) cl.hd ha hn Ut hm) I.r_ J e (λz=>nomatch z) h
end
structure jw(k:Nat)(A:Around):Prop where
 hd:A.handled=none
 dp:A.depth+3*k+5<recursionLimit
 un:A.units+16*k+200<cLine
theorem jw.mono{j k:Nat}{A:Around}(r:jw k A)(h:j<=k):jw j A:=⟨r.hd,by have:=r.dp;omega,by have:=r.un;omega⟩
theorem jw.deeper{k:Nat}{A:Around}(r:jw (k+1) A)(env:Env):jw k (A.deeper env):=
 ⟨r.hd,by have:=r.dp;show A.depth+1+3*k+5<_;omega,by have:=r.un;show A.units+3+16*k+200<_;omega⟩
theorem B1{A:Around}{C:Addr}{us:List Value}{kw:List (Str×Value)}:(A.under (.builtin "type.__call__" ⟨.ref C::us,kw⟩)).depth=A.depth+1:=by
 first|rfl|simp[Around.under,Code.weight,Code.isCreation,Code.isGuard,Code.isCaller,Code.frames,Code.isFrame,guardIds]
theorem B2{A:Around}{C:Addr}{us:List Value}{kw:List (Str×Value)}:(A.under (.builtin "type.__call__" ⟨.ref C::us,kw⟩)).units=A.units+1:=by
 first|rfl|simp[Around.under,Code.cUnits,Code.frames,Code.isFrame]
theorem jw.make{k:Nat}{A:Around}(r:jw (k+1) A)(C:Addr)(us:List Value)(kw:List (Str×Value)):jw k (A.under (.builtin "type.__call__" ⟨.ref C::us,kw⟩)):=
 ⟨r.hd,by have:=r.dp;rw[B1];omega,by have:=r.un;rw[B2];omega⟩
theorem jw.depth{k:Nat}{A:Around}(r:jw k A):A.depth<recursionLimit:=by have:=r.dp;omega
theorem jw.units{k:Nat}{A:Around}(r:jw k A):A.units+64<cLine:=by have:=r.un;omega
def Kc:TA:=λ_ H Q=>Q [] H
def MR(ta:TE)(tr:TA):TA:=λZ H Q=>ta Z H λx H1=>tr Z H1 λxs H2=>Q (x::xs) H2
section
variable{X:Cx}{e:Expr}{es:List Expr}{te:TE}{t:TA}{pos:Pos}
theorem eV:PA X [] Kc:=λ_ _ _ _ H Q I h=>abk ⟨[],H,I,.nil,h⟩
theorem b_(ha:PE X e te)(hr:PA X es t)(hs:starEach (e::es) X.env=(false,eval e X.env)::starEach es X.env:=by rfl):PA X (e::es) (MR te t):=by
 intro pos ak s Z H Q I h
 rw[hs]
 show wpAny _ _ (spliced ((false,eval e X.env)::backTo pos (starEach es X.env))) _ _ s
 refine aa3 (il (ha ak s Z H _ I h) λu s1 g9=>?_)
 obtain⟨x,H1,I1,r1,q1⟩:=g9
 exact il (hr pos ak s1 Z H1 _ I1 q1) λus s2 ⟨xs,H2,I2,r2,q2⟩=>⟨x::xs,H2,I2,.cons r1 r2,q2⟩
def QF(t:TA):TE:=λZ H Q=>t Z H λxs H1=>xs.length<=sizeLine/\∀p,H1 p=none->Q (.ref p) (upd H1 p (.tup xs))
def QG(t:TA):TE:=λZ H Q=>t Z H λxs H1=>xs.length<=sizeLine/\∀p,H1 p=none->Q (.ref p) (upd H1 p (.lst xs))
theorem B3{x1}(h:PA X es t):PE X (.Tuple es x1 pos) (QF t):=by
 intro ak s Z H Q I hq
 refine wpAny_Tuple_spliced (il (h pos ak s Z H _ I hq) λus s1 g9=>?_)
 obtain⟨xs,H1,I1,r,z,q⟩:=g9
 refine⟨by rw[<-r.length];exact z,?_⟩
 have hf:H1 s1.heap.objs.size=none:=I1.gX.fresh (Q2 _)
 refine⟨.ref s1.heap.objs.size,upd H1 s1.heap.objs.size (.tup xs),I1.laid (t':=s1.toks) (λb u e=>QY _ e) (Q2 _) ?_,rfl,q _ hf⟩
 exact⟨z,us,r,⟨_,WO _ rfl,rfl,_,rfl⟩⟩
theorem jq(h:PA X es t):PE X (.List es pos) (QG t):=by
 intro ak s Z H Q I hq
 refine wpAny_List_spliced (il (h pos ak s Z H _ I hq) λus s1 g9=>?_)
 obtain⟨xs,H1,I1,r,z,q⟩:=g9
 refine⟨by rw[<-r.length];exact z,?_⟩
 have hf:H1 s1.heap.objs.size=none:=I1.gX.fresh (Q2 _)
 refine⟨.ref s1.heap.objs.size,upd H1 s1.heap.objs.size (.lst xs),I1.laid (t':=s1.toks) (λb u e=>QY _ e) (Q2 _) ?_,rfl,q _ hf⟩
 exact⟨z,us,0,r,WO _ rfl⟩
end
abbrev Sp:=List V->Hp->VK->XK->Prop
abbrev B4:=List Env->Hp->Shared->XK->Qqq
structure Ay(P:Program)(w:World)(K:Qqy)(mg:Qqx)(base:Heap)(A:Around)(outer:List Env)(s:Shared)(H:Hp):Prop where
 frames:A.frames=some outer
 mod:Mod K mg base
 bs:∀b o,base.get? b=some o->s.heap.get? b=some o/\H b=none
 Ez:base.objs.size<=s.heap.objs.size
 pC:s.heap.FunFrames base outer
 EA:∀b∈pd outer,H b=none
 gX:og P w H s.heap
 bare:AllBare s.gens
def CE(outer:List Env)(P:Program)(w:World)(H:Hp)(s:Shared)(Q:VK)(u:Value)(s':Shared):Prop:=
 ∃v H',s'.os=s.os/\AllBare s'.gens/\Un (pd outer) [] H H' s.heap s'.heap/\og P w H' s'.heap/\RelV v u/\Q v H'
def CR(CX:B4)(outer:List Env)(P:Program)(w:World)(H:Hp)(s:Shared)(Q:VK)(E:XK)(r:Result)(s':Shared):Prop:=
 match r with
 | .ok (.ret u)=>CE outer P w H s Q u s'
 | .ok _=>False
 | .error e=>CX outer H s E e s'
structure gS(P:Program)(w:World)(K:Qqy)(mg:Qqx)(base:Heap)(CX:B4)(k:Nat)(f:Addr)(fd:FuncData)(ps:List Str)(sp:Sp):Prop where
 len:∀vs H Q E,sp vs H Q E->vs.length=ps.length
 run:∀(A:Around)(outer:List Env)(s:Shared)(H:Hp)(args:Args)(us:List Value)(vs:List V)(Q:VK)(E:XK),jw k A->Ay P w K mg base A outer s H->BindsTo s fd args (ps.zip us)->Vals vs us->sp vs H Q E->
  codeAny (model P w) A (.call (.ref f) args) (CR CX outer P w H s Q E) s
theorem gS.mono{P:Program}{w:World}{K:Qqy}{mg:Qqx}{base:Heap}{CX:B4}{j k:Nat}{f:Addr}{fd:FuncData}{ps:List Str}{sp:Sp}(F:gS P w K mg base CX j f fd ps sp)(h:j<=k) :
 gS P w K mg base CX k f fd ps sp:=⟨F.len,λA outer s H args us vs Q E hr=>F.run A outer s H args us vs Q E (hr.mono h)⟩
theorem Ay.make{P:Program}{w:World}{K:Qqy}{mg:Qqx}{base:Heap}{A:Around}{outer:List Env}{s:Shared}{H:Hp}(e:Ay P w K mg base A outer s H)(C:Addr)(us:List Value)(kw:List (Str×Value)) :
 Ay P w K mg base (A.under (.builtin "type.__call__" ⟨.ref C::us,kw⟩)) outer s H:=⟨by first|exact e.frames|(simpa[Around.under,Code.envs,Code.isFrame,pushEnvs] using e.frames),e.mod,e.bs,e.Ez,e.pC,e.EA,e.gX,e.bare⟩
section
variable{X:Cx}{ak:Qqz}{Z:St}{H:Hp}{s s':Shared}
theorem Inv.Kd(I:Inv X ak Z H s):Ay X.prog X.w X.K X.mg X.base X.A X.stack s H:=
 ⟨I.ok.frames,I.ok.mod,I.bs,aag I.ok.Ez I.sz,I.stack,I.vk,I.gX,I.bare⟩
theorem Inv.after{Q:VK}{u:Value}(I:Inv X ak Z H s)(h:CE X.stack X.prog X.w H s Q u s'):EP X ak Z Q u s':=by
 obtain⟨v,H',os,bare,un,gX,r,q⟩:=h
 obtain⟨hh,g,d,t,NS⟩:=s'
 obtain rfl:NS=s.os:=os
 exact⟨v,H',I.call (h':=hh) (g':=g) (d':=d) (t':=t) (ch:=[]) un gX bare (λb z=>absurd z (by simp)),r,q⟩
end
def ES(sp:Sp)(rY:List V)(E:XK)(t:TA):TE:=λZ H Q=>t Z H λvs H1=>sp (vs++rY) H1 Q E
inductive mK(C:Addr)(m:Str)(x:V)(H:Hp)(R:Prop):Prop
 | mk (a dx:Addr) (fs:List (Str×V)) (_:x=.ref a) (_:H a=some (.ins C dx fs)) (_:fs.lookup m=none) (_:R)
def Az(C:Addr)(m:Str)(sp:Sp)(rY:List V)(E:XK)(ta:TE)(t:TA):TE:=λZ H Q=>ta Z H λx H1=>mK C m x H1 (t Z H1 λvs H2=>sp (x::(vs++rY)) H2 Q E)
def Jd(C:Addr)(sp:Sp)(rY:List V)(E:XK)(t:TA):TE:=λZ H Q=>t Z H λvs H1=>∀x dx,H1 x=none->H1 dx=none->dx≠x->
 sp (.ref x::(vs++rY)) (upd (upd H1 dx (.own x)) x (.ins C dx [])) (λv H2=>v=.iQ/\Q (.ref x) H2) E
def Binds(K:Qqy)(fd:FuncData)(ps:List Str)(ds:List Value):Prop:=
 ∀(s:Shared)(us:List Value),K.In s.heap->(us++ds).length=ps.length->BindsTo s fd ⟨us,[]⟩ (ps.zip (us++ds))
theorem Binds.all{K:Qqy}{fd:FuncData}{ps:List Str}(h:∀us:List Value,us.length=ps.length->bindArgs fd ⟨us,[]⟩=pure (ps.zip us)):Binds K fd ps []:=λs us _ hl=>by
 rw[aaB] at hl ⊢
 exact .of_eq (h us hl)
def Passes(CX:B4)(X:Cx)(E:XK):Prop:=∀(ak:Qqz)(Z:St)(H:Hp)(s:Shared)(e:Value)(s':Shared),Inv X ak Z H s->CX X.stack H s E e s'->X.xe e s'
section
variable{X:Cx}{CX:B4}{k:Nat}{f C:Addr}{fd:FuncData}{ps:List Str}{sp:Sp}{rY:List V}{ds:List Value}{E:XK}{x m:Str}{p pos apos:Pos}{e o:Expr}{es:List Expr}{ta:TE}{t:TA}
theorem B5{ak:Qqz}{Z:St}{H:Hp}{s:Shared}{Q:VK}{us:List Value}{vs:List V}(F:gS X.prog X.w X.K X.mg X.base CX k f fd ps sp)(hr:jw k X.A)(hb:Binds X.K fd ps ds)(hd:Vals rY ds)(hx:Passes CX X E)
  (I:Inv X ak Z H s) (r:Vals vs us) (h:sp (vs++rY) H Q E):wpAny (model X.prog X.w) X.A (call (.ref f) us) (EP X ak Z Q) X.xe s:=by
 have r2:Vals (vs++rY) (us++ds):=r.append hd
 have hl:(us++ds).length=ps.length:=by rw[<-r2.length];exact F.len _ _ _ _ h
 refine wpAny_call (abR (F.run X.A X.stack s H ⟨us,[]⟩ (us++ds) (vs++rY) Q E hr I.Kd (hb s us I.r_ hl) r2 h) λr s' hq=>?_)
 cases r with
 | error e=>exact hx ak Z H s e s' I hq
 | ok fl=>
  cases fl with
  | ret u=>exact I.after hq
  | next=>exact False.elim hq
  | brk=>exact False.elim hq
  | cont=>exact False.elim hq
theorem so(F:gS X.prog X.w X.K X.mg X.base CX k f fd ps sp)(hr:jw k X.A)(hg:Gl X x)(hm:X.mg x=some (.ref f))(hk:W.keepIn X.K (.ref f)=true)(hb:Binds X.K fd ps ds)(hd:Vals rY ds)(hx:Passes CX X E)
  (ha:PA X (e::es) t) (BH:(x ==("__debug__":Str))=false:=by decide) (he:starEach (e::es) X.env=(false,eval e X.env)::starEach es X.env:=by rfl) (n_:(backTo pos (starEach es X.env)).any (·.1)=false:=by rfl) :
  PE X (.Call (.Name x p) (e::es) [] pos) (ES sp rY E t):=by
 intro ak s Z H Q I h
 refine wpAny_Call_Name_kw (qt I hg hm ?_ BH)
 refine W.callWith_K (h₀:=X.base) I.ok.mod.JS hk (il (ha pos ak s Z H _ I h) λus s1 g9=>?_) he n_
 obtain⟨vs,H1,I1,r,q⟩:=g9
 refine⟨I1.r_,?_⟩
 exact B5 F hr hb hd hx I1 r q
theorem C3{pl:Sem Bool}(he:PE X o ta)(c:Ax X.K C)(hm:Meth X.K C m f)(F:gS X.prog X.w X.K X.mg X.base CX k f fd ps sp)(hr:jw k X.A)(hb:Binds X.K fd ps ds)(hd:Vals rY ds)(hx:Passes CX X E)(ha:PA X (e::es) t)
  (yH:starEach (e::es) X.env=(false,eval e X.env)::starEach es X.env:=by rfl) (n_:(backTo pos (starEach es X.env)).any (·.1)=false:=by rfl)
  (ht:eval (.Call (.Attribute o m apos) (e::es) [] pos) X.env=(do
   let ov <-eval o X.env
   standAt apos.atName
   let (f,first) <-holding [ov] (getMethod ov m pl)
   callWith pos f first (backTo pos (starEach (e::es) X.env)) (backToKw pos (keywordEach [] X.env))):=by rfl) :
  PE X (.Call (.Attribute o m apos) (e::es) [] pos) (Az C m sp rY E ta t):=by
 intro ak s Z H Q I h
 refine W.methodCall_KW (pl:=pl) (il (he ak s Z H _ I h) λu s1 g9=>?_) ht
 obtain⟨x,H1,I1,rx,a,dx,fs,ex,ea,l,q⟩:=g9
 subst ex
 obtain rfl:u=Value.ref a:=rx
 refine rD I1 ea c hm l ?_
 refine W.callWith_K (first:=[.ref a]) (h₀:=X.base) I.ok.mod.JS hm.kp (il (ha pos ak s1 Z H1 _ I1 q) λus s2 g9=>?_) yH n_
 obtain⟨vs,H2,I2,r,q2⟩:=g9
 refine⟨I2.r_,?_⟩
 exact B5 (us:=.ref a::us) (vs:=.ref a::vs) F hr hb hd hx I2 (.cons rfl r) q2
theorem vN{pl:Sem Bool}(he:PE X o ta)(c:Ax X.K C)(hm:Meth X.K C m f)(F:gS X.prog X.w X.K X.mg X.base CX k f fd ps sp)(hr:jw k X.A)(hb:Binds X.K fd ps ds)(hd:Vals rY ds)(hx:Passes CX X E)
  (ht:eval (.Call (.Attribute o m apos) [] [] pos) X.env=(do
   let ov <-eval o X.env
   standAt apos.atName
   let (f,first) <-holding [ov] (getMethod ov m pl)
   callWith pos f first (backTo pos (starEach [] X.env)) (backToKw pos (keywordEach [] X.env))):=by rfl) :
  PE X (.Call (.Attribute o m apos) [] [] pos) (Az C m sp rY E ta Kc):=by
 intro ak s Z H Q I h
 refine W.methodCall_KW (pl:=pl) (il (he ak s Z H _ I h) λu s1 g9=>?_) ht
 obtain⟨x,H1,I1,rx,a,dx,fs,ex,ea,l,q⟩:=g9
 subst ex
 obtain rfl:u=Value.ref a:=rx
 refine rD I1 ea c hm l ?_
 exact W.callWith_K0 (first:=[.ref a]) I1.r_ hm.kp (B5 (us:=[.ref a]) (vs:=[.ref a]) F hr hb hd hx I1 (.cons rfl .nil) q)
structure Mk(K:Qqy)(C f:Addr):Prop where
 makes:W.makesIn K C=true
 init:W.findIn K (.ref C) "__init__"=some (some (.ref f))
 fn:W.isFn K (.ref f)=true
 kp:W.keepIn K (.ref C)=true
theorem AA{ak:Qqz}{Z:St}{H:Hp}{s:Shared}{Q:VK}{us:List Value}{vs:List V}(M:Mk X.K C f)(F:gS X.prog X.w X.K X.mg X.base CX k f fd ps sp)(hr:jw (k+1) X.A)(hb:Binds X.K fd ps ds)(hd:Vals rY ds)
  (hx:Passes CX X E) (I:Inv X ak Z H s) (r:Vals vs us)
  (h:∀x dx,H x=none->H dx=none->dx≠x->sp (.ref x::(vs++rY)) (upd (upd H dx (.own x)) x (.ins C dx [])) (λv H2=>v=.iQ/\Q (.ref x) H2) E) :
  wpAny (model X.prog X.w) X.A (call (.ref C) us) (EP X ak Z Q) X.xe s:=by
 have hq:=h (s.heap.objs.size+1) s.heap.objs.size (I.gX.fresh (abS _)) (I.gX.fresh (Q2 _)) (aar (abE _))
 have I2:=Inv.made (C:=C) I
 have r2:Vals (V.ref (s.heap.objs.size+1)::(vs++rY)) (Value.ref (s.heap.objs.size+1)::(us++ds)):=.cons rfl (r.append hd)
 have hl:(Value.ref (s.heap.objs.size+1)::us++ds).length=ps.length:=by
  have e:=r2.length
  rw[F.len _ _ _ _ hq] at e
  exact e.symm
 refine wpAny_call (ER (f:=f) I.r_ M.makes M.init (abD.mp M.fn) (abR (F.run _ X.stack _ _ ⟨Value.ref (s.heap.objs.size+1)::us,[]⟩ (Value.ref (s.heap.objs.size+1)::(us++ds)) _ _ E (hr.make C us [])
  (I2.Kd.make C us []) (hb _ (Value.ref (s.heap.objs.size+1)::us) I2.r_ hl) r2 hq) λr s' NT=>?_))
 cases r with
 | error e=>exact hx ak Z _ _ e s' I2 NT
 | ok fl=>
  cases fl with
  | ret u=>
   obtain⟨v,H',I3,rv,ev,q3⟩:=I2.after NT
   subst ev
   exact⟨rv,⟨V.ref (s.heap.objs.size+1),H',I3,rfl,q3⟩⟩
  | next=>exact False.elim NT
  | brk=>exact False.elim NT
  | cont=>exact False.elim NT
theorem yQ(M:Mk X.K C f)(F:gS X.prog X.w X.K X.mg X.base CX k f fd ps sp)(hr:jw (k+1) X.A)(hg:Gl X x)(hm:X.mg x=some (.ref C))(hb:Binds X.K fd ps ds)(hd:Vals rY ds)(hx:Passes CX X E)
  (ha:PA X (e::es) t) (BH:(x ==("__debug__":Str))=false:=by decide) (he:starEach (e::es) X.env=(false,eval e X.env)::starEach es X.env:=by rfl) (n_:(backTo pos (starEach es X.env)).any (·.1)=false:=by rfl) :
  PE X (.Call (.Name x p) (e::es) [] pos) (Jd C sp rY E t):=by
 intro ak s Z H Q I h
 refine wpAny_Call_Name_kw (qt I hg hm ?_ BH)
 refine W.callWith_K (h₀:=X.base) I.ok.mod.JS M.kp (il (ha pos ak s Z H _ I h) λus s1 g9=>?_) he n_
 obtain⟨vs,H1,I1,r,q⟩:=g9
 refine⟨I1.r_,?_⟩
 exact AA M F hr hb hd hx I1 r q
theorem ET(M:Mk X.K C f)(F:gS X.prog X.w X.K X.mg X.base CX k f fd ps sp)(hr:jw (k+1) X.A)(hg:Gl X x)(hm:X.mg x=some (.ref C))(hb:Binds X.K fd ps ds)(hd:Vals rY ds)(hx:Passes CX X E)
  (BH:(x ==("__debug__":Str))=false:=by decide):PE X (.Call (.Name x p) [] [] pos) (Jd C sp rY E Kc):=by
 intro ak s Z H Q I h
 refine wpAny_Call_Name_kw (qt I hg hm ?_ BH)
 exact W.callWith_K0 I.r_ M.kp (AA (us:=[]) M F hr hb hd hx I .nil h)
end
def PK(X:Cx)(Uu:List Keyword)(t:TA):Prop:=
 ∀(pos:Pos)(ak:Qqz)(s:Shared)(Z:St)(H:Hp)(Q:List V->Hp->Prop),Inv X ak Z H s->t Z H Q->wpAny (model X.prog X.w) X.A (evalAll ((backToKw pos (keywordEach Uu X.env)).map (·.2))) (AP X ak Z Q) X.xe s
section
variable{X:Cx}{CX:B4}{k:Nat}{f C:Addr}{fd:FuncData}{ps ks:List Str}{sp:Sp}{E:XK}{x m:Str}{p pos apos kpos:Pos}{e o:Expr}{es:List Expr}{Uu:List Keyword}{te ta:TE}{t tk:TA}{nm:Option Str}
variable{g:List Value->List Value->List Value}{gV:List V->List V->List V}
end
structure fN(N P:List Str)(sc:Scope):Prop where
 kind:sc.kind=.function
 co:sc.isCoroutine=false
 gen:sc.isGenerator=false
 nd:N.Nodup
 pre:N.take P.length=P
 par:∀x∈P,sc.names.lookup x=some .local\/sc.names.lookup x=some .cell
 Ke:∀y∈sc.names,y.2≠.free
theorem x8{kindOf:Str->Option NameKind}{x:Str}:∀{binds:List (Str×Value)} {m:Qqx},(∀v,(x,v)∉binds)->bindL kindOf binds m x=m x
 | [],_,_=>rfl
 | (n,v)::r,m,h=>by
  unfold bindL
  rw[x8 λw hw=>h w (Uk _ hw)]
  split
  ·have:x≠n:=by rintro rfl;exact h v aae
   simp[this]
  ·rfl
theorem x9{kindOf:Str->Option NameKind}{x:Str}:∀{binds:List (Str×Value)} {m:Qqx},(∀v,(x,v)∉binds)->bindC kindOf binds m x=m x
 | [],_,_=>rfl
 | (n,v)::r,m,h=>by
  unfold bindC
  rw[x9 λw hw=>h w (Uk _ hw)]
  split
  ·rfl
  ·have:x≠n:=by rintro rfl;exact h v aae
   simp[this]
theorem x_{kindOf:Str->Option NameKind}{x:Str}{v:Value}:∀{P:List Str} {vs:List Value} {i:Nat} {m:Qqx},P.Nodup->P[i]?=some x->vs[i]?=some v->kindOf x=some .local->
  bindL kindOf (P.zip vs) m x=some v
 | [],_,_,_,_,h,_,_=>by simp at h
 | _::_,[],_,_,_,_,h,_=>by simp at h
 | p::P,w::vs,0,m,nd,h1,h2,hk=>by
  simp at h1 h2;subst h1;subst h2
  show bindL kindOf ((p,w)::P.zip vs) m p=_
  unfold bindL
  rw[x8 λv hv=>(aaM.mp nd).1 (List.of_mem_zip hv).1,aah hk]
  simp
 | p::P,w::vs,i+1,m,nd,h1,h2,hk=>by
  show bindL kindOf ((p,w)::P.zip vs) m x=_
  unfold bindL
  exact x_ (i:=i) (aaM.mp nd).2 (by simpa using h1) (by simpa using h2) hk
theorem ya{kindOf:Str->Option NameKind}{x:Str}{v:Value}:∀{P:List Str} {vs:List Value} {i:Nat} {m:Qqx},P.Nodup->P[i]?=some x->vs[i]?=some v->kindOf x≠some .local->
  bindC kindOf (P.zip vs) m x=some v
 | [],_,_,_,_,h,_,_=>by simp at h
 | _::_,[],_,_,_,_,h,_=>by simp at h
 | p::P,w::vs,0,m,nd,h1,h2,hk=>by
  simp at h1 h2;subst h1;subst h2
  show bindC kindOf ((p,w)::P.zip vs) m p=_
  unfold bindC
  rw[x9 λv hv=>(aaM.mp nd).1 (List.of_mem_zip hv).1,aab hk]
  simp
 | p::P,w::vs,i+1,m,nd,h1,h2,hk=>by
  show bindC kindOf ((p,w)::P.zip vs) m x=_
  unfold bindC
  exact ya (i:=i) (aaM.mp nd).2 (by simpa using h1) (by simpa using h2) hk
def start(N:List Str)(vs:List V):St:=vs.map some++List.replicate (N.length-vs.length) none
def tP(CX:B4)(P:Program)(w:World)(K:Qqy)(mg:Qqx)(base:Heap)(N:List Str)(qual:Str)(scope:Scope)(f:Addr)(cd:Value)(A:Around)(outer:List Env)(s:Shared)(H:Hp)(E:XK):Cx where
 prog:=P
 w:=w
 K:=K
 mg:=mg
 base:=base
 A:=A.deeper (envOfC qual scope s.heap.objs.size f cd)
 N:=N
 s₀:=s
 H₀:=H
 env:=envOfC qual scope s.heap.objs.size f cd
 outer:=outer
 stack:=envOfC qual scope s.heap.objs.size f cd::outer
 ex:=[]
 calm:=true
 fn:=λ_=>true
 pn:=[]
 xe:=λe s'=>wpAny (model P w) (A.deeper (envOfC qual scope s.heap.objs.size f cd)) (leaving (envOfC qual scope s.heap.objs.size f cd) e) (λ_ CP=>CX outer H s E e CP) (λe' CP=>CX outer H s E e' CP) s'
theorem AB{sc:Scope}{n:Nat}{x:Str}(h:sc.names.lookup x=some .cell):∃c,(cellsFrom n sc.names []).lookup x=some c:=by
 have q:=W.cellsFrom_some sc.names n [] (.inl h)
 exact Option.isSome_iff_exists.mp q
theorem DJ{CX:B4}{P:Program}{w:World}{K:Qqy}{mg:Qqx}{base:Heap}{N ps:List Str}{qual:Str}{scope:Scope}{f:Addr}{cd:Value}{A:Around}{outer:List Env}{s s1:Shared}{H:Hp}{E:XK}{us:List Value}{vs:List V}
  (S:fN N ps scope) (hd:A.handled=none) (e0:Ay P w K mg base A outer s H) (hl:vs.length=ps.length) (r:Vals vs us)
  (x:InCallC s s.heap.objs.size (bindL (envOfC qual scope s.heap.objs.size f cd).kindOf (ps.zip us) λ_=>none) (cellsFrom (s.heap.objs.size+1) scope.names []) (bindC (envOfC qual scope s.heap.objs.size f cd).kindOf (ps.zip us) λ_=>none) s1) :
  Inv (tP CX P w K mg base N qual scope f cd A outer s H E) [] (start N vs) H s1:=by
 have n_:ps.length<=N.length:=by have:=aaT List.length S.pre;rw[aaE] at this;omega
 obtain⟨h1,tk,rfl,hk⟩:=x.done
 have NU:∀b:Addr,b∉(tP CX P w K mg base N qual scope f cd A outer s H E).ex:=λb z=>absurd (show b∈([]:List Addr) from z) (by simp)
 refine⟨⟨e0.mod,S.kind,rfl,rfl,Q2 _,λy z c h1 h2=>?_,λy hy=>?_,λy c _ h=>?_,λ_=>hd,Around.frames_deeper e0.frames,.inr ⟨rfl,rfl⟩,λb z=>absurd z (NU b),e0.bs,e0.Ez,λb _ _=>NU b,λb z=>absurd z (NU b),e0.pC,e0.EA⟩,
  rfl,e0.bare,Un.kept hk,⟨_,x.toInCall.ns,λi y v h1 h2 h3=>?_⟩,λy c h=>⟨_,x.cell y c h⟩,e0.gX.fresh (Q2 _),λy c h=>?_,λp hp=>absurd (show p∈([]:Qqz) from hp) (by simp),e0.gX.kept hk,?_⟩
 ·exact name_of_addr x.apart (abl h1) (abl h2)
 ·have hy:scope.names.lookup y=some .cell\/scope.names.lookup y=some .free:=hy
  rcases hy with hy|hy
  ·exact AB hy
  ·exact absurd rfl (S.Ke _ (abl hy))
 ·exact Nat.le_of_lt (x.above y c (abl h))
 ·have hi:i<vs.length:=by
   unfold start at h2
   by_cases hi:i<vs.length
   ·exact hi
   ·rw[abh (by simpa using hi)] at h2
    rw[List.getElem?_replicate] at h2
    split at h2<;>cases h2
  have ha:vs[i]?=some v:=by
   unfold start at h2
   rw[abH (by simpa using hi),W3] at h2
   cases e:vs[i]? with
   | none=>rw[e] at h2;cases h2
   | some a=>rw[e] at h2;cases h2;rfl
  obtain⟨u,hu,rv⟩:=r.get ha
  have hp:ps[i]?=some y:=by
   rw[<-S.pre,List.getElem?_take_of_lt (by omega)];exact h1
  have Uv:ps.Nodup:=by rw[<-S.pre];exact S.nd.sublist (ab8 _ _)
  refine⟨u,rv,?_⟩
  rcases S.par y (Um hp) with k|k
  ·exact .inl ⟨k,x_ Uv hp hu k⟩
  ·obtain⟨c,e⟩:=AB (n:=s.heap.objs.size+1) k
   refine .inr ⟨.inl k,c,e,?_⟩
   have q:=x.cell y c e
   rw[ya Uv hp hu (by show scope.names.lookup y≠_;rw[k];decide)] at q
   exact q
 ·exact e0.gX.fresh (Nat.le_of_lt (x.above y c (abl h)))
 ·unfold start
  show _=N.length
  rw[RX,Ou,List.length_replicate]
  omega
theorem Je{CX:B4}{P:Program}{w:World}{K:Qqy}{mg:Qqx}{base:Heap}{k:Nat}{f:Addr}{name qual:Str}{params:Arguments}{body:List Stmt}{scope:Scope}{dV kV doc pm jm ct oc:Value}{an od:Option Addr}
  {EC:Array (Option Value)} {N ps:List Str} {sp:Sp} (lk:K.lookup f=some ⟨oc,od,.func (W.fnOf name qual params body scope dV kV doc pm an jm ct),EC⟩) (yG:W.codeIn K jm qual=true) (S:fN N ps scope)
  (len:∀vs H Q E,sp vs H Q E->vs.length=ps.length)
  (tG:∀(A:Around)(outer:List Env)(s:Shared)(H:Hp)(vs:List V)(Q:VK)(E:XK),jw k (A.deeper (envOfC qual scope s.heap.objs.size f jm))->sp vs H Q E->
   ∃t,Am (tP CX P w K mg base N qual scope f jm A outer s H E) body t/\t {nx:=λ_ H'=>Q .iQ H',rt:=Q} (start N vs) H) :
  gS P w K mg base CX (k+1) f (W.fnOf name qual params body scope dV kV doc pm an jm ct) ps sp:=by
 refine⟨len,λA outer s H args us vs Q E hr e0 hb r G_=>?_⟩
 have hl:=len _ _ _ _ G_
 have KX:K.In s.heap:=e0.mod.JS.keeps λb o e=>(e0.bs b o e).1
 have lim:s.heap.NoLimit:=e0.mod.nolimit.keeps λb o e=>(e0.bs b o e).1
 have NV:∀y∈ps.zip us,scope.names.lookup y.1=some .local\/(scope.names.lookup y.1=some .cell/\((cellsFrom (s.heap.objs.size+1) scope.names []).lookup y.1).isSome=true):=λ⟨n,v⟩ hy=>by
  rcases S.par n (List.of_mem_zip hy).1 with q|q
  ·exact .inl q
  ·exact .inr ⟨q,W.cellsFrom_some _ _ _ (.inl q)⟩
 refine codeAny_call_function hr.depth (KX _ _ lk) rfl S.co S.gen rfl (W.codeRec_of KX yG) (hb _ _ _ _ ?_)
 refine wpAny_newFunctionEnv_cells S.kind NV λenv he s1 x=>?_
 subst he
 refine⟨lim.keeps x.toInCall.keep,codeAny_func ?_⟩
 obtain⟨t,ht,hq⟩:=tG A outer s H vs Q E (hr.deeper _) G_
 have I:Inv (tP CX P w K mg base N qual scope f jm A outer s H E) [] (start N vs) H s1:=DJ S hr.hd e0 hl r x
 refine abg (ht [] s1 (start N vs) H _ I hq) (λfl s' hs=>?_) λe s' hs=>hs
 have fin:∀{Z':St} {H':Hp} {v:V} {u:Value},Inv (tP CX P w K mg base N qual scope f jm A outer s H E) [] Z' H' s'->RelV v u->Q v H'->CE outer P w H s Q u s':=
  λ{Z' H' v u} J rv q=>⟨v,H',J.os,J.bare,J.base,J.gX,rv,q⟩
 cases fl with
 | ret u=>
  obtain⟨v,Z',H',J,rv,q⟩:=hs
  exact fin J rv q
 | next=>
  obtain⟨Z',H',J,q⟩:=hs
  exact fin (v:=V.iQ) (u:=Value.none) J rfl q
 | brk=>
  obtain⟨_,_,_,q⟩:=hs
  exact False.elim q
 | cont=>
  obtain⟨_,_,_,q⟩:=hs
  exact False.elim q
section
variable{X:Cx}{x:Str}{p pos:Pos}{e:Expr}{es:List Expr}{t:TA}{id T:String}{r:List V->Hp->VK->Prop}
def Ub(r:List V->Hp->VK->Prop)(t:TA):TE:=λZ H Q=>t Z H λvs H1=>r vs H1 Q
theorem hU(hc:qR X (.builtin id) r)(hg:Gl X x)(hm:X.mg x=none)(hv:bootBuiltins x=some (.builtin id))(ha:PA X (e::es) t)(hn:x≠"__name__":=by decide)(BH:(x ==("__debug__":Str))=false:=by decide)
  (he:starEach (e::es) X.env=(false,eval e X.env)::starEach es X.env:=by rfl) (n_:(backTo pos (starEach es X.env)).any (·.1)=false:=by rfl):PE X (.Call (.Name x p) (e::es) [] pos) (Ub r t):=by
 intro ak s Z H Q I h
 refine wpAny_Call_Name_kw (lr I hg hm hv ?_ hn BH)
 exact PyProof.Rows.callWith_builtin1 (il (ha pos ak s Z H _ I h) λus s1 ⟨vs,H1,I1,r1,q1⟩=>hc ak s1 Z H1 vs us Q I1 r1 q1) he n_
theorem qv(hc:qR X (.type T) r)(hg:Gl X x)(hm:X.mg x=none)(hv:bootBuiltins x=some (.type T))(ha:PA X (e::es) t)(hn:x≠"__name__":=by decide)(BH:(x ==("__debug__":Str))=false:=by decide)
  (he:starEach (e::es) X.env=(false,eval e X.env)::starEach es X.env:=by rfl) (n_:(backTo pos (starEach es X.env)).any (·.1)=false:=by rfl):PE X (.Call (.Name x p) (e::es) [] pos) (Ub r t):=by
 intro ak s Z H Q I h
 refine wpAny_Call_Name_kw (lr I hg hm hv ?_ hn BH)
 exact aaG (il (ha pos ak s Z H _ I h) λus s1 ⟨vs,H1,I1,r1,q1⟩=>hc ak s1 Z H1 vs us Q I1 r1 q1) he n_
end
end L2
namespace HT
open PySem PyProof.Rows
section
open PySem.SeqAt
open PySem.AutoSeq1 (wpAny_loadPart')
open PySem.MeetsSeq PySem.MeetsSeq2 PySem.MeetsSeq3
end
section
variable{prog:Program}{w:World}{A:Around}{E:Qqq}{s:Shared}
end
end HT
namespace L2
open PySem PySem.Spec PyProof.Rows
abbrev TO:=St->Hp->(Option Int->Hp->Prop)->Prop
section
variable{X:Cx}{e:Expr}{te:TE}{lo hi:Option Expr}{tl th:TO}{pos p2:Pos}
end
noncomputable def EU(n:Nat)(i:Int):Option Nat:=if 0<=i then(if i<n then some i.toNat else none) else if -(n:Int)<=i then some (i+n).toNat else none
noncomputable def DK{Z:Type}(xs:List Z)(i:Int):Option Z:=(EU xs.length i).bind λj=>xs[j]?
theorem C4{n:Nat}{i:Int}{j:Nat}(h:EU n i=some j):seqIndex? i n=some j/\j<n/\-(n:Int)<=i/\i<n:=by
 unfold EU at h
 by_cases h0:0<=i
 ·rw[aah h0] at h
  by_cases h1:i<n
  ·rw[aah h1] at h
   have e:i.toNat=j:=aaf h
   exact⟨by rw[seqIndex_of h0 h1,e],by omega,by omega,h1⟩
  ·rw[aab h1] at h;cases h
 ·rw[aab h0] at h
  by_cases h1:-(n:Int)<=i
  ·rw[aah h1] at h
   have e:(i+n).toNat=j:=aaf h
   exact⟨by rw[seqIndex_neg (by omega) h1,e],by omega,h1,by omega⟩
  ·rw[aab h1] at h;cases h
theorem yR{Z:Type}{xs:List Z}{i:Int}{v:Z}(h:DK xs i=some v):∃j,seqIndex? i xs.length=some j/\xs[j]?=some v/\j<xs.length/\-(xs.length:Int)<=i/\i<xs.length:=by
 unfold DK at h
 cases e:EU xs.length i with
 | none=>rw[e] at h;cases h
 | some j=>
  rw[e] at h
  obtain⟨h1,h2,h3,h4⟩:=C4 e
  exact⟨j,h1,h,h2,h3,h4⟩
theorem Hn{Z:Type}{xs:List Z}{j:Nat}{v:Z}(h:xs[j]?=some v):DK xs (j:Int)=some v:=by
 have hj:j<xs.length:=(List.getElem?_eq_some_iff.mp h).1
 have e:EU xs.length (j:Int)=some j:=by
  unfold EU
  rw[aah (by omega),aah (by omega)];simp
 unfold DK;rw[e];exact h
theorem vO{Z:Type}(xs:List Z)(v:Z):DK (xs++[v]) (-1)=some v:=by
 have hl:(xs++[v]).length=xs.length+1:=by simp
 have e:EU (xs++[v]).length (-1)=some xs.length:=by
  unfold EU
  rw[hl,aab (by decide),aah (by omega)]
  congr 1
  omega
 unfold DK
 rw[e]
 show(xs++[v])[xs.length]?=some v
 simp
def C5(b:Expr):Prop:=∀o i,subscripted b false o i=operate [o,i] (getItem o i)
def Pq(X:Cx)(r:R2):Prop:=
 ∀(value slice:Expr)(ak:Qqz)(s:Shared)(Z:St)(H:Hp)(x y:V)(v u:Value)(Q:VK),Inv X ak Z H s->RelV x v->RelV y u->r x y H Q->
  subscripted slice false v u=operate [v,u] (getItem v u)->wpAny (model X.prog X.w) X.A (subscriptTail value slice v u) (EP X ak Z Q) X.xe s
def Uc(X:Cx)(id:String)(r:V->List V->Hp->VK->Prop):Prop:=
 ∀(ak:Qqz)(s:Shared)(Z:St)(H:Hp)(x:V)(xs:List V)(v:Value)(us:List Value)(Q:VK),Inv X ak Z H s->RelV x v->Vals xs us->r x xs H Q->
  wpAny (model X.prog X.w) X.A (call (.builtin id) (v::us)) (EP X ak Z Q) X.xe s
section
variable{X:Cx}{a b:Expr}{ta tb:TE}{pos:Pos}
theorem k_{r:R2}(hr:Pq X r)(ha:PE X a ta)(hb:PE X b tb)(hs:C5 b):PE X (.Subscript a b pos) (ML r ta tb):=by
 intro ak s Z H Q I h
 exact Subscript_ (J6 ha hb I h λv u s2 x y H2 I2 rx ry q=>hr a b ak s2 Z H2 x y v u Q I2 rx ry q (hs _ _))
inductive MS(K:Qqy)(x:V)(y:V)(H:Hp)(Q:VK):Prop
 | mk (p xs i v) (_:x=.ref p) (_:y=.int i) (_:gP K H p xs) (_:DK xs i=some v) (_:Q v H)
inductive QH(K:Qqy)(x:V)(y:V)(H:Hp)(Q:VK):Prop
 | mk (p xs i v) (_:x=.ref p) (_:y=.int i) (_:xy K H p xs) (_:DK xs i=some v) (_:Q v H)
noncomputable def QI:R2:=λx y H Q=>∃z i c,x=.str z/\y=.int i/\z.length<=sizeLine/\DK z.cps.toList i=some c/\Q (.str ⟨#[c]⟩) H
theorem jK:Pq X (MS X.K):=by
 intro value slice ak s Z H x y v u Q I rx ry h hs
 obtain⟨p,xs,i,z,rfl,rfl,hq,he,q⟩:=h
 cases rx
 obtain⟨t,rfl⟩:=ry
 obtain⟨fW,r,pl,hz⟩:=I.list hq
 obtain⟨j,h1,h2,h3,h4,h5⟩:=yR he
 obtain⟨w,ew,BI⟩:=r.get h2
 have hl:=r.length
 have hn:=rC
 have fin:EP X ak Z Q w s:=⟨z,H,I,BI,q⟩
 by_cases h0:0<=i
 ·have hj:i.toNat=j:=by
   rw[seqIndex_of h0 h5] at h1
   exact aaf h1
  exact item_listR pl.isList h0 (by omega) (by rw[hj];simpa using ew) fin hs
 ·have hj:(i+(fW.toArray.size:Int)).toNat=j:=by
   rw[seqIndex_neg (by omega) h4] at h1
   rw[WZ,<-hl]
   exact aaf h1
  exact subscriptTail_builtinR (x:=w) pl.isList.typeIs slot_list_getitem.lookup
   (wpAny_getItem_list_neg (Q:=λr s'=>r=w/\EP X ak Z Q r s') pl.isList (by omega) (by rw[WZ]<;>omega) (by omega) (by rw[hj];simpa using ew) ⟨rfl,fin⟩) hs
theorem EV:Pq X (QH X.K):=by
 intro value slice ak s Z H x y v u Q I rx ry h hs
 obtain⟨p,xs,i,z,rfl,rfl,hq,he,q⟩:=h
 cases rx
 obtain⟨t,rfl⟩:=ry
 obtain⟨fW,r,pl,hz⟩:=I.tuple hq
 obtain⟨j,h1,h2,h3,h4,h5⟩:=yR he
 obtain⟨w,ew,BI⟩:=r.get h2
 have hl:=r.length
 have hn:=rC
 have fin:EP X ak Z Q w s:=⟨z,H,I,BI,q⟩
 exact subscriptTail_builtinR (x:=w) pl.typeIs slot_tuple_getitem.lookup
  (getItem_tuple (j:=j) (Q:=λr s'=>r=w/\EP X ak Z Q r s') pl (by omega) (by omega) (by rw[WZ,<-hl];exact h1) (by simpa using ew) ⟨rfl,fin⟩) hs
theorem EW:Pq X QI:=by
 intro value slice ak s Z H x y v u Q I rx ry h hs
 obtain⟨z,i,c,rfl,rfl,hz,he,q⟩:=h
 obtain⟨t,rfl⟩:=rx
 obtain⟨t',rfl⟩:=ry
 obtain⟨j,h1,h2,h3,h4,h5⟩:=yR he
 have hl:z.cps.toList.length=z.length:=by simp[Str.length]
 rw[hl] at h1 h4 h5
 have hn:=rC
 exact tail_any (typeIs_str s z t) slot_str_getitem.lookup (getItem_str (c:=c) (by
  have e1:decide (i < -(2 ^ 63:Int))=false:=aaa (by omega)
  have e2:decide (i>=2 ^ 63)=false:=aaa (by omega)
  rw[e1,e2,Bool.or_false]) (by rw[h1];simpa using h2) ⟨.str ⟨#[c]⟩,H,I.tok _,⟨_,rfl⟩,q⟩) hs
theorem B6(fW:List Value)(n j:Nat)(u:Value):Obj.mapSeq (·.setIfInBounds j u) {cls:=.type "list",data:=.seq fW.toArray n}={cls:=.type "list",data:=.seq (fW.set j u).toArray n}:=by
 simp[Obj.mapSeq]
theorem Inv.lst{ak:Qqz}{Z:St}{H:Hp}{s:Shared}{p:Addr}{xs:List V}(I:Inv X ak Z H s)(h:H p=some (.lst xs)) :
  ∃(fW:List Value)(n:Nat),Vals xs fW/\s.heap.get? p=some {cls:=.type "list",data:=.seq fW.toArray n}/\xs.length<=sizeLine:=by
 obtain⟨z,fW,n,r,e⟩:=I.gX p _ h
 exact⟨fW,n,r,e,z⟩
theorem Inv.Kf{ak:Qqz}{Z:St}{H:Hp}{s:Shared}{p:Addr}{xs ys:List V}{fW its':List Value}{n n':Nat}{f:Obj->Obj}(I:Inv X ak Z H s)(h:H p=some (.lst xs))
  (ho:s.heap.get? p=some {cls:=.type "list",data:=.seq fW.toArray n}) (hf:f {cls:=.type "list",data:=.seq fW.toArray n}={cls:=.type "list",data:=.seq its'.toArray n'}) (r:Vals ys its') (hz:ys.length<=sizeLine) (t:Nat) :
  Inv X ak Z (upd H p (.lst ys)) {s with heap:=s.heap.update p f,toks:=t}:=by
 have e:(s.heap.update p f).get? p=some {cls:=.type "list",data:=.seq its'.toArray n'}:=by
  rw[aaI f ho (by rw[hf]<;>rfl),hf]
 refine I.write (x:=p) (e:=p) (by rw[h];trivial) (.inl rfl) (λb u hb q=>(aa6 _ _ (abz hb)).trans q) ⟨_,e⟩ ?_
 exact⟨hz,its',n',r,e⟩
inductive MT(o:V)(i:V)(v:V)(H:Hp)(Q:Hp->Prop):Prop
 | mk (p xs k j) (_:o=.ref p) (_:i=.int k) (_:H p=some (.lst xs)) (_:EU xs.length k=some j) (_:Q (upd H p (.lst (xs.set j v))))
theorem set_list:MF X MT:=by
 intro ak s Z H o i v ov iv u Q I ro ri rv h
 obtain⟨p,xs,k,j,rfl,rfl,hp,hj,q⟩:=h
 cases ro
 obtain⟨t,rfl⟩:=ri
 obtain⟨fW,n,r,ho,hz⟩:=I.lst hp
 obtain⟨h1,h2,h3,h4⟩:=C4 hj
 have hl:=r.length
 have hn:=rC
 have I':Inv X ak Z (upd H p (.lst (xs.set j v))) {s with heap:=s.heap.update p (Obj.mapSeq (·.setIfInBounds j u))}:=
  I.Kf hp ho (B6 fW n j u) (r.set rv j) (by rw[aci];exact hz) s.toks
 by_cases h0:0<=k
 ·have hk:k.toNat=j:=by
   rw[seqIndex_of h0 h4] at h1
   exact aaf h1
  exact W.ki_setAt ho h0 (by omega) (by rw[WZ,<-hl];exact h4) (by rw[hk];exact⟨_,I',q⟩)
 ·have hk:(k+(fW.toArray.size:Int)).toNat=j:=by
   rw[seqIndex_neg (by omega) h3] at h1
   rw[WZ,<-hl]
   exact aaf h1
  exact W.ki_setBack ho (by omega) (by rw[WZ,<-hl];exact h3) (by omega) (by rw[hk];exact⟨_,I',q⟩)
def pF:V->Bool
 | .iQ=>true
 | .bl _=>true
 | .int _=>true
 | .str _=>true
 | _=>false
noncomputable def MU:V->V->Bool
 | .iQ,.iQ=>true
 | .bl a,.bl b=>a ==b
 | .bl a,.int b=>(if a then 1 else 0) ==b
 | .int a,.bl b=>a ==(if b then 1 else 0)
 | .int a,.int b=>a ==b
 | .str a,.str b=>a ==b
 | _,_=>false
theorem Kg{A:Around}{s:Shared}{y x:V}{u v:Value}(ry:RelV y u)(rx:RelV x v)(fy:pF y=true)(fx:pF x=true):SeqAt.EqAt A s u v (MU y x):=by
 cases y with
 | iQ=>
  cases ry
  cases x with
  | iQ=>cases rx;exact SeqAt.EqAt.same _
  | bl b=>cases rx;exact SeqAt.EqAt.none_bool b
  | int b=>obtain⟨t,rfl⟩:=rx;exact SeqAt.EqAt.none_int b t
  | str b=>obtain⟨t,rfl⟩:=rx;exact SeqAt.EqAt.none_str b t
  | _=>exact absurd (show false=true from fx) WV
 | bl a=>
  cases ry
  cases x with
  | iQ=>cases rx;exact SeqAt.EqAt.bool_none a
  | bl b=>cases rx;exact SeqAt.EqAt.bool_bool a b
  | int b=>obtain⟨t,rfl⟩:=rx;exact SeqAt.EqAt.bool_int a b t
  | str b=>obtain⟨t,rfl⟩:=rx;exact SeqAt.EqAt.bool_str a b t
  | _=>exact absurd (show false=true from fx) WV
 | int a=>
  obtain⟨t',rfl⟩:=ry
  cases x with
  | iQ=>cases rx;exact SeqAt.EqAt.int_none a t'
  | bl b=>cases rx;exact SeqAt.EqAt.int_bool a t' b
  | int b=>obtain⟨t,rfl⟩:=rx;exact SeqAt.EqAt.int_int a t' b t
  | str b=>obtain⟨t,rfl⟩:=rx;exact SeqAt.EqAt.int_str a t' b t
  | _=>exact absurd (show false=true from fx) WV
 | str a=>
  obtain⟨t',rfl⟩:=ry
  cases x with
  | iQ=>cases rx;exact SeqAt.EqAt.str_none a t'
  | bl b=>cases rx;exact SeqAt.EqAt.str_bool a t' b
  | int b=>obtain⟨t,rfl⟩:=rx;exact SeqAt.EqAt.str_int a t' b t
  | str b=>obtain⟨t,rfl⟩:=rx;exact SeqAt.EqAt.str_str a t' b t
  | _=>exact absurd (show false=true from fx) WV
 | _=>exact absurd (show false=true from fy) WV
theorem gR:qR X (.builtin "len") (λxs H Q=>∃p ys,xs=[.ref p]/\(gP X.K H p ys\/xy X.K H p ys)/\Q (.int ys.length) H):=by
 intro ak s Z H xs us Q I r h
 obtain⟨p,ys,rfl,hq,q⟩:=h
 obtain⟨u,rfl,rx⟩:=vals1 r
 cases rx
 have hn:=rC
 rcases hq with hq|hq
 ·obtain⟨fW,r',pl,hz⟩:=I.list hq
  have hlen:=r'.length
  exact Calls.call_len_list pl.isList (by simp only [WZ]<;>omega) ⟨.int ys.length,H,I.tok _,⟨s.toks+1,by rw[WZ,hlen]⟩,q⟩
 ·obtain⟨fW,r',pl,hz⟩:=I.tuple hq
  have hlen:=r'.length
  exact len_tuple pl (by simp only [WZ]<;>omega) ⟨.int ys.length,H,I.tok _,⟨s.toks+1,by rw[WZ,hlen]⟩,q⟩
theorem yS:qR X (.builtin "len") (λxs H Q=>∃z,xs=[.str z]/\z.length<=sizeLine/\Q (.int z.length) H):=by
 intro ak s Z H xs us Q I r h
 obtain⟨z,rfl,hz,q⟩:=h
 obtain⟨u,rfl,t,rfl⟩:=vals1 r
 have hn:=rC
 exact len_str (by omega) ⟨.int z.length,H,I.tok _,⟨_,rfl⟩,q⟩
theorem yT:qR X (.type "list") (λxs H Q=>∃p ys,xs=[.ref p]/\(gP X.K H p ys\/xy X.K H p ys)/\∀l,H l=none->Q (.ref l) (upd H l (.lst ys))):=by
 intro ak s Z H xs us Q I r h
 obtain⟨p,ys,rfl,hq,q⟩:=h
 obtain⟨u,rfl,rx⟩:=vals1 r
 cases rx
 have fin:∀(fW:List Value),Vals ys fW->ys.length<=sizeLine->∀(h':Heap)(c':Nat),(∀b o',s.heap.get? b=some o'->h'.get? b=some o')->
   h'.get? s.heap.objs.size=some {cls:=.type "list",dict:=none,data:=.seq fW.toArray c',slots:=#[]}->EP X ak Z Q (.ref s.heap.objs.size) {s with heap:=h'}:=λfW r' hz h' c' kp e=>
  ⟨.ref s.heap.objs.size,_,I.laid (t':=s.toks) kp (Q2 _) (show ia X.prog X.w _ h' _ (.lst ys) from ⟨hz,fW,c',r',e⟩),rfl,q _ (I.gX.fresh (Q2 _))⟩
 rcases hq with hq|hq
 ·obtain⟨fW,r',pl,hz⟩:=I.list hq
  have hlen:=r'.length
  obtain⟨o,ho,hc,n,hd⟩:=pl.isList
  exact call_list_seq p (.inl rfl) ho hc hd (λh' c' kp e=>fin fW r' hz h' c' kp e) (by simp only [WZ]<;>omega)
 ·obtain⟨fW,r',pl,hz⟩:=I.tuple hq
  have hlen:=r'.length
  obtain⟨o,ho,hc,n,hd⟩:=pl
  exact call_list_seq p (.inr rfl) ho hc hd (λh' c' kp e=>fin fW r' hz h' c' kp e) (by simp only [WZ]<;>omega)
def QJ(K:Qqy)(T:String)(x:V)(H:Hp):Prop:=match x with
 | .str _=>T="str"
 | .int _=>T="int"
 | .ref p=>(T="list"/\∃xs,gP K H p xs)\/(T="tuple"/\∃o,K.lookup p=some o/\o.cls=.type "tuple"/\o.dict=none)\/
  (T="dict"/\((∃kvs,H p=some (.dK kvs))\/∃kvs,H p=some (.dT kvs)))\/(T="set"/\∃S n,H p=some (.set S n))
 | _=>False
theorem EY{ak:Qqz}{Z:St}{H:Hp}{s:Shared}{T:String}{x:V}{v:Value}(I:Inv X ak Z H s)(r:RelV x v)(ty:QJ X.K T x H) :
  s.TypeIs v T/\∀a,v=.ref a->∃ob,s.heap.get? a=some ob/\ob.dict=none:=by
 cases x with
 | str z=>
  obtain⟨t,rfl⟩:=r
  cases (show T="str" from ty)
  exact⟨typeIs_str s z t,λ_ e=>nomatch e⟩
 | int i=>
  obtain⟨t,rfl⟩:=r
  cases (show T="int" from ty)
  exact⟨typeIs_int s i t,λ_ e=>nomatch e⟩
 | ref p=>
  cases r
  rcases ty with⟨rfl,xs,hq⟩|⟨rfl,o,hk,hc,hd⟩|⟨rfl,hk⟩|⟨rfl,S,n,hk⟩
  ·obtain⟨fW,_,pl,_⟩:=I.list hq
   refine⟨pl.isList.typeIs,λa e=>?_⟩
   cases e
   obtain⟨o,n,e,c,hd,_⟩:=pl
   exact⟨o,e,hd⟩
  ·refine⟨⟨o,I.r_ p o hk,hc⟩,λa e=>?_⟩
   cases e
   exact⟨o,I.r_ _ o hk,hd⟩
  ·have z:∃o,s.heap.get? p=some o/\o.ExactDict:=by
    rcases hk with⟨kvs,hk⟩|⟨kvs,hk⟩
    ·obtain⟨_,_,_,_,o,_,_,e,ex,_⟩:=I.gX p _ hk
     exact⟨o,e,ex⟩
    ·obtain⟨_,_,_,_,o,_,_,e,ex,_⟩:=I.gX p _ hk
     exact⟨o,e,ex⟩
   obtain⟨o,e,ex⟩:=z
   refine⟨⟨o,e,ex.1⟩,λa e2=>?_⟩
   cases e2
   exact⟨o,e,ex.2.1⟩
  ·obtain⟨o,_,_,_,e,ex,_⟩:=I.gX p _ hk
   refine⟨⟨o,e,ex.1⟩,λa e2=>?_⟩
   cases e2
   exact⟨o,e,ex.2.1⟩
 | _=>exact False.elim ty
def QK(K:Qqy)(T:String)(r:V->List V->Hp->VK->Prop)(to:TE):TE:=λZ H Q=>to Z H λx H1=>QJ K T x H1/\r x [] H1 Q
def WN(K:Qqy)(T:String)(r:V->List V->Hp->VK->Prop)(to:TE)(t:TA):TE:=λZ H Q=>to Z H λx H1=>QJ K T x H1/\t Z H1 λxs H2=>r x xs H2 Q
variable{o e:Expr}{es:List Expr}{to:TE}{t:TA}{name:Str}{apos j2:Pos}{T id:String}{r:V->List V->Hp->VK->Prop}
theorem Kh(pa:PlainAttrs T)(slot:Slot T name id)(NW:typeOf (.builtin id)=pure (.type "method_descriptor"))(hm:Uc X id r)(ho:PE X o to)
  (Gz:attributeBase o name X.env (eval o X.env)=eval o X.env:=by rfl) (GA:(apos.endLine ==j2.line)=true:=by rfl):PE X (.Call (.Attribute o name apos) [] [] j2) (QK X.K T r to):=by
 intro ak s Z H Q I h
 refine wpAny_Call_method0_late Gz GA (il (ho ak s Z H _ I h) λv s1 g9=>?_)
 obtain⟨x,H1,I1,r1,ty,q1⟩:=g9
 obtain⟨h1,h2⟩:=EY I1 r1 ty
 exact⟨T,id,pa,slot,NW,h1,h2,abi rfl (PySem.evalArgs_none (hm ak s1 Z H1 x [] v [] Q I1 r1 .nil q1))⟩
theorem lI(pa:PlainAttrs T)(slot:Slot T name id)(NW:typeOf (.builtin id)=pure (.type "method_descriptor"))(hm:Uc X id r)(ho:PE X o to)(ha:PA X (e::es) t)
  (Gz:attributeBase o name X.env (eval o X.env)=eval o X.env:=by rfl)
  (Ro:((backTo j2 (starEach (e::es) X.env)).all (λx=>!x.1)&&(backToKw j2 (keywordEach [] X.env)).all (λx=>x.1.isSome)
   &&decide ((e::es).length+([]:List Keyword).length+(if([]:List Keyword).isEmpty then 0 else 1)<30))=true:=by rfl)
  (GA:(apos.endLine ==j2.line)=true:=by rfl) (hs:starEach (e::es) X.env=(false,eval e X.env)::starEach es X.env:=by rfl) (LA:(backTo j2 (starEach es X.env)).any (·.1)=false:=by rfl) :
  PE X (.Call (.Attribute o name apos) (e::es) [] j2) (WN X.K T r to t):=by
 intro ak s Z H Q I h
 refine wpAny_Call_method_late Gz Ro GA rfl (il (ho ak s Z H _ I h) λv s1 g9=>?_)
 obtain⟨x,H1,I1,r1,ty,q1⟩:=g9
 obtain⟨h1,h2⟩:=EY I1 r1 ty
 refine⟨T,id,pa,slot,NW,h1,h2,?_⟩
 have hA:=ha j2 ak s1 Z H1 _ I1 q1
 rw[hs] at hA ⊢
 refine abi (by show(false||(backTo j2 (starEach es X.env)).any (·.1))=false;rw[LA]<;>rfl) (abr ?_)
 exact il hA λus s2 ⟨vs,H2,I2,r2,q2⟩=>hm ak s2 Z H2 x vs v us Q I2 r1 r2 q2
end
def QL(X:Cx)(id:String)(r:V->List V->Hp->VK->Prop):Prop:=
 ∀(ak:Qqz)(s:Shared)(Z:St)(H:Hp)(x:V)(xs:List V)(v:Value)(us:List Value)(Q:VK),Inv X ak Z H s->RelV x v->Vals xs us->r x xs H Q->
  wpAny (model X.prog X.w) X.A (call (.builtin id) (v::us)) (EP X ak Z Q) X.xe s
theorem Vals.one:∀{x:V} {us:List Value},Vals [x] us->∃u,us=[u]/\RelV x u
 | _,_,.cons r .nil=>⟨_,rfl,r⟩
theorem Vals.zero:∀{us:List Value},Vals [] us->us=[]
 | _,.nil=>rfl
theorem Vals.dropLast{xs:List V}{us:List Value}(h:Vals xs us):Vals xs.dropLast us.dropLast:=by
 induction h with
 | nil=>exact .nil
 | cons r t ih=>
  cases t with
  | nil=>exact .nil
  | cons q t'=>exact .cons r ih
theorem Vals.rep{xs:List V}{us:List Value}(h:Vals xs us):∀k:Nat,Vals (List.replicate k xs).flatten (List.replicate k us).flatten
 | 0=>.nil
 | k+1=>by
  rw[aaZ,aaZ,abM,abM]
  exact Vals.append h (Vals.rep h k)
theorem B7{Z:Type}(l:List Z):l.eraseIdx (l.length-1)=l.dropLast:=by
 induction l with
 | nil=>rfl
 | cons a r ih=>
  cases r with
  | nil=>rfl
  | cons b r=>
   have e:(a::b::r).length-1=((b::r).length-1)+1:=by
    have h1:(a::b::r).length=r.length+2:=rfl
    have h2:(b::r).length=r.length+1:=rfl
    omega
   rw[e,List.eraseIdx_cons_succ,ih]
   all_goals rfl
theorem foldl_rep(fW:List Value):∀(k:Nat)(acc:List Value),
  List.foldl (λx1 x2=>x1++x2) acc.toArray (List.replicate k fW.toArray)=(acc++(List.replicate k fW).flatten).toArray
 | 0,acc=>by simp
 | k+1,acc=>by
  have e:acc.toArray++fW.toArray=(acc++fW).toArray:=by simp
  have e2:(acc++fW)++(List.replicate k fW).flatten=acc++(List.replicate (k+1) fW).flatten:=by
   rw[aaZ,abM,aaY]
  rw[<-e2,<-foldl_rep fW k (acc++fW),<-e,aaZ,ab4]
section
variable{X:Cx}{ak:Qqz}{Z:St}{H:Hp}{s:Shared}{l b:Addr}{xs ys zs:List V}
theorem Inv.Ki{fW its':List Value}{n:Nat}{f:Array Value->Array Value}{t':Nat}(I:Inv X ak Z H s)(hH:H l=some (.lst xs))
  (e:s.heap.get? l=some {cls:=.type "list",data:=.seq fW.toArray n}) (hf:f fW.toArray=its'.toArray) (hv:Vals ys its') (hz:ys.length<=sizeLine) :
  Inv X ak Z (upd H l (.lst ys)) {s with heap:=s.heap.update l (Obj.mapSeq f),toks:=t'}:=by
 have q:=PySem.IsL.update e f
 rw[hf] at q
 refine I.write (x:=l) (e:=l) (by rw[hH];exact trivial) (.inl rfl) (λb' u hb hu=>(aa6 s.heap (Obj.mapSeq f) (abz hb)).trans hu) ⟨_,q⟩ ?_
 exact⟨hz,its',_,hv,q⟩
theorem Inv.Ho{fW:List Value}{t':Nat}(I:Inv X ak Z H s)(hv:Vals ys fW)(hz:ys.length<=sizeLine) :
  Inv X ak Z (upd H s.heap.objs.size (.lst ys)) {s with heap:=s.heap.push {cls:=.type "list",data:=.seq fW.toArray},toks:=t'}:=
 I.laid (λ_ _ q=>QY _ q) (Q2 _) ⟨hz,fW,0,hv,WO _ rfl⟩
theorem Inv.fresh(I:Inv X ak Z H s):H s.heap.objs.size=none:=I.gX.fresh (Q2 _)
theorem Inv.B8(I:Inv X ak Z H s)(hH:H l=some (.lst xs)):xs.length<=sizeLine/\∃(fW:List Value)(n:Nat),Vals xs fW/\xs.length=fW.length/\s.heap.get? l=some {cls:=.type "list",data:=.seq fW.toArray n}:=by
 obtain⟨z,fW,n,r,e⟩:=I.gX l _ hH
 exact⟨z,fW,n,r,r.length,e⟩
theorem AD{n:Nat}(h:n<=sizeLine):Builtin.List.listTooLong n=false:=by
 unfold Builtin.List.listTooLong
 exact aaa (by omega)
end
section
variable{X:Cx}
inductive Hq(x:V)(vs:List V)(H:Hp)(Q:VK):Prop
 | mk (l xs y) (_:x=.ref l) (_:vs=[y]) (_:H l=some (.lst xs)) (_:xs.length<sizeLine) (_:Q .iQ (upd H l (.lst (xs++[y]))))
theorem iA:QL X "list.append" Hq:=by
 intro ak s Z H x vs v us Q I rx rv h
 obtain⟨l,xs,y,rfl,rfl,hH,hz,q⟩:=h
 cases rx
 obtain⟨u,rfl,ru⟩:=rv.one
 obtain⟨z,fW,n,r,hl,e⟩:=I.B8 hH
 refine call_meets F.slot_list_append ⟨_,e,rfl⟩ F.entry_list_append (F.args_list_append_2 _ _) (PySem.list_append l fW.toArray n u (by rw[WZ];omega)) ⟨e,?_⟩
 refine⟨.iQ,_,I.Ki (its':=fW++[u]) hH e (by simp) (r.append (.cons ru .nil)) ?_,rfl,q⟩
 rw[RX,List.length_singleton]
 omega
def Hr:V->List V->Hp->VK->Prop:=λx vs H Q=>∃l b xs zs,x=.ref l/\vs=[.ref b]/\H l=some (.lst xs)/\H b=some (.lst zs)/\xs.length+zs.length<=sizeLine/\Q .iQ (upd H l (.lst (xs++zs)))
theorem yb:QL X "list.extend" Hr:=by
 intro ak s Z H x vs v us Q I rx rv h
 obtain⟨l,b,xs,zs,rfl,rfl,hH,hB,hz,q⟩:=h
 cases rx
 obtain⟨u,rfl,ru⟩:=rv.one
 cases ru
 obtain⟨z,fW,n,r,hl,e⟩:=I.B8 hH
 obtain⟨z2,ku,n2,r2,IH,e2⟩:=I.B8 hB
 have hsz:fW.toArray.size+ku.toArray.size<=sizeLine:=by rw[WZ,WZ];omega
 have GB:¬(!fW.toArray.isEmpty&&Builtin.List.listTooLong (fW.toArray.size+ku.toArray.size))=true:=by
  rw[AD hsz,Bool.and_false]
  exact WV
 refine call_meets F.slot_list_extend ⟨_,e,rfl⟩ F.entry_list_extend (F.args_list_extend_2 _ _)
  (AutoSeq1.list_extend_list_list_0 l fW.toArray n b ku.toArray n2 GB (by rw[WZ];omega) (by omega)) ⟨e,e2,?_⟩
 refine⟨.iQ,_,I.Ki (its':=fW++ku) hH e (by simp) (r.append r2) ?_,rfl,q⟩
 rw[RX]
 omega
def QM:V->List V->Hp->VK->Prop:=λx vs H Q=>∃l xs y,x=.ref l/\vs=[]/\H l=some (.lst xs)/\xs[xs.length-1]?=some y/\Q y (upd H l (.lst xs.dropLast))
theorem Kj:QL X "list.pop" QM:=by
 intro ak s Z H x vs v us Q I rx rv h
 obtain⟨l,xs,y,rfl,rfl,hH,hy,q⟩:=h
 cases rx
 have Xc:=rv.zero
 subst Xc
 obtain⟨z,fW,n,r,hl,e⟩:=I.B8 hH
 obtain⟨u,hu,ru⟩:=r.get hy
 have PL:fW.toArray[fW.toArray.size-1]?=some u:=by
  show fW.toArray[fW.length-1]?=some u
  rw[<-aaA,<-hl]
  exact hu
 refine call_meets F.slot_list_pop ⟨_,e,rfl⟩ F.entry_list_pop (F.args_list_pop_1 _) (MeetsSeq.list_pop_last l fW.toArray n u PL (by rw[WZ];omega)) ⟨e,?_⟩
 refine⟨y,_,I.Ki (its':=fW.dropLast) hH e ?_ r.dropLast ?_,ru,q⟩
 ·show fW.toArray.eraseIdxIfInBounds (fW.toArray.size-1)=fW.dropLast.toArray
  rw[WZ,List.eraseIdxIfInBounds_toArray,B7]
 ·rw[List.length_dropLast]
  omega
inductive QN(x:V)(y:V)(H:Hp)(Q:VK):Prop
 | mk (l b xs zs) (_:x=.ref l) (_:y=.ref b) (_:H l=some (.lst xs)) (_:H b=some (.lst zs)) (_:xs.length+zs.length<=sizeLine) (_:∀p,H p=none->Q (.ref p) (upd H p (.lst (xs++zs))))
theorem Kk:vK X (binaryOp .Add) QN:=by
 intro ak s Z H x y v u Q I rx ry h
 obtain⟨l,b,xs,zs,rfl,rfl,hH,hB,hz,q⟩:=h
 cases rx
 cases ry
 obtain⟨z,fW,n,r,hl,e⟩:=I.B8 hH
 obtain⟨z2,ku,n2,r2,IH,e2⟩:=I.B8 hB
 refine PySem.P.add_list e e2 ?_ (by rw[WZ,WZ];omega)
 have ea:fW.toArray++ku.toArray=(fW++ku).toArray:=by simp
 rw[ea]
 exact⟨.ref _,_,I.Ho (t':=s.toks) (r.append r2) (by rw[RX];omega),rfl,q _ I.fresh⟩
def QO:R2:=λx y H Q=>∃l k xs,x=.ref l/\y=.int k/\H l=some (.lst xs)/\-(2 ^ 63)<=k/\k<2 ^ 63/\xs.length*k.toNat<=sizeLine/\
 ∀p,H p=none->Q (.ref p) (upd H p (.lst (List.replicate k.toNat xs).flatten))
theorem len_rep{Z:Type}(xs:List Z)(k:Nat):(List.replicate k xs).flatten.length=k*xs.length:=by
 induction k with
 | zero=>simp
 | succ k ih=>rw[aaZ,abM,RX,ih,Nat.succ_mul,Nat.add_comm]
theorem B9:vK X (binaryOp .Mult) QO:=by
 intro ak s Z H x y v u Q I rx ry h
 obtain⟨l,k,xs,rfl,rfl,hH,h1,h2,hz,q⟩:=h
 cases rx
 obtain⟨t,rfl⟩:=ry
 obtain⟨z,fW,n,r,hl,e⟩:=I.B8 hH
 have hlen:fW.toArray.size*k.toNat<=sizeLine:=by rw[WZ,<-hl];exact hz
 have Rp:¬fW.toArray.size*k.toNat>(2 ^ 63-1)/8:=by
  have:(sizeLine:Nat)<=(2 ^ 63-1)/8:=by decide
  omega
 have Rq:¬(!Builtin.List.listFitsIndex k)=true:=by
  rw[fitsIndex_both h1 h2]
  exact WV
 have GB:¬Builtin.List.listTooLong (fW.toArray.size*k.toNat)=true:=by
  rw[AD hlen]
  exact WV
 have Rr:List.foldl (λx1 x2=>x1++x2) #[] (List.replicate (if fW.toArray.isEmpty=true then 0 else k.toNat) fW.toArray)=(List.replicate k.toNat fW).flatten.toArray:=by
  have f0:∀m:Nat,List.foldl (λx1 x2=>x1++x2) #[] (List.replicate m fW.toArray)=(List.replicate m fW).flatten.toArray:=λm=>by
   have:=foldl_rep fW m []
   rw[List.nil_append] at this
   exact this
  rw[f0]
  cases fW with
  | nil=>simp
  | cons a r'=>rw[aab (by simp)]
 refine wpAny_binaryOp_repeat_ref (T:="list") (U:="int") (by decide) ⟨_,e,rfl⟩ (λs'=>typeIs_int s' k t) noFill_list_mul F.fills_int_mul F.slot_int_rmul repeat_list F.slot_int_index.lookup
  (call_meets F.slot_int_rmul (typeIs_int s k t) F.entry_int_rmul (F.args_int_rmul_2 _ _) (int___rmul___int_list k t l fW.toArray n)
   ⟨e,rfl,⟨_,e,rfl⟩,call_meets F.slot_list_mul ⟨_,e,rfl⟩ F.entry_list_mul (F.args_list_mul_2 _ _) (AutoListH.list___mul___list_int_3 l fW.toArray n k t Rq Rp GB) ⟨e,?_⟩⟩)
 rw[Rr]
 exact⟨.ref _,_,I.Ho (t':=s.toks) (r.rep k.toNat) (by rw[len_rep,Nat.mul_comm];exact hz),rfl,q _ I.fresh⟩
end
section
variable{prog:Program}{w:World}{A:Around}{E:Qqq}{s:Shared}
end
section
variable{X:Cx}
end
section
variable{Z:Type}[DecidableEq Z]
def hZ(kvs:List (Z×V))(k:Z):Option V:=(kvs.find? λkv=>decide (kv.1=k)).map (·.2)
def putK(kvs:List (Z×V))(k:Z)(v:V):List (Z×V):=
 if(kvs.any λkv=>decide (kv.1=k))=true then kvs.map (λkv=>if kv.1=k then(kv.1,v) else kv) else kvs++[(k,v)]
def jR(kvs:List (Z×V))(k:Z):List (Z×V):=kvs.filter λkv=>decide (kv.1≠k)
theorem iG{p:Z×V}{r:List (Z×V)}{k:Z}(e:p.1=k):hZ (p::r) k=some p.2:=by simp[hZ,ab5,e]
theorem ix{p:Z×V}{r:List (Z×V)}{k:Z}(e:¬p.1=k):hZ (p::r) k=hZ r k:=by simp[hZ,ab5,e]
theorem pG(k:Z):∀kvs:List (Z×V),(kvs.any λkv=>decide (kv.1=k))=(hZ kvs k).isSome
 | []=>rfl
 | p::r=>by
  rw[List.any_cons]
  by_cases e:p.1=k
  ·simp only [iG e,Ug e,Bool.true_or,Option.isSome_some]
  ·rw[ix e,aaa e,Bool.false_or];exact pG k r
theorem AE(k j:Z)(y:V):∀kvs:List (Z×V),hZ (kvs.map λkv=>if kv.1=k then(kv.1,y) else kv) j=(hZ kvs j).map λx=>if j=k then y else x
 | []=>rfl
 | p::r=>by
  have ih:=AE k j y r
  rw[aam]
  by_cases h:p.1=k
  ·rw[aah h]
   by_cases e:p.1=j
   ·rw[iG (p:=(p.1,y)) e,iG e,abB,aah (e.symm.trans h)]
   ·rw[ix (p:=(p.1,y)) e,ix e,ih]
  ·rw[aab h]
   by_cases e:p.1=j
   ·rw[iG (p:=p) e,iG e,abB,aab (λz=>h (e.trans z))]
   ·rw[ix (p:=p) e,ix e,ih]
theorem yc(k j:Z)(y:V):∀kvs:List (Z×V),hZ kvs k=none->hZ (kvs++[(k,y)]) j=if j=k then some y else hZ kvs j
 | [],_=>by
  by_cases e:k=j
  ·rw[aah e.symm];exact iG (p:=(k,y)) e
  ·rw[aab (λz=>e z.symm)];exact ix (p:=(k,y)) e
 | p::r,hn=>by
  rw[List.cons_append]
  have hk:¬p.1=k:=λz=>by rw[iG z] at hn;cases hn
  rw[ix hk] at hn
  have ih:=yc k j y r hn
  by_cases e:p.1=j
  ·rw[iG e,iG e,aab (λz=>hk (e.trans z))]
  ·rw[ix e,ix e,ih]
theorem jt(kvs:List (Z×V))(k j:Z)(y:V):hZ (putK kvs k y) j=if j=k then some y else hZ kvs j:=by
 unfold putK
 by_cases a:(kvs.any λkv=>decide (kv.1=k))=true
 ·rw[aah a,AE]
  rw[pG] at a
  by_cases e:j=k
  ·obtain⟨x,hx⟩:=Option.isSome_iff_exists.mp a
   rw[aah e,e,hx,abB,aah rfl]
  ·rw[aab e]
   cases hZ kvs j with
   | none=>rfl
   | some x=>rw[abB,aab e]
 ·rw[aab a]
  refine yc k j y kvs ?_
  rw[pG] at a
  cases q:hZ kvs k with
  | none=>rfl
  | some x=>rw[q] at a;exact(a rfl).elim
theorem iN(kvs:List (Z×V))(k:Z)(v:V):(putK kvs k v).length<=kvs.length+1:=by
 unfold putK
 split
 ·rw[Ou];omega
 ·rw[RX,S7,List.length_nil];omega
theorem AF{kvs:List (Z×V)}{k:Z}(v:V)(h:hZ kvs k=none):putK kvs k v=kvs++[(k,v)]:=by
 unfold putK
 rw[pG,h]
 exact aab (by decide)
theorem oa.nr{o:Option V}{u:Option Value}(r:oa o u):o.isSome=u.isSome:=by
 cases o with
 | none=>cases u with
  | none=>rfl
  | some _=>exact(show False from r).elim
 | some _=>cases u with
  | none=>exact(show False from r).elim
  | some _=>rfl
theorem oa.getD{o:Option V}{u:Option Value}{d:V}{d':Value}(r:oa o u)(rd:RelV d d'):RelV (o.getD d) (u.getD d'):=by
 cases o with
 | none=>cases u with
  | none=>exact rd
  | some _=>exact(show False from r).elim
 | some _=>cases u with
  | none=>exact(show False from r).elim
  | some _=>exact r
theorem KV.val{kvs:List (Z×V)}{vs:List (Z×Value)}(r:KV kvs vs)(k:Z):oa (hZ kvs k) (valueAt vs k):=by
 unfold KV at r
 induction r with
 | nil=>exact True.intro
 | @cons p q ps qs h t ih=>
  obtain⟨h1,h2⟩:=h
  by_cases e:p.1=k
  ·have e':q.1=k:=h1.symm.trans e
   have b:valueAt (q::qs) k=some q.2:=by simp[valueAt,ab5,e']
   rw[iG e,b];exact h2
  ·have e':¬q.1=k:=λz=>e (h1.trans z)
   have b:valueAt (q::qs) k=valueAt qs k:=by simp[valueAt,ab5,e']
   rw[ix e,b];exact ih
theorem KV.any{kvs:List (Z×V)}{vs:List (Z×Value)}(r:KV kvs vs)(k:Z):(kvs.any λkv=>decide (kv.1=k))=vs.any λkv=>decide (kv.1=k):=by
 unfold KV at r
 induction r with
 | nil=>rfl
 | cons h t ih=>rw[List.any_cons,List.any_cons,ih,h.1]
theorem KV.Kl{kvs:List (Z×V)}{vs:List (Z×Value)}(r:KV kvs vs)(k:Z){y:V}{u:Value}(ry:RelV y u) :
  KV (kvs.map λkv=>if kv.1=k then(kv.1,y) else kv) (vs.map λkv=>if kv.1=k then(kv.1,u) else kv):=by
 unfold KV at r ⊢
 induction r with
 | nil=>exact .nil
 | @cons p q ps qs h t ih=>
  rw[aam,aam]
  refine .cons ?_ ih
  obtain⟨h1,h2⟩:=h
  by_cases e:p.1=k
  ·rw[aah e,aah (h1.symm.trans e)];exact⟨h1,ry⟩
  ·rw[aab e,aab (λz=>e (h1.trans z))];exact⟨h1,h2⟩
theorem KV.put{kvs:List (Z×V)}{vs:List (Z×Value)}(r:KV kvs vs)(k:Z){y:V}{u:Value}(ry:RelV y u):KV (putK kvs k y) (stored vs k u):=by
 unfold putK stored
 rw[r.any k]
 by_cases e:(vs.any λkv=>decide (kv.1=k))=true
 ·rw[aah e,aah e];exact r.Kl k ry
 ·rw[aab e,aab e];exact Paired.snoc r ⟨rfl,ry⟩
theorem KV.length{kvs:List (Z×V)}{vs:List (Z×Value)}(r:KV kvs vs):kvs.length=vs.length:=aaj r
theorem EZ(kvs:List (Z×V))(k:Z):(jR kvs k).length<=kvs.length:=aaJ _ _
end
theorem yd{P:Program}{w:World}{k:Key}{u:Value}(r:RelV (kV k) u):(iy P w).is k u=true:=by
 cases k with
 | inl i=>obtain⟨t,e⟩:=(show ∃t,u=Value.int i t from r);subst e;exact Ao P w i t
 | inr x=>obtain⟨t,e⟩:=(show ∃t,u=Value.str x t from r);subst e;exact Ap P w x t
theorem ye{P:Program}{w:World}:∀{ks:List Key} {us:List Value},Vals (ks.map kV) us->ItemsAre (iy P w) ks us
 | [],_,r=>by rw[List.map_nil] at r;cases r;exact .nil
 | k::ks,_,r=>by
  rw[aam] at r
  cases r with
  | cons h t=>exact .cons (yd h) (ye t)
abbrev KT(H:Hp):List (List Key×V)->List (List Key×Addr×Value)->Prop:=Paired λp q=>p.1=q.1/\H q.2.1=some (.tup (p.1.map kV))/\RelV p.2 q.2.2
theorem KT.val{H:Hp}{kvs:List (List Key×V)}{xs:List (List Key×Addr×Value)}(r:KT H kvs xs)(k:List Key):oa (hZ kvs k) ((atKey xs k).map (·.2)):=by
 induction r with
 | nil=>exact True.intro
 | @cons p q ps qs h t ih=>
  obtain⟨h1,_,h2⟩:=h
  by_cases e:p.1=k
  ·have e':q.1=k:=h1.symm.trans e
   have b:atKey (q::qs) k=some q.2:=by simp[atKey,ab5,e']
   rw[iG e,b];exact h2
  ·have e':¬q.1=k:=λz=>e (h1.trans z)
   have b:atKey (q::qs) k=atKey qs k:=by simp[atKey,ab5,e']
   rw[ix e,b];exact ih
theorem KT.Kl{H:Hp}{kvs:List (List Key×V)}{xs:List (List Key×Addr×Value)}(r:KT H kvs xs)(k:List Key){y:V}{u:Value}(ry:RelV y u) :
  KT H (kvs.map λkv=>if kv.1=k then(kv.1,y) else kv) (xs.map (putAt k u)):=by
 induction r with
 | nil=>exact .nil
 | @cons p q ps qs h t ih=>
  rw[aam,aam]
  refine .cons ?_ ih
  obtain⟨h1,h2,h3⟩:=h
  unfold putAt
  by_cases e:p.1=k
  ·rw[aah e,aah (h1.symm.trans e)];exact⟨h1,h2,ry⟩
  ·rw[aab e,aab (λz=>e (h1.trans z))];exact⟨h1,h2,h3⟩
theorem KT.put{H:Hp}{kvs:List (List Key×V)}{xs:List (List Key×Addr×Value)}(r:KT H kvs xs)(k:List Key){b:Addr}{y:V}{u:Value}(hb:H b=some (.tup (k.map kV)))(ry:RelV y u) :
  KT H (putK kvs k y) (storedH xs k b u):=by
 have e:(kvs.any λkv=>decide (kv.1=k))=(atKey xs k).isSome:=by
  rw[pG,(r.val k).nr,Option.isSome_map]
 unfold putK storedH
 rw[e]
 by_cases q:(atKey xs k).isSome=true
 ·rw[aah q,aah q];exact r.Kl k ry
 ·rw[aab q,aab q];exact Paired.snoc r ⟨rfl,hb,ry⟩
theorem KT.keeps{H H':Hp}{kvs:List (List Key×V)}{xs:List (List Key×Addr×Value)}(r:KT H kvs xs)(ht:∀b ys,H b=some (.tup ys)->H' b=some (.tup ys)):KT H' kvs xs:=
 Paired.j5 r λ_ _ z=>⟨z.1,ht _ _ z.2.1,z.2.2⟩
section
variable{P:Program}{w:World}{H:Hp}{h:Heap}{a:Addr}
theorem Jf{u:HO}(ok:og P w H h)(e:Rd H a u):ia P w H h a u:=e.ok ok
theorem uI{kvs:List (Key×V)}(ok:og P w H h)(e:Rd H a (.dK kvs)):kvs.length<=sizeLine/\(a ==sysModules)=false/\∃vs,KV kvs vs/\h.DictOf (iy P w) a vs:=
 show ia P w H h a (.dK kvs) from Jf ok e
theorem Jg{kvs:List (Key×V)}(ok:og P w H h)(e:H a=some (.dK kvs)):kvs.length<=sizeLine/\(a ==sysModules)=false/\∃vs,KV kvs vs/\h.DictOf (iy P w) a vs:=uI ok (.inl e)
theorem rE{ks:List Key}(ok:og P w H h)(e:H a=some (.tup (ks.map kV))):(tupleKind (iy P w)).is h ks a:=by
 obtain⟨_,fW,r,o,h1,h2,n,h3⟩:=(show ia P w H h a (.tup (ks.map kV)) from ok a _ e)
 exact⟨o,fW.toArray,n,h1,h2,h3,by simpa using ye r⟩
theorem uJ{kvs:List (List Key×V)}(ok:og P w H h)(e:Rd H a (.dT kvs)):kvs.length<=sizeLine/\(a ==sysModules)=false/\
  ∃xs,KT H kvs xs/\h.DictOfH (tupleKind (iy P w)) a xs:=by
 obtain⟨z,y,xs,r,o,es,ep,h1,h2,h3,h4,h5⟩:=(show ia P w H h a (.dT kvs) from Jf ok e)
 refine⟨z,y,xs,r,o,es,ep,h1,h2,h3,h4,λx hx=>?_,h5⟩
 have all:∀{l:List (List Key×V)} {m:List (List Key×Addr×Value)},KT H l m->∀x∈m,(tupleKind (iy P w)).is h x.1 x.2.1:=by
  intro l m q
  induction q with
  | nil=>intro x hx;exact nomatch hx
  | @cons p q ps qs hq t ih=>
   intro x hx
   rcases RT.mp hx with e|hx
   ·subst e
    exact rE ok (by rw[<-hq.1];exact hq.2.1)
   ·exact ih x hx
 exact all r x hx
theorem E1{kvs:List (List Key×V)}(ok:og P w H h)(e:H a=some (.dT kvs)):kvs.length<=sizeLine/\(a ==sysModules)=false/\
 ∃xs,KT H kvs xs/\h.DictOfH (tupleKind (iy P w)) a xs:=uJ ok (.inl e)
end
def i_(H:Hp)(a:Addr)(y:V)(r:Option V):Prop:=
 (∃kvs k,Rd H a (.dK kvs)/\y=kV k/\r=hZ kvs k)\/∃kvs k b,Rd H a (.dT kvs)/\y=.ref b/\H b=some (.tup (k.map kV))/\r=hZ kvs k
def lW(H:Hp)(a:Addr)(y v:V)(H':Hp):Prop:=
 (∃kvs k,H a=some (.dK kvs)/\y=kV k/\kvs.length<sizeLine/\H'=upd H a (.dK (putK kvs k v)))\/
 ∃kvs k b,H a=some (.dT kvs)/\y=.ref b/\H b=some (.tup (k.map kV))/\kvs.length<sizeLine/\H'=upd H a (.dT (putK kvs k v))
theorem i_.k{H:Hp}{a:Addr}{kvs:List (Key×V)}{k:Key}(e:H a=some (.dK kvs)):i_ H a (kV k) (hZ kvs k):=.inl ⟨kvs,k,.inl e,rfl,rfl⟩
theorem i_.t{H:Hp}{a b:Addr}{kvs:List (List Key×V)}{k:List Key}(e:H a=some (.dT kvs))(eb:H b=some (.tup (k.map kV))):i_ H a (.ref b) (hZ kvs k):=.inr ⟨kvs,k,b,.inl e,rfl,eb,rfl⟩
theorem lW.k{H:Hp}{a:Addr}{kvs:List (Key×V)}{k:Key}{v:V}(e:H a=some (.dK kvs))(hl:kvs.length<sizeLine):lW H a (kV k) v (upd H a (.dK (putK kvs k v))):=.inl ⟨kvs,k,e,rfl,hl,rfl⟩
theorem lW.t{H:Hp}{a b:Addr}{kvs:List (List Key×V)}{k:List Key}{v:V}(e:H a=some (.dT kvs))(eb:H b=some (.tup (k.map kV)))(hl:kvs.length<sizeLine) :
 lW H a (.ref b) v (upd H a (.dT (putK kvs k v))):=.inr ⟨kvs,k,b,e,rfl,eb,hl,rfl⟩
section
variable{X:Cx}{ak:Qqz}{Z:St}{H:Hp}{s:Shared}{a:Addr}{y v:V}{u r:Value}{o:Option V}{A:Around}{E:Qqq}
theorem Inv.big(I:Inv X ak Z H s):sysModules<s.heap.objs.size:=by
 have h:mainGlobals<s.heap.objs.size:=(I.mod.glob.keeps I.bk).lt
 exact Nat.lt_trans (by decide) h
theorem DL{Q:Qqq}(hu:A.units+1<cLine)(I:Inv X ak Z H s)(g:i_ H a y (some v))(ry:RelV y u)(h:∀w' s',Inv X ak Z H s'->RelV v w'->Q w' s') :
  wpAny (model X.prog X.w) A (getItem (.ref a) u) Q E s:=by
 rcases g with⟨kvs,k,e,ey,l⟩|⟨kvs,k,b,e,ey,eb,l⟩
 ·subst ey
  obtain⟨z,hd,vs,rel,dd⟩:=uI I.gX e
  obtain⟨w',hw,BI⟩:=oa.some_of (v:=v) (o:=valueAt vs k) (by rw[l];exact rel.val k)
  exact wpAny_getItem_of (yd ry) dd.mapOf hw (h w' _ (I.tok _) BI)
 ·subst ey
  cases (show u=Value.ref b from ry)
  obtain⟨z,hd,xs,rel,dd⟩:=uJ I.gX e
  obtain⟨w',hw,BI⟩:=oa.some_of (v:=v) (o:=(atKey xs k).map (·.2)) (by rw[l];exact rel.val k)
  obtain⟨p,hp,zS⟩:=Option.map_eq_some_iff.mp hw
  refine wpAny_getItem_heap (abn hu) (rE I.gX eb) dd hp ?_
  rw[zS]
  exact h w' _ (I.tok _) BI
theorem QP{Q:Qqq}(hu:A.units+1<cLine)(I:Inv X ak Z H s)(g:i_ H a y o)(ry:RelV y u)(h:∀s',Inv X ak Z H s'->Q (.bool o.isSome) s') :
  wpAny (model X.prog X.w) A (compareOp .In u (.ref a)) Q E s:=by
 rcases g with⟨kvs,k,e,ey,l⟩|⟨kvs,k,b,e,ey,eb,l⟩
 ·subst ey
  obtain⟨z,hd,vs,rel,dd⟩:=uI I.gX e
  refine wpAny_in_of (yd ry) hd dd.mapOf ?_
  rw[<-(rel.val k).nr,<-l]
  exact h _ (I.tok _)
 ·subst ey
  cases (show u=Value.ref b from ry)
  obtain⟨z,hd,xs,rel,dd⟩:=uJ I.gX e
  refine wpAny_in_heap (abn hu) (rE I.gX eb) hd dd ?_
  have q:=(rel.val k).nr
  rw[Option.isSome_map] at q
  rw[<-q,<-l]
  exact h _ (I.tok _)
theorem Hs{Q:Qqq}(hu:A.units+1<cLine)(I:Inv X ak Z H s)(g:i_ H a y o)(ry:RelV y u)(h:∀s',Inv X ak Z H s'->Q (.bool (!o.isSome)) s') :
  wpAny (model X.prog X.w) A (compareOp .NotIn u (.ref a)) Q E s:=by
 rcases g with⟨kvs,k,e,ey,l⟩|⟨kvs,k,b,e,ey,eb,l⟩
 ·subst ey
  obtain⟨z,hd,vs,rel,dd⟩:=uI I.gX e
  refine wpAny_notIn_of (yd ry) hd dd.mapOf ?_
  rw[<-(rel.val k).nr,<-l]
  exact h _ (I.tok _)
 ·subst ey
  cases (show u=Value.ref b from ry)
  obtain⟨z,hd,xs,rel,dd⟩:=uJ I.gX e
  refine wpAny_notIn_heap (abn hu) (rE I.gX eb) hd dd ?_
  have q:=(rel.val k).nr
  rw[Option.isSome_map] at q
  rw[<-q,<-l]
  exact h _ (I.tok _)
theorem sr{h':Heap}{t':Nat}{ob:HO}(I:Inv X ak Z H s)(mu:IX (H a))(hs:Heap.SameBut a s.heap h')(he:∃q,h'.get? a=some q)(new:ia X.prog X.w (upd H a ob) h' a ob) :
  Inv X ak Z (upd H a ob) {s with heap:=h',toks:=t'}:=
 I.write (x:=a) (e:=a) mu (.inl rfl) (λb q hb z=>(hs.2 b hb).trans z) he new
theorem E2{P:Program}{w:World}{H':Hp}{h':Heap}{kvs:List (Key×V)}{vs:List (Key×Value)}(z:kvs.length<=sizeLine)(hd:(a ==sysModules)=false)(rel:KV kvs vs)(dd:h'.DictOf (iy P w) a vs) :
 ia P w H' h' a (.dK kvs):=⟨z,hd,vs,rel,dd⟩
theorem DN{H':Hp}{Q:Unit->Shared->Prop}(hu:A.units+1<cLine)(I:Inv X ak Z H s)(g:lW H a y v H')(ry:RelV y u)(rv:RelV v r)(h:∀s',Inv X ak Z H' s'->Q () s') :
  wpAny (model X.prog X.w) A (setItem (.ref a) u r) Q E s:=by
 rcases g with⟨kvs,k,e,ey,l,eH⟩|⟨kvs,k,b,e,ey,eb,l,eH⟩
 ·subst ey eH
  obtain⟨z,hd,vs,rel,dd⟩:=Jg I.gX e
  have hz:vs.length<=sizeLine:=by rw[<-rel.length];exact z
  have hl:(putK kvs k v).length<=sizeLine:=by have:=iN kvs k v;omega
  refine wpAny_setItem_pairs (hsz:=hz) (yd ry) dd λh' LB hs=>h _ ?_
  have he:∃q,h'.get? a=some q:=let ⟨q,_,_,hq,_⟩:=LB;⟨q,hq⟩
  exact sr I (by rw[e];exact True.intro) hs he (E2 hl hd (rel.put k rv) LB)
 ·subst ey eH
  cases (show u=Value.ref b from ry)
  obtain⟨z,hd,xs,rel,dd⟩:=E1 I.gX e
  have hz:xs.length<=sizeLine:=by rw[<-aaj rel];exact z
  have hl:(putK kvs k v).length<=sizeLine:=by have:=iN kvs k v;omega
  refine wpAny_setItem_heap (hsz:=hz) (abn hu) (rE I.gX eb) dd λh' LB hs=>h _ ?_
  obtain⟨q,es,ep,hq,h2,h3,h4,_,h5⟩:=LB
  refine sr I (by rw[e];exact True.intro) hs ⟨q,hq⟩ ⟨hl,hd,_,(rel.put k eb rv).keeps λc ys ec=>?_,q,es,ep,hq,h2,h3,h4,h5⟩
  rw[c_ (iz ec e (λz=>nomatch z))]
  exact ec
end
section
variable{X:Cx}{ak:Qqz}{Z:St}{H:Hp}{s:Shared}{a:Addr}{kvs:List (Key×V)}{k:Key}{u:Value}{A:Around}{E:Qqq}
end
def Km(i:Expr):Prop:=∀ov iv,subscripted i false ov iv=operate [ov,iv] (getItem ov iv)
theorem Ht{prog:Program}{w:World}{A:Around}{E:Qqq}{s:Shared}{env:Env}{value slice:Expr}{pos:Pos}{T id:String}{Q:Qqq}
  (hl:typeLookup (.type T) "__getitem__"=pure (some (.builtin id))) (hs:Km slice)
  (h:wpAny (model prog w) A (eval value env) (λo s1=>wpAny (model prog w) A (eval slice env) (λi s2=>s2.TypeIs o T/\wpAny (model prog w) A (getItem o i) Q E s2) E s1) E s) :
  wpAny (model prog w) A (eval (.Subscript value slice pos) env) Q E s:=by
 refine Subscript_ (abg h (λo s1 h1=>abg h1 (λi s2 h2=>?_) λ_ _ x=>x) λ_ _ x=>x)
 obtain⟨hT,h2⟩:=h2
 unfold subscriptTail
 refine M9 ?_
 rw[getitemInPython_of_ne hT.not_modules]
 refine M9 (abN hT hl ?_)
 have fin:wpAny (model prog w) A (subscripted slice false o i) (λr s3=>wpAny (model prog w) A (letTemporaryGo value o r >>= λ_=>pure r) Q E s3) E s2:=by
  rw[hs o i]
  exact wpAny_operating (abg h2 (λr s3 h3=>M9 (wpAny_letTemporaryGo (Oz h3))) λ_ _ x=>x)
 first
  | exact Oz (M9 fin)
  | exact M9 (Oz (M9 fin))
  | exact M9 fin
theorem AG{X:Cx}{ak:Qqz}{Z:St}{H:Hp}{s:Shared}{a:Addr}{y:V}{o:Option V}(I:Inv X ak Z H s)(g:i_ H a y o):s.TypeIs (.ref a) "dict":=by
 rcases g with⟨kvs,k,e,_,_⟩|⟨kvs,k,b,e,_,_,_⟩
 ·obtain⟨_,_,vs,_,dd⟩:=uI I.gX e
  exact dd.typeIs
 ·obtain⟨_,_,xs,_,dd⟩:=uJ I.gX e
  exact dd.typeIs
def Jh(td ty:TE):TE:=λZ H Q=>td Z H λx H1=>ty Z H1 λy H2=>∃a v,x=.ref a/\i_ H2 a y (some v)/\Q v H2
def QQ(ty td:TE):TE:=λZ H Q=>ty Z H λy H1=>td Z H1 λx H2=>∃a o,x=.ref a/\i_ H2 a y o/\Q (.bl o.isSome) H2
def Hu(ty td:TE):TE:=λZ H Q=>ty Z H λy H1=>td Z H1 λx H2=>∃a o,x=.ref a/\i_ H2 a y o/\Q (.bl (!o.isSome)) H2
def MV(td ty tv:TE):TS:=λD Z H=>tv Z H λv H1=>td Z H1 λx H2=>ty Z H2 λy H3=>∃a H4,x=.ref a/\lW H3 a y v H4/\D.nx Z H4
section
variable{X:Cx}{o i e value:Expr}{pos pos' Lz:Pos}{td ty tv:TE}
theorem Hv(hu:X.A.units+1<cLine)(ho:PE X o td)(hi:PE X i ty)(hs:Km i):PE X (.Subscript o i pos) (Jh td ty):=by
 intro ak s Z H Q I h
 refine Ht PySem.F.slot_dict_getitem.lookup hs (il (ho ak s Z H _ I h) λu s1 g9=>?_)
 obtain⟨x,H1,I1,rx,q1⟩:=g9
 refine il (hi ak s1 Z H1 _ I1 q1) λiv s2 Gy=>?_
 obtain⟨y,H2,I2,ry,a,v,ex,g,q2⟩:=Gy
 subst ex
 obtain rfl:u=Value.ref a:=rx
 exact⟨AG I2 g,DL hu I2 g ry λw' s3 I3 BI=>⟨v,H2,I3,BI,q2⟩⟩
theorem pH(hu:X.A.units+1<cLine)(hi:PE X i ty)(ho:PE X o td):PC X .In i o (QQ ty td):=by
 intro ak s Z H Q I h
 refine il (hi ak s Z H _ I h) λiv s1 g9=>?_
 obtain⟨y,H1,I1,ry,q1⟩:=g9
 refine il (ho ak s1 Z H1 _ I1 q1) λu s2 Gy=>?_
 obtain⟨x,H2,I2,rx,a,ov,ex,g,q2⟩:=Gy
 subst ex
 obtain rfl:u=Value.ref a:=rx
 exact QP hu I2 g ry λs3 I3=>⟨.bl ov.isSome,H2,I3,rfl,q2⟩
theorem nu(hu:X.A.units+1<cLine)(hi:PE X i ty)(ho:PE X o td):PC X .NotIn i o (Hu ty td):=by
 intro ak s Z H Q I h
 refine il (hi ak s Z H _ I h) λiv s1 g9=>?_
 obtain⟨y,H1,I1,ry,q1⟩:=g9
 refine il (ho ak s1 Z H1 _ I1 q1) λu s2 Gy=>?_
 obtain⟨x,H2,I2,rx,a,ov,ex,g,q2⟩:=Gy
 subst ex
 obtain rfl:u=Value.ref a:=rx
 exact Hs hu I2 g ry λs3 I3=>⟨.bl (!ov.isSome),H2,I3,rfl,q2⟩
theorem i4(hu:X.A.units+1<cLine)(ho:PE X o td)(hi:PE X i ty)(hv:PE X value tv)(hs:swapsWith value (some (.Subscript o i pos')) pos.line X.env=pure false) :
  PS X (.Assign [.Subscript o i pos'] value pos) (MV td ty tv):=by
 intro ak s Z H D I h
 refine wpAny_Assign_Subscript (il (hv ak s Z H _ I h) λr s1 g9=>?_) hs
 obtain⟨v,H1,I1,rv,q1⟩:=g9
 refine il (ho ak s1 Z H1 _ I1 q1) λu s2 Gy=>?_
 obtain⟨x,H2,I2,rx,q2⟩:=Gy
 refine il (hi ak s2 Z H2 _ I2 q2) λiv s3 Xd=>?_
 obtain⟨y,H3,I3,ry,a,H4,ex,g,q3⟩:=Xd
 subst ex
 obtain rfl:u=Value.ref a:=rx
 exact DN hu I3 g ry rv λs4 I4=>⟨Z,H4,I4,q3⟩
end
theorem E3{P:Program}{w:World}{H:Hp}(h:Heap)(hb:sysModules<h.objs.size):ia P w H (h.push {cls:=.type "dict",data:=.dict #[]}) h.objs.size (.dK []):=
 ⟨aaD _,abj.mpr (abz (aar hb)),[],.nil,Heap.DictOf.new h⟩
theorem E4{P:Program}{w:World}{H:Hp}(h:Heap)(hb:sysModules<h.objs.size):ia P w H (h.push {cls:=.type "dict",data:=.dict #[]}) h.objs.size (.dT []):=
 ⟨aaD _,abj.mpr (abz (aar hb)),[],.nil,_,#[],0,WO _ rfl,⟨rfl,rfl,rfl⟩,rfl,rfl,aa8⟩
def Kn:TE:=λ_ H Q=>∀p,H p=none->Q (.ref p) (upd H p (.dK []))
def Ko:TE:=λ_ H Q=>∀p,H p=none->Q (.ref p) (upd H p (.dT []))
section
variable{X:Cx}{pos:Pos}
theorem lX:PE X (.Dict [] [] pos) Kn:=λak s Z H Q I h=>
 wpAny_Dict_empty ⟨.ref s.heap.objs.size,_,I.laid (a:=s.heap.objs.size) (o:=.dK []) (t':=s.toks) (λ_ _ q=>QY _ q) (Q2 _) (E3 s.heap I.big),rfl,h _ (I.gX.fresh (Q2 _))⟩
theorem lb:PE X (.Dict [] [] pos) Ko:=λak s Z H Q I h=>
 wpAny_Dict_empty ⟨.ref s.heap.objs.size,_,I.laid (a:=s.heap.objs.size) (o:=.dT []) (t':=s.toks) (λ_ _ q=>QY _ q) (Q2 _) (E4 s.heap I.big),rfl,h _ (I.gX.fresh (Q2 _))⟩
end
structure M1(X:Cx)(o:Expr)(m:Str)(apos:Pos)(e:Expr)(j2:Pos):Prop where
 base:attributeBase o m X.env (eval o X.env)=eval o X.env
 lU:((backTo j2 (starEach [e] X.env)).all (λx=>!x.1)&&(backToKw j2 (keywordEach [] X.env)).all (λx=>x.1.isSome)
  &&decide (([e]:List Expr).length+([]:List Keyword).length+(if([]:List Keyword).isEmpty then 0 else 1)<30))=true
 line:(apos.endLine ==j2.line)=true
 trees:backTo j2 (starEach [e] X.env)=[(false,eval e X.env)]
structure M2(X:Cx)(o:Expr)(m:Str)(apos:Pos)(e f:Expr)(j2:Pos):Prop where
 base:attributeBase o m X.env (eval o X.env)=eval o X.env
 lU:((backTo j2 (starEach [e,f] X.env)).all (λx=>!x.1)&&(backToKw j2 (keywordEach [] X.env)).all (λx=>x.1.isSome)
  &&decide (([e,f]:List Expr).length+([]:List Keyword).length+(if([]:List Keyword).isEmpty then 0 else 1)<30))=true
 line:(apos.endLine ==j2.line)=true
 trees:backTo j2 (starEach [e,f] X.env)=[(false,eval e X.env),(false,eval f X.env)]
def MW(H:Hp)(a:Addr):Prop:=(∃kvs,Rd H a (.dK kvs))\/∃kvs,Rd H a (.dT kvs)
theorem yU{X:Cx}{ak:Qqz}{Z:St}{H:Hp}{s:Shared}{a:Addr}(I:Inv X ak Z H s)(d:MW H a) :
  s.TypeIs (.ref a) "dict"/\(∀b,Value.ref a=.ref b->∃ob,s.heap.get? b=some ob/\ob.dict=none)/\(a ==sysModules)=false:=by
 rcases d with⟨kvs,e⟩|⟨kvs,e⟩
 ·obtain⟨_,hd,vs,_,dd⟩:=uI I.gX e
  refine⟨dd.typeIs,λb q=>?_,hd⟩
  cases q
  obtain⟨ob,_,_,h1,h2,_⟩:=dd
  exact⟨ob,h1,h2.2.1⟩
 ·obtain⟨_,hd,xs,_,dd⟩:=uJ I.gX e
  refine⟨dd.typeIs,λb q=>?_,hd⟩
  cases q
  obtain⟨ob,_,_,h1,h2,_⟩:=dd
  exact⟨ob,h1,h2.2.1⟩
section
variable{X:Cx}{ak:Qqz}{Z:St}{H:Hp}{s:Shared}{a:Addr}{y d:V}{u r:Value}{o:Option V}{A:Around}{E:Qqq}
theorem Kq{Q:Qqq}(hu:A.units+1<cLine)(I:Inv X ak Z H s)(g:i_ H a y o)(ry:RelV y u)(rd:RelV d r)(h:∀w' s',Inv X ak Z H s'->RelV (o.getD d) w'->Q w' s') :
  wpAny (model X.prog X.w) A (call (.builtin "dict.get") [.ref a,u,r]) Q E s:=by
 rcases g with⟨kvs,k,e,ey,l⟩|⟨kvs,k,b,e,ey,eb,l⟩
 ·subst ey
  obtain⟨z,hd,vs,rel,dd⟩:=uI I.gX e
  refine call_meetsIn PySem.F.slot_dict_get dd.typeIs PySem.F.entry_dict_get (PySem.F.args_dict_get_3 _ _ _) (meets_dict_get_default (iy X.prog X.w) a (yd ry) hd r) ⟨_,dd.mapOf,h _ _ (I.tok _) ?_⟩
  rw[l]
  exact(rel.val k).getD rd
 ·subst ey
  cases (show u=Value.ref b from ry)
  obtain⟨z,hd,xs,rel,dd⟩:=uJ I.gX e
  refine call_meetsIn PySem.F.slot_dict_get dd.typeIs PySem.F.entry_dict_get (PySem.F.args_dict_get_3 _ _ _) (meetsH_dict_get_default (tupleKind (iy X.prog X.w)) a b hd r) ⟨abn hu,k,xs,rE I.gX eb,dd,h _ _ (I.tok _) ?_⟩
  rw[l]
  exact(rel.val k).getD rd
end
def Kr(td ty tx:TE):TE:=λZ H Q=>td Z H λx H1=>∃a,x=.ref a/\MW H1 a/\ty Z H1 λy H2=>tx Z H2 λz H3=>∃o,i_ H3 a y o/\Q (o.getD z) H3
section
variable{X:Cx}{o e f:Expr}{apos j2:Pos}{td ty tx:TE}
theorem E5(hu:X.A.units+1<cLine)(ho:PE X o td)(he:PE X e ty)(hf:PE X f tx)(m:M2 X o "get" apos e f j2):PE X (.Call (.Attribute o "get" apos) [e,f] [] j2) (Kr td ty tx):=by
 intro ak s Z H Q I h
 refine wpAny_Call_method m.base m.lU m.line abT PySem.F.slot_dict_get PySem.F.type_dict_get (il (ho ak s Z H _ I h) λu s1 g9=>?_)
 obtain⟨x,H1,I1,rx,a,ex,d,q1⟩:=g9
 subst ex
 obtain rfl:u=Value.ref a:=rx
 obtain⟨t1,t2,_⟩:=yU I1 d
 refine⟨t1,t2,?_⟩
 rw[m.trees]
 refine abi rfl (abr (aa3 (il (he ak s1 Z H1 _ I1 q1) λiv s2 ⟨y,H2,I2,ry,q2⟩=>
  aa3 (il (hf ak s2 Z H2 _ I2 q2) λfv s3 ⟨z,H3,I3,rz,ov,g,q3⟩=>abk ?_))))
 exact Kq hu I3 g ry rz λw' s4 I4 BI=>⟨_,H3,I4,BI,q3⟩
end
section
variable{X:Cx}{ak:Qqz}{Z:St}{H:Hp}{s:Shared}{a:Addr}{kvs:List (Key×V)}{A:Around}{E:Qqq}
end
section
variable{X:Cx}{ak:Qqz}{Z:St}{H:Hp}{s:Shared}{a:Addr}{y:V}{u:Value}{A:Around}{E:Qqq}
end
end L2
namespace Ud
open PySem PySem.W PySem.Calls PyProof.Rows
theorem u2{P:Params}{h:Heap}:∀(ns:List Int)(vs:List Value),WellAll P h vs (ns.map WData.int)->IntsAre vs ns:=by
 intro ns
 induction ns with
 | nil=>
  intro vs w
  rw[List.map_nil] at w
  cases w
  exact .nil
 | cons n ns ih=>
  intro vs w
  rw[aam] at w
  cases w with
  | cons a b=>
   cases a
   exact .cons _ _ (ih _ b)
theorem DO{l:OpenLaw}{n:Nat}(hn:l.most=some n){P:Params}{h:Heap}{args:List WData}{vals:List Value}
  (II:l.row.toRowW.claim.pre args=true) (Jy:WellAll P h vals args) :
  ∃a vs ns,vals=[Value.ref a]/\args=[WData.list (ns.map WData.int)]/\h.get? a=some {cls:=.type "list",data:=.seq vs.toArray}/\IntsAre vs ns/\ns.length<=n:=by
 have Xe:WShape.hasAll [] args [.list .int]=true:=(pre_splitW II).1
 have hc:l.pre.holds [] {args:=args}=true:=(pre_splitW II).2
 obtain⟨d,r,rfl,h1,h2⟩:=hasAllW_cons Xe
 obtain rfl:=hasAllW_nil h2
 obtain⟨xs,rfl,h3⟩:=hasW_list h1
 obtain⟨ns,rfl⟩:=items_int h3
 have hlen:ns.length<=n:=by
  unfold OpenLaw.pre at hc
  have h4:(WTm.not (.lt (.lit (.int (n:Int))) (.len (.arg 0)))).holds [] {args:=[.list (ns.map .int)]}=true:=by
   have h4:=(holds_andW hc).1
   rw[hn] at h4
   exact h4
  have h5:=condW_of h4 (w_not (w_lt w_lit (w_len_list (w_arg rfl))))
  rw[Ou] at h5
  refine Nat.le_of_not_lt λq=>?_
  have q':(n:Int)<((ns.length:Nat):Int):=by omega
  first
   | (rw[Ug q'] at h5;exact absurd h5 (by decide))
   | (simp at h5;omega)
 cases Jy with
 | cons w1 w2=>
  cases w2
  cases w1 with
  | list ho Eu=>exact⟨_,_,ns,rfl,rfl,ho,u2 ns _ Eu,hlen⟩
theorem DP(l:OpenLaw)(args:List WData):l.row.toRowW.claim.post args (.bool true) args=true:=
 postW_of (r:=l.row.toRowW) (X:=(true ==true))
  (show WShape.has [] (.bool true) .bool=true by first|rfl|decide|simp[WShape.has,WShape.arms,WShape.armsAll])
  (show(WTm.eq .res (.lit (.bool true))).value [] {args:=args,res:=some (.bool true),after:=args}=some (.bool (true ==true)) from w_eq_bool (w_res rfl) w_lit) rfl
theorem AH{l:OpenLaw}{n:Nat}{q:Program}{loose:List Str}{XP:(Qqx)->Heap->Prop}{YP:World->Heap->Prop}{d:DefRec}
  (hn:l.most=some n) (NX:d.params.defaults=[])
  (call:∀(w:World)(s₀ s1:Shared)(mg mb:Qqx)(fa:Addr)(o:Obj)(pm cd doc:Value)(a:Addr)(vs:List Value)(ns:List Int),
   Ground q loose [] XP w s₀ mg mb s1.heap->YP w s1.heap->
   s1.heap.get? fa=some o->o.data=.func (docDef d.name d.params d.body d.scope pm cd doc)->s1.heap.CodeRec cd d.name->mg d.name=some (.ref fa)->
   s1.heap.get? a=some {cls:=.type "list",data:=.seq vs.toArray}->IntsAre vs ns->ns.length<=n->s1.gens=#[]->
   codeAny (model l.prog w) callerA (.call (.ref fa) ⟨[.ref a],[]⟩) (λr s'=>r=.ok (.ret (.bool true))/\OldK s1.heap s'.heap/\s'.os=s1.os/\AllBare s'.gens) s1) :
  WalkO q loose XP YP l.row.toRowW d [] (λf vs=>PySem.call f vs):=by
 intro w s₀ s1 mg mb G Y fa o pm cd doc dV kV ho hd yG hD NY hg args vals as II hlay hrd Jy Rt
 obtain rfl:dV=.none:=Dflts.none hD NX
 obtain rfl:kV=.none:=Dflts.noKw hD
 obtain⟨a,vs,ns,rfl,rfl,LC,hints,hlen⟩:=DO hn II Jy
 refine enter_call (abR (call w s₀ s1 mg mb fa o pm cd doc a vs ns G Y ho (fd_plain hd) yG NY LC hints hlen hg) λr s' hq=>?_)
 obtain⟨rfl,h2,h3,h4⟩:=hq
 exact⟨.inl ⟨.bool true,.bool true,[],rfl,λ_=>rfl,.bool true,DP l _,λ_=>⟨List.Pairwise.nil,λ_ hm=>(nomatch hm)⟩⟩,h2,h3,h4⟩
section
variable{prog:Program}{w:World}{A:Around}{E:Qqq}{s:Shared}{K:Frag}
def ledger(h:Heap)(L d:Addr):Qqz:=(List.range h.objs.size).filterMap λa=>if a=L\/a=d then none else(h.get? a).map λo=>(a,o)
end
end Ud
namespace L2
open PySem PySem.Spec PyProof.Rows
theorem yf:∀{vs:List Value} {ns:List Int},IntsAre vs ns->Vals (ns.map V.int) vs
 | _,_,.nil=>.nil
 | _,_,.cons n t h=>.cons ⟨t,rfl⟩ (yf h)
def Ks(H:Hp):Prop:=∀b,H b=none\/∃o xs,H b=some (.mw o (.lst xs))
theorem E6{P:Program}{w:World}{K:Qqy}{mg mb:Qqx}{CX:B4}{k:Nat}{fa a:Addr}{fd:FuncData}{x:Str}{sp:Sp}{s1:Shared}{vs:List Value}{ns:List Int}
  (KX:K.In s1.heap) (Uw:s1.heap.Ns mainGlobals mg) (hb:s1.heap.Ns builtinsNs mb) (Xf:∀x:Str,x≠"__name__"->mb x=bootBuiltins x) (Ru:s1.heap.NoLimit) (hg:s1.gens=#[])
  (ha:s1.heap.get? a=some {cls:=.type "list",data:=.seq vs.toArray}) (hi:IntsAre vs ns) (hl:ns.length<=sizeLine) (hr:jw k callerA)
  (F:∀base:Heap,K.In base->base.Ns mainGlobals mg->gS P w K mg base CX k fa fd [x] sp) (NZ:∀(s:Shared)(u:Value),BindsTo s fd ⟨[u],[]⟩ [(x,u)])
  (G_:∀H:Hp,Ks H->gP K H a (ns.map V.int)->sp [.ref a] H (λv _=>v=.bl true) λ_ _ _=>False)
  (Rv:∀H e s',CX [] H s1 (λ_ _ _=>False) e s'->False) :
  codeAny (model P w) callerA (.call (.ref fa) ⟨[.ref a],[]⟩) (λr s'=>r=.ok (.ret (.bool true))/\OldK s1.heap s'.heap/\s'.os=s1.os/\AllBare s'.gens) s1:=by
 have rv:=yf hi
 have Rw:=hi.length
 have core:∀H:Hp,Ks H->gP K H a (ns.map V.int)->og P w H s1.heap->(∀b,H b≠none->b=a)->(H a≠none->K.lookup a=none)->
   codeAny (model P w) callerA (.call (.ref fa) ⟨[.ref a],[]⟩) (λr s'=>r=.ok (.ret (.bool true))/\OldK s1.heap s'.heap/\s'.os=s1.os/\AllBare s'.gens) s1:=by
  intro H hO hS gX hA hK
  have Dt:∀{b:Addr} {o:Obj},s1.heap.get? b=some o->H b=none->(yJ s1.heap H).get? b=some o:=λe n=>EH e n
  have NU:∀{b:Addr} {o:Obj} {es:Array DictEntry} {ep:Nat},s1.heap.get? b=some o->o.data=.dict es ep->H b=none:=λ{b o es ep} e d=>by
   cases q:H b with
   | none=>rfl
   | some u=>
    have e':b=a:=hA b (by rw[q];simp)
    subst e'
    rw[ha] at e;cases e
    have d':Data.seq vs.toArray _=Data.dict es ep:=d
    cases d'
  have PN:∀{b:Addr} {m:Qqx},s1.heap.Ns b m->(yJ s1.heap H).Ns b m:=λ{b m} ⟨o,es,ep,e,d,r⟩=>⟨o,es,ep,Dt e (NU e d),d,r⟩
  have Ux:K.In (yJ s1.heap H):=λb o e=>Dt (KX b o e) (by
   cases q:H b with
   | none=>rfl
   | some u=>
    have e':b=a:=hA b (by rw[q];simp)
    subst e'
    rw[hK (by rw[q];simp)] at e;cases e)
  have hM:Mod K mg (yJ s1.heap H):=⟨Ux,PN Uw,⟨mb,PN hb,Xf⟩,let ⟨mc,h1,h2⟩:=Ru;⟨mc,PN h1,h2⟩⟩
  have e0:Ay P w K mg (yJ s1.heap H) callerA [] s1 H:=⟨rfl,hM,λb o e=>Hi e,Nat.le_of_eq (DA _ _),trivial,λb hb=>absurd (show b∈([]:List Addr) from hb) (by simp),gX,.of_eq hg⟩
  refine abR ((F _ Ux (PN Uw)).run callerA [] s1 H ⟨[.ref a],[]⟩ [.ref a] [.ref a] _ _ hr e0 (NZ s1 (.ref a)) (.cons rfl .nil) (G_ H hO hS)) λr s' h=>?_
  cases r with
  | error e=>exact(Rv H e s' h).elim
  | ok fl=>
   cases fl with
   | next=>exact False.elim h
   | brk=>exact False.elim h
   | cont=>exact False.elim h
   | ret u=>
    obtain⟨v,H',os,bare,un,Rx,r',q⟩:=h
    have q':v=.bl true:=q
    subst q'
    obtain rfl:u=Value.bool true:=r'
    refine⟨rfl,OldK.of_keep λb o e=>?_,os,bare⟩
    cases q:H b with
    | none=>exact un.keep b o e q (by intro z;exact absurd (show b∈([]:List Addr) from z) (by simp)) (by simp)
    | some u=>
     rcases hO b with z|⟨ob,xs,z⟩
     ·rw[q] at z;cases z
     ·have z2:=un.qJ b ob _ z
      obtain⟨e1,_⟩:=gX b _ z
      obtain⟨e2,_⟩:=Rx b _ z2
      rw[e] at e1;cases e1
      exact e2
 cases hk:K.lookup a with
 | some o=>
  have e:=KX a o hk
  rw[ha] at e
  cases e
  refine core (λ_=>none) (λ_=>.inl rfl) (.inr ⟨_,vs.toArray,_,hk,rfl,rfl,rfl,by rw[WZ,Rw];exact hl,by simpa using rv⟩) (λb u z=>by have z':(none:Option HO)=some u:=z;cases z') (λb z=>absurd rfl z) λz=>absurd rfl z
 | none=>
  refine core (λb=>if b=a then some (.mw {cls:=.type "list",data:=.seq vs.toArray} (.lst (ns.map V.int))) else none) (λb=>?_) (.inl (.inr ⟨{cls:=.type "list",data:=.seq vs.toArray},aah rfl⟩)) (λb u z=>?_) (λb z=>?_) λ_=>hk
  ·by_cases hb:b=a
   ·exact .inr ⟨_,_,aah hb⟩
   ·exact .inl (aab hb)
  ·by_cases hb:b=a
   ·have z':=(aah hb).symm.trans z
    cases z'
    subst hb
    exact⟨ha,by rw[Ou];exact hl,vs,_,rv,ha⟩
   ·have z':=(aab hb).symm.trans z
    cases z'
  ·by_cases hb:b=a
   ·exact hb
   ·exact absurd (aab hb) z
theorem Hw{l:W.OpenLaw}{n k:Nat}{q:Program}{loose:List Str}{XP:(Qqx)->Heap->Prop}{YP:World->Heap->Prop}{d:DefRec}{K:Params->Qqy}{CX:World->B4}{sp:World->Sp}{x:Str}
  (hn:l.most=some n) (Ly:n<=sizeLine) (NX:d.params.defaults=[]) (hr:jw k callerA)
  (hY:∀(w:World)(h:Heap),YP w h->(K w.params).In h)
  (F:∀(w:World)(mg:Qqx)(fa:Addr)(h:Heap),(K w.params).In h->h.Ns mainGlobals mg->mg d.name=some (.ref fa)->
   ∃fd:FuncData,(∀(s:Shared)(u:Value),BindsTo s fd ⟨[u],[]⟩ [(x,u)])/\
    ∀base:Heap,(K w.params).In base->base.Ns mainGlobals mg->gS l.prog w (K w.params) mg base (CX w) k fa fd [x] (sp w))
  (G_:∀(w:World)(H:Hp)(a:Addr)(ns:List Int),ns.length<=n->Ks H->gP (K w.params) H a (ns.map V.int)->sp w [.ref a] H (λv _=>v=.bl true) λ_ _ _=>False)
  (Rv:∀(w:World)(H:Hp)(s:Shared)(e:Value)(s':Shared),CX w [] H s (λ_ _ _=>False) e s'->False) :
  W.WalkO q loose XP YP l.row.toRowW d [] (λf vs=>PySem.call f vs):=by
 refine Ud.AH hn NX λw s₀ s1 mg mb fa o pm cd doc a vs ns G Y ho hd yG NY LC hints hlen hg=>?_
 have KX:=hY w _ Y
 obtain⟨fd,hb,hF⟩:=F w mg fa _ KX G.T.g NY
 exact E6 KX G.T.g G.T.b G.T.builtins G.T.nolimit hg LC hints (aag hlen Ly) hr hF hb (λH hO hS=>G_ w H a ns hlen hO hS) λH e s'=>Rv w H s1 e s'
def inClass(s:Stmt)(j:Nat):Stmt:=match s with
 | .ClassDef _ _ _ body _ _ _ _ _ _ _=>body.getD j (.Pass ⟨0,0,0,0⟩)
 | _=>.Pass ⟨0,0,0,0⟩
def mx(s:Stmt):Arguments:=match s with
 | .FunctionDef _ a _ _ _ _ _ _ _ _=>a
 | _=>{posonlyargs:=[],args:=[],vararg:=none,kwonlyargs:=[],kw_defaults:=[],kwarg:=none,defaults:=[]}
def jX(s:Stmt):List Stmt:=match s with
 | .FunctionDef _ _ b _ _ _ _ _ _ _=>b
 | _=>[]
def e_(s:Stmt):Scope:=match s with
 | .FunctionDef _ _ _ _ _ _ sc _ _ _=>sc
 | _=>{kind:=.function,names:=[],isGenerator:=false,isCoroutine:=false}
abbrev lR:B4:=λ_ _ _ _ _ _=>False
abbrev E0:XK:=λ_ _ _=>False
theorem pe{X:Cx}:Passes lR X E0:=λ_ _ _ _ _ _ _ h=>h.elim
structure uK(K:Qqy)(x qual:Str)(st:Stmt)(f:Addr)(fd:FuncData):Prop where
 ex:∃(oc:Value)(od:Option Addr)(kV doc pm:Value)(an:Option Addr)(jm ct:Value)(EC:Array (Option Value)),
  fd=W.fnOf x qual (mx st) (jX st) (e_ st) .none kV doc pm an jm ct/\K.lookup f=some ⟨oc,od,.func fd,EC⟩/\W.codeIn K jm qual=true
 kp:W.keepIn K (.ref f)=true
section
variable{P:Program}{w:World}{K:Qqy}{mg:Qqx}{base:Heap}
theorem uK.ok{x qual:Str}{st:Stmt}{f:Addr}{fd:FuncData}{N ps:List Str}{k:Nat}{sp:Sp}(F:uK K x qual st f fd)(S:fN N ps (e_ st))(len:∀vs H Q E,sp vs H Q E->vs.length=ps.length)
  (tG:∀(jm:Value)(A:Around)(outer:List Env)(s:Shared)(H:Hp)(vs:List V)(Q:VK)(E:XK),jw k (A.deeper (envOfC qual (e_ st) s.heap.objs.size f jm))->sp vs H Q E->
   ∃t,Am (tP lR P w K mg base N qual (e_ st) f jm A outer s H E).I_ (jX st) t/\t {nx:=λ_ H'=>Q .iQ H',rt:=Q} (start N vs) H):gS P w K mg base lR (k+1) f fd ps sp:=by
 obtain⟨oc,od,kV,doc,pm,an,jm,ct,EC,rfl,lk,yG⟩:=F.ex
 refine Je lk yG S len λA outer s H vs Q E hr G_=>?_
 obtain⟨t,h,q⟩:=tG jm A outer s H vs Q E hr G_
 exact⟨t,h.I_,q⟩
theorem uK.binds{x qual:Str}{st:Stmt}{f:Addr}{fd:FuncData}{ps:List Str}(F:uK K x qual st f fd)
  (h:∀(kV doc pm:Value)(an:Option Addr)(jm ct:Value)(us:List Value),us.length=ps.length->bindArgs (W.fnOf x qual (mx st) (jX st) (e_ st) .none kV doc pm an jm ct) ⟨us,[]⟩=pure (ps.zip us)):Binds K fd ps []:=by
 obtain⟨oc,od,kV,doc,pm,an,jm,ct,EC,rfl,lk,yG⟩:=F.ex
 exact .all (h kV doc pm an jm ct)
theorem E7{x qual:Str}{st:Stmt}{f:Addr}{oc:Value}{od an:Option Addr}{EC:Array (Option Value)}{kV doc pm jm ct:Value}(l:K.lookup f=some ⟨oc,od,.func (W.fnOf x qual (mx st) (jX st) (e_ st) .none kV doc pm an jm ct),EC⟩)
 (c:W.codeIn K jm qual=true) (k:W.keepIn K (.ref f)=true):uK K x qual st f (W.fnOf x qual (mx st) (jX st) (e_ st) .none kV doc pm an jm ct):=⟨⟨oc,od,kV,doc,pm,an,jm,ct,EC,rfl,l,c⟩,k⟩
end
theorem iB{A:Around}{k:Nat}(hr:jw k A):A.units+1<cLine:=abo (Nat.add_le_add_left (by decide:1<=64) _) hr.units
section
variable{X:Cx}
theorem pv(i:Nat){x:Str}{pos:Pos}(hN:X.N[i]?=some x:=by rfl)(hv:Qp X.env.scope x:=by first|exact Or.inl rfl|exact Or.inr (Or.inl rfl)|exact Or.inr (Or.inr rfl))(hd:(x ==("__debug__":Str))=false:=by decide)
 (yG:(x ==("__classdict__":Str))=false:=by decide):PE X (.Name x pos) (Mz i):=JV hN hv hd yG
end
theorem lY{A B:Prop}(h:B):if false=true then A else B:=by
 rw[aab WV]
 exact h
theorem nv{A B:Prop}(h:A):if true=true then A else B:=by
 rw[aah rfl]
 exact h
theorem tQ{c A B:Prop}[Decidable c](h1:c->A)(h2:¬c->B):if c then A else B:=by
 by_cases h:c
 ·rw[aah h]
  exact h1 h
 ·rw[aab h]
  exact h2 h
def fG(H H':Hp):Prop:=∀b o,H b=some o->H' b=some o
theorem fG.refl(H:Hp):fG H H:=λ_ _ h=>h
theorem fG.trans{H H1 H2:Hp}(a:fG H H1)(b:fG H1 H2):fG H H2:=λc o h=>b c o (a c o h)
theorem fG.free{H H':Hp}(e:fG H H'){l:Addr}(h:H' l=Option.none):H l=Option.none:=by
 cases q:H l with
 | none=>rfl
 | some o=>
  rw[e l o q] at h
  cases h
section
variable{Z:Type}[DecidableEq Z]
theorem yg{p:Z×V}{r:List (Z×V)}{k:Z}(e:p.1=k):jR (p::r) k=jR r k:=by
 unfold jR
 rw[ace,aab (by simp[e])]
theorem yh{p:Z×V}{r:List (Z×V)}{k:Z}(e:¬p.1=k):jR (p::r) k=p::jR r k:=by
 unfold jR
 rw[ace,aah (by simp[e])]
end
section
variable{prog:Program}{w:World}{A:Around}{R:Result->Shared->Prop}{s:Shared}
abbrev Hx:Qqq:=λ_ _=>False
theorem yV{elt target iter:Expr}{ifs:List Expr}{scope:Scope}{pos:Pos}{it acc:Value}{env:Env}(I:Nat->Shared->Prop)
  (turn:∀n s,I n s->wpAny (model prog w) A (pyNext it) (λr s1=>match r with
   | none=>R (.ok .next) s1
   | some v=>wpAny (model prog w) A (letOwnedTupleGo target it v) (λ_ Uy=>wpAny (model prog w) A (assign target env v) (λ_ s2=>
    wpAny (model prog w) A (forIn ifs true λc r=>if r=true then do let ok <-isTrue c env (eval c env);pure (ForInStep.yield ok) else pure (ForInStep.yield r)) (λok s3=>
     if ok=true then wpAny (model prog w) A (eval elt env) (λx s4=>wpAny (model prog w) A (call (.builtin "list.append") [acc,x]) (λ_ s5=>∃m,m<n/\I m s5) Hx s4) Hx s3
     else ∃m,m<n/\I m s3) Hx s2) Hx Uy) Hx s1) Hx s)
  (n:Nat) (h:I n s):codeAny (model prog w) A (.compLoop (.ListComp elt [⟨target,iter,ifs,0⟩] scope pos) 0 it acc env) R s:=by
 refine codeAny_loop rfl I (λn s hI=>?_) n h
 show wpAny _ A ((compTurn (.ListComp elt [⟨target,iter,ifs,0⟩] scope pos) 0 it acc env).onRaise (λx=>do noteFrame x env;theTreesLotGoes x)) _ _ s
 refine wpAny_noted ?_
 rw[compTurn_list]
 refine M9 (wpAny_standAt (M9 (abg (turn n s hI) (λr s1 h1=>?_) λ_ _ h'=>h'.elim)))
 cases r with
 | none=>exact Oz h1
 | some v=>
  refine M9 (abg h1 (λ_ Uy IJ=>?_) λ_ _ h'=>h'.elim)
  refine M9 (abg IJ (λ_ s2 h2=>M9 (abg h2 (λok s3 h3=>?_) λ_ _ h'=>h'.elim)) λ_ _ h'=>h'.elim)
  cases ok with
  | false=>exact Oz ⟨rfl,h3⟩
  | true=>
   exact M9 (M9 (abg h3 (λx s4 h4=>M9 (abg h4 (λ_ s5 h5=>Oz (Oz ⟨rfl,h5⟩)) λ_ _ h'=>h'.elim)) λ_ _ h'=>h'.elim))
end
noncomputable def iT(cells:List (Str×Addr)):List (Str×NameKind)->List (Str×Addr)->List (Str×Addr)
 | [],cs=>cs
 | (n,k)::r,cs=>iT cells r (if k ==.free then(n,(cells.lookup n).getD 0)::cs else cs)
theorem yi{cells:List (Str×Addr)}:∀{names:List (Str×NameKind)} {cs:List (Str×Addr)} {x:Str} {c:Addr},(∀y∈names,y.2=.free->∃c,cells.lookup y.1=some c)->
  (iT cells names cs).lookup x=some c->cs.lookup x=some c\/cells.lookup x=some c
 | [],_,_,_,_,h=>.inl h
 | (n,k)::r,cs,x,c,hf,h=>by
  rcases yi (λy hy=>hf y (Uk _ hy)) (show(iT cells r (if k ==.free then(n,(cells.lookup n).getD 0)::cs else cs)).lookup x=some c from h) with q|q
  ·by_cases hk:(k ==NameKind.free)=true
   ·rw[aah hk] at q
    by_cases hx:(x ==n)=true
    ·rw[abW,hx] at q
     obtain⟨c',e⟩:=hf (n,k) aae (eq_of_beq hk)
     have e:cells.lookup n=some c':=e
     rw[e] at q
     have q:some c'=some c:=q
     rw[eq_of_beq hx,e,q]
     exact .inr rfl
    ·rw[abW,abv.mpr hx] at q
     exact .inl q
   ·rw[aab hk] at q
    exact .inl q
  ·exact .inr q
theorem vP{cells:List (Str×Addr)}:∀{names:List (Str×NameKind)} {cs:List (Str×Addr)} {x:Str},(∃c,cs.lookup x=some c)->∃c,(iT cells names cs).lookup x=some c
 | [],_,_,h=>h
 | (n,k)::r,cs,x,h=>by
  refine vP (names:=r) ?_
  by_cases hk:(k ==NameKind.free)=true
  ·rw[aah hk,abW]
   cases x ==n with
   | true=>exact⟨_,rfl⟩
   | false=>exact h
  ·rw[aab hk];exact h
theorem tR{cells:List (Str×Addr)}:∀{names:List (Str×NameKind)} {cs:List (Str×Addr)} {x:Str},(x,NameKind.free)∈names->∃c,(iT cells names cs).lookup x=some c
 | [],_,_,h=>nomatch h
 | (n,k)::r,cs,x,h=>by
  rcases RT.mp h with e|h2
  ·cases e
   refine vP (names:=r) ⟨(cells.lookup n).getD 0,?_⟩
   rw[aah (by rfl),abW,beq_self_eq_true]
  ·exact tR (names:=r) h2
theorem qS{scope:Scope}{env:Env}(hf:∀y∈scope.names,y.2=.free->∃c,env.cells.lookup y.1=some c):closureFor scope env=pure (iT env.cells scope.names []):=by
 have key:∀(names:List (Str×NameKind))(cs:List (Str×Addr)),(∀y∈names,y.2=.free->∃c,env.cells.lookup y.1=some c)->
   (forIn names cs λ(x:Str×NameKind) (r:List (Str×Addr))=>(match x with
    | (name,kind)=>if(kind ==NameKind.free)=true then(do let a <-cellOf env name;pure (ForInStep.yield ((name,a)::r))) else pure (ForInStep.yield r):Sem (ForInStep (List (Str×Addr)))))=(pure (iT env.cells names cs):Sem (List (Str×Addr))):=by
  intro names
  induction names with
  | nil=>intro cs _;rfl
  | cons y r ih=>
   intro cs h
   obtain⟨n,k⟩:=y
   rw[List.forIn_cons]
   by_cases hk:(k ==NameKind.free)=true
   ·obtain⟨c,e⟩:=h (n,k) aae (eq_of_beq hk)
    have e:env.cells.lookup n=some c:=e
    have ec:cellOf env n=pure c:=by unfold cellOf;rw[e]
    simp only [hk,if_true,ec,pure_bind]
    rw[ih _ λy hy=>h y (Uk _ hy)]
    simp only [iT,hk,if_true,e,Option.getD_some]
   ·simp only [hk,acf,pure_bind,aaN]
    rw[ih _ λy hy=>h y (Uk _ hy)]
    simp only [iT,hk,acf,aaN]
 have q:=key scope.names [] hf
 simp only [closureFor]
 first
  | (rw[q];rfl)
  | (simp only [q,pure_bind])
  | exact(aaT (λt=>t >>= pure) q).trans (pure_bind _ _)
theorem pf{f:Str->NameKind->NameKind}:∀{names:List (Str×NameKind)} {x:Str},(names.map λy=>(y.1,f y.1 y.2)).lookup x=(names.lookup x).map (f x)
 | [],_=>rfl
 | (n,k)::r,x=>by
  show List.lookup x ((n,f n k)::_)=_
  rw[abW,abW]
  cases h:x ==n with
  | true=>rw[eq_of_beq h];rfl
  | false=>exact pf (names:=r)
theorem j8{scope:Scope}{env:Env}{x:Str}:(relabel scope env).names.lookup x=(scope.names.lookup x).map λk=>if(k ==.free&&env.scope.kind ==.function&&env.kindOf x ==some .cell)=true then .cell else k:=by
 have e:(relabel scope env).names=scope.names.map λy=>(y.1,(λ(n:Str) (k:NameKind)=>if(k ==.free&&env.scope.kind ==.function&&env.kindOf n ==some .cell)=true then NameKind.cell else k) y.1 y.2):=by
  show(scope.names.map _)=_
  refine abU λy _=>?_
  obtain⟨n,k⟩:=y
  show(if(k ==.free&&env.scope.kind ==.function&&env.kindOf n ==some .cell)=true then(n,NameKind.cell) else(n,k))=(n,if(k ==.free&&env.scope.kind ==.function&&env.kindOf n ==some .cell)=true then NameKind.cell else k)
  split<;>rfl
 rw[e]
 exact pf (f:=λ(n:Str) (k:NameKind)=>if(k ==.free&&env.scope.kind ==.function&&env.kindOf n ==some .cell)=true then NameKind.cell else k)
def blank:List Nat->St->St
 | [],Z=>Z
 | i::r,Z=>blank r (Z.set i none)
theorem yj:∀{is:List Nat} {Z:St},(blank is Z).length=Z.length
 | [],_=>rfl
 | i::r,Z=>by
  show(blank r (Z.set i none)).length=_
  rw[yj,aci]
theorem yW{Z:St}{i j:Nat}{v:V}(h:(Z.set i none)[j]?=some (some v)):Z[j]?=some (some v)/\j≠i:=by
 by_cases e:j=i
 ·subst e
  by_cases hl:j<Z.length
  ·rw[aa5 hl] at h;cases h
  ·rw[List.getElem?_eq_none_iff.mpr (by rw[aci];omega)] at h;cases h
 ·rw[abf (abz e)] at h
  exact⟨h,e⟩
theorem yk:∀{is:List Nat} {Z:St} {j:Nat} {v:V},(blank is Z)[j]?=some (some v)->Z[j]?=some (some v)/\j∉is
 | [],_,_,_,h=>⟨h,by simp⟩
 | i::r,Z,j,v,h=>by
  obtain⟨h1,h2⟩:=yk (is:=r) (Z:=Z.set i none) h
  obtain⟨h3,h4⟩:=yW h1
  exact⟨h3,λm=>(RT.mp m).elim h4 h2⟩
def DQ(N:List Str)(out:List (Str×NameKind))(is:List Nat)(names:List (Str×NameKind)):Bool:=
 (names.all λy=>y.2 != .cell&&(y.2 != .free||out.lookup y.1 ==some .cell||out.lookup y.1 ==some .free)&&(y.2 != .local||names.lookup y.1 ==some .local))&&
 (N.zipIdx.all λp=>names.lookup p.1 != some .local||is.contains p.2)
structure yX(N:List Str)(out:List (Str×NameKind))(is:List Nat)(names:List (Str×NameKind)):Prop where
 B_:∀y∈names,y.2≠.cell
 free:∀y∈names,y.2=.free->out.lookup y.1=some .cell\/out.lookup y.1=some .free
 loc:∀y∈names,y.2=.local->names.lookup y.1=some .local
 own:∀(i:Nat)(x:Str),N[i]?=some x->names.lookup x=some .local->i∈is
theorem yX.of{N:List Str}{out:List (Str×NameKind)}{is:List Nat}{names:List (Str×NameKind)}(h:DQ N out is names=true):yX N out is names:=by
 unfold DQ at h
 rw[aaH] at h
 obtain⟨h1,h2⟩:=h
 have a:=abX.mp h1
 have b:=abX.mp h2
 refine⟨λy hy e=>?_,λy hy e=>?_,λy hy e=>?_,λi x hi e=>?_⟩
 ·have q:=a y hy
  rw[e] at q
  simp at q
 ·have q:=a y hy
  simp only [e,aaH,acj,bne_self_eq_false,aaN,false_or,abD] at q
  rcases q.1.2 with z|z
  ·exact .inl z
  ·exact .inr z
 ·have q:=a y hy
  simp only [e,aaH,acj,bne_self_eq_false,aaN,false_or,abD] at q
  exact q.2
 ·have hm:(x,i)∈N.zipIdx:=by
   rw[aaK]
   exact⟨i,by rw[List.getElem?_zipIdx,hi];simp⟩
  have q:=b (x,i) hm
  simp only [e,acj,bne_self_eq_false,aaN,false_or] at q
  exact List.contains_iff_mem.mp q
noncomputable def Cx.block(X:Cx)(scope:Scope)(cl:List (Str×Addr))(C:Addr)(s:Shared)(H:Hp)(ex:List Addr):Cx:=
 {X with env:=compEnvC scope cl C X.env,s₀:=s,H₀:=H,outer:=X.stack,ex:=ex,fn:=λ_=>false,pn:=[],xe:=Hx}
section
variable{X:Cx}{ak:Qqz}{Z:St}{H:Hp}{s:Shared}{scope:Scope}{is:List Nat}{ex:List Addr}{C:Addr}
theorem vQ(I:Inv X ak Z H s)(hs:yX X.N X.env.scope.names is scope.names):∀y∈scope.names,y.2=.free->∃c,X.env.cells.lookup y.1=some c:=λy hy e=>I.ok.has y.1 (hs.free y hy e)
theorem lg(I:Inv X ak Z H s)(hs:yX X.N X.env.scope.names is scope.names){x:Str}{c:Addr}(h:(iT X.env.cells scope.names []).lookup x=some c):X.env.cells.lookup x=some c:=
 (yi (vQ I hs) h).resolve_left λz=>nomatch z
theorem E8(I:Inv X ak Z H s)(hs:yX X.N X.env.scope.names is scope.names)(hk:scope.kind=.function)(hC:s.heap.objs.size<=C)(hf:∀b∈ex,rB X ak H b)(ho:∀b∈ex,∃o,s.heap.get? b=some o) :
  (X.block scope (iT X.env.cells scope.names []) C s H ex).Ok where
 mod:=I.ok.mod
 kind:=hk
 glob:=I.ok.glob
 blt:=I.ok.blt
 above:=hC
 inj:=λx y c h1 h2=>I.ok.inj x y c (lg I hs h1) (lg I hs h2)
 has:=λx hx=>by
  have hx:(relabel scope X.env).names.lookup x=some .cell\/(relabel scope X.env).names.lookup x=some .free:=hx
  rw[j8] at hx
  cases e:scope.names.lookup x with
  | none=>
   rw[e] at hx
   rcases hx with z|z<;>cases z
  | some k=>
   have hm:(x,k)∈scope.names:=abl e
   have hk:k=.free:=by
    rw[e] at hx
    cases k with
    | free=>rfl
    | cell=>exact absurd rfl (hs.B_ _ hm)
    | _=>rcases hx with z|z<;>simp at z
   subst hk
   exact tR hm
 IY:=λ_ _ h=>Bool.noConfusion h
 hd:=I.ok.hd
 frames:=I.ok.frames
 JT:=.inl rfl
 Mx:=λb hb=>by
  obtain⟨o,e⟩:=ho b hb
  exact⟨aar (aal (aac e) hC),λx c h=>(hf b hb).2.2.2.2.1 x c (lg I hs h)⟩
 bs:=I.bs
 Ez:=aag I.ok.Ez I.sz
 pz:=λb o e hb=>by
  rcases(hf b hb).2.2.2.1 with z|z
  ·exact I.ok.pz b o e z
  ·exact absurd (aal (aac (I.ok.bs b o e).1) z) (aba _)
 BU:=λb hb hm=>by
  rcases RT.mp (I.tL b hm) with z|z
  ·exact(hf b hb).2.1 z
  ·exact(hf b hb).2.2.1 z
 pC:=I.stack
 EA:=I.vk
theorem DR{h':Heap}{t':Nat}{pl:Qqz}(I:Inv X ak Z H s)(hs:yX X.N X.env.scope.names is scope.names)(hk:scope.kind=.function)(hC:s.heap.objs.size<=C)(hf:∀b∈ex,rB X ak H b)(ho:∀b∈ex,∃o,s.heap.get? b=some o)
  (old:∀b o,s.heap.get? b=some o->h'.get? b=some o) {m:Qqx} (hn:h'.Ns C m)
  (hp:∀p∈pl,h'.get? p.1=some p.2/\s.heap.objs.size<=p.1/\p.1≠C/\∀v,p.2.data≠.cell v) :
  Inv (X.block scope (iT X.env.cells scope.names []) C s H ex) pl (blank is Z) H {s with heap:=h',toks:=t'} where
 ok:=E8 I hs hk hC hf ho
 os:=rfl
 bare:=I.bare
 base:=Un.kept old
 loc:=⟨m,hn,λi x v h1 h2 h3=>by
  have h3:(relabel scope X.env).names.lookup x=some .local\/(relabel scope X.env).names.lookup x=some .cell\/(relabel scope X.env).names.lookup x=some .free:=h3
  obtain⟨h2,hi⟩:=yk h2
  have h1:X.N[i]?=some x:=h1
  cases e:scope.names.lookup x with
  | none=>
   rw[j8,e] at h3
   rcases h3 with z|z|z<;>cases z
  | some k=>
   have hm:(x,k)∈scope.names:=abl e
   have hk:k=.free:=by
    rw[j8,e] at h3
    cases k with
    | free=>rfl
    | cell=>exact absurd rfl (hs.B_ _ hm)
    | «local»=>exact absurd (hs.own i x h1 e) hi
    | _=>rcases h3 with z|z|z<;>simp at z
   subst hk
   have hv:X.env.scope.names.lookup x=some .cell\/X.env.scope.names.lookup x=some .free:=hs.free _ hm rfl
   obtain⟨m0,_,hl⟩:=I.loc
   obtain⟨u,r,q⟩:=hl i x v h1 h2 (.inr hv)
   refine⟨u,r,.inr ⟨?_,?_⟩⟩
   ·show(relabel scope X.env).names.lookup x=some .cell\/(relabel scope X.env).names.lookup x=some .free
    rw[j8,e]
    show some (if _ then NameKind.cell else NameKind.free)=_\/some (if _ then NameKind.cell else NameKind.free)=_
    split
    ·exact .inl rfl
    ·exact .inr rfl
   ·rcases q with⟨z,_⟩|⟨_,c,ec,cc⟩
    ·have z:X.env.scope.names.lookup x=some .local:=z
     rcases hv with hv|hv<;>rw[hv] at z<;>cases z
    ·obtain⟨c',e'⟩:=tR (cells:=X.env.cells) (cs:=[]) hm
     have e2:=lg I hs e'
     rw[ec] at e2
     cases e2
     obtain⟨o,ho,hd⟩:=cc
     exact⟨c,e',o,old _ _ ho,hd⟩⟩
 cell:=λx c h=>by
  obtain⟨v,o,ho,hd⟩:=I.cell x c (lg I hs h)
  exact⟨v,o,old _ _ ho,hd⟩
 free:=I.gX.fresh hC
 kC:=λx c h=>I.kC x c (lg I hs h)
 pin:=λp Ry=>by
  obtain⟨h1,h2,h3,h4⟩:=hp p (by simpa[Cx.block] using Ry)
  refine⟨h1,I.gX.fresh h2,h3,λhm=>?_,h4⟩
  rcases RT.mp (I.tL p.1 hm) with z|z
  ·exact absurd (aal I.lt (by rw[<-z];exact h2)) (aba _)
  ·exact I.My h2 z
 gX:=I.gX.kept old
 len:=by rw[yj];exact I.len
end
theorem j9{X:Cx}{scope:Scope}{cl:List (Str×Addr)}{C:Addr}{s:Shared}{H:Hp}{ex:List Addr}:(X.block scope cl C s H ex).K=X.K:=rfl
theorem PE.eqv{X:Cx}{e:Expr}{t t':TE}(h:PE X e t')(q:t'=t):PE X e t:=q▸h
def Kt(X:Cx)(ifs:List Expr)(t:TT):Prop:=
 ∀(ak:Qqz)(s:Shared)(Z:St)(H:Hp)(Q:Bool->Hp->Prop),Inv X ak Z H s->t Z H Q->
  wpAny (model X.prog X.w) X.A (forIn ifs true λc r=>if r=true then do let ok <-isTrue c X.env (eval c X.env);pure (ForInStep.yield ok) else pure (ForInStep.yield r)) (TP X ak Z Q) X.xe s
def QR:TT:=λ_ H Q=>Q true H
theorem yY{X:Cx}:Kt X [] QR:=λ_ _ _ H _ I h=>wpAny_tests_nil ⟨H,I,h⟩
theorem oq{X:Cx}{c:Expr}{t:TT}(h:PT X c t):Kt X [c] t:=λak s Z H Q I hw=>wpAny_tests_one (h ak s Z H Q I hw)
def DS(g:TG)(tt:TT)(te:TE)(J:It)(Q:List V->Hp->Prop)(Z:St)(H:Hp):Prop:=
 ∃W:Nat->Nat->List V->St->Hp->Prop,(∃m,W 0 m [] Z H)/\∀i m ys Z H,W i m ys Z H->
  (J.stop i H/\ys.length<=sizeLine/\Q ys H)\/
  (J.go i H/\ys.length<=sizeLine/\∃N:List V->St->Hp->Prop,(∀Mh Z' H',N Mh Z' H'->∃m',m'<m/\W (i+1) m' Mh Z' H')/\
   ∀x H',J.G6 i H x H'->g x Z H' λZ2 H2=>tt Z2 H2 λb H3=>if b=true then te Z2 H3 λv H4=>N (ys++[v]) Z2 H4 else N ys Z2 H3)
def Pr(is:List Nat)(wi:TI)(g:TG)(tt:TT)(te:TE):TE:=λZ H Q=>wi Z H λJ H1=>DS g tt te J (λys H2=>∀p,H2 p=none->Q (.ref p) (upd H2 p (.lst ys))) (blank is Z) H1
section
variable{P:Program}{w:World}
theorem og.MX{H:Hp}{h:Heap}{a:Addr}{o:HO}(x:og P w H h)(hn:H a=none)(new:ia P w (upd H a o) h a o):og P w (upd H a o) h:=λb u q=>by
 by_cases hb:b=a
 ·subst hb;rw[a_] at q;cases q;exact new
 ·rw[c_ hb] at q
  exact(x b u q).rZ (λ_ _ _ r=>r) (λc r=>by rw[c_ (fz r hn)];exact r) λc xs r=>by rw[c_ (fz r hn)];exact r
end
abbrev yZ(ys:List Value)(n:Nat):Obj:={cls:=.type "list",data:=.seq ys.toArray n}
section
variable{X:Cx}{ak:Qqz}{Z:St}{H:Hp}{s:Shared}{scope:Scope}{is:List Nat}
theorem yl{E:Qqq}{elt tg iter:Expr}{ifs:List Expr}{pos:Pos}{it:Addr}{fp:List Addr}{tn:Nat->Heap->Prop}{J:It}{g:TG}{tt:TT}{te:TE}{Fin:List V->Hp->Prop}{RR:Value->Addr->Result->Shared->Prop}
  (I:Inv X ak Z H s) (hc:X.calm=true) (hs:yX X.N X.env.scope.names is scope.names) (hk:scope.kind=.function)
  (hg:∀C s H ex,PG (X.block scope (iT X.env.cells scope.names []) C s H ex) tg g) (ht:∀C s H ex,Kt (X.block scope (iT X.env.cells scope.names []) C s H ex) ifs tt)
  (he:∀C s H ex,PE (X.block scope (iT X.env.cells scope.names []) C s H ex) elt te)
  (T:Turn X.prog X.w X.K tg J fp it tn) (st:tn 0 s.heap) (hf:∀b∈fp,rB X ak H b) (h:DS g tt te J Fin (blank is Z) H)
  (Xg:∀(D C:Addr)(ys:List V)(fW:List Value)(n:Nat)(H':Hp)(s':Shared)(m:Qqx),s.heap.objs.size<=D->s.heap.objs.size<=C->D≠C->s'.heap.Ns C m->s'.heap.get? D=some (yZ fW n)->Vals ys fW->ys.length<=sizeLine->
   H' D=none->H' C=none->s'.os=s.os->AllBare s'.gens->Un (pd X.stack) fp H H' s.heap s'.heap->og X.prog X.w H' s'.heap->Fin ys H'->RR (.ref D) C (.ok .next) s') :
  wpAny (model X.prog X.w) X.A (newList []) (λacc s3=>wpAny (model X.prog X.w) X.A (newFunctionEnv scope X.env.globals (iT X.env.cells scope.names []) [] X.env.qual none .none (some X.env)) (λN0 s4=>
   codeAny (model X.prog X.w) X.A (.compStart (.ListComp elt [⟨tg,iter,ifs,0⟩] scope pos) 0 (.ref it) acc {N0 with scope:=relabel scope X.env}) (RR acc N0.locals) s4) E s3) E s:=by
 refine abd (wpAny_newFunctionEnv hs.B_ (by intro y hy;simp at hy) (λh1 LD IK=>?_) hk)
 dsimp only at LD IK ⊢
 generalize Rz:s.heap.push {cls:=.type "list",dict:=none,data:=.seq ([]:List Value).toArray}=H2 at LD IK ⊢
 have hC:H2.objs.size=s.heap.objs.size+1:=by rw[<-Rz,abm]
 have IL:s.heap.objs.size≠H2.objs.size:=by rw[hC];exact aar (abE _)
 have N1:s.heap.objs.size<=H2.objs.size:=by rw[hC];exact abS _
 have below:∀b,b<s.heap.objs.size->b≠H2.objs.size/\b≠s.heap.objs.size:=λb hb=>⟨by rw[hC];exact aar (ab9 hb),aar hb⟩
 have old:∀b o,s.heap.get? b=some o->h1.get? b=some o:=λb o e=>IK.extBut b o (below b (aac e)).1 (QY _ (Rz▸QY _ e))
 have qO:h1.get? s.heap.objs.size=some (yZ [] 0):=IK.extBut _ _ IL (QY _ (Rz▸WO _ rfl))
 have N3:∀b∈fp,∃o,s.heap.get? b=some o:=λb hb=>let ⟨o,e,_⟩:=T.obj 0 _ st b hb;⟨o,e⟩
 have Uz:∀b∈fp,b≠s.heap.objs.size:=λb hb=>let ⟨o,e⟩:=N3 b hb;(below b (aac e)).2
 have Xh:∀b∈fp,b≠H2.objs.size:=λb hb=>let ⟨o,e⟩:=N3 b hb;(below b (aac e)).1
 generalize hD:s.heap.objs.size=D at *
 generalize hCC:H2.objs.size=C at *
 have N4:∀x c,(iT X.env.cells scope.names []).lookup x=some c->c≠D:=λx c e z=>by
  obtain⟨v,q⟩:=I.cell x c (lg I hs e)
  exact absurd q.lt (by rw[z,hD];exact aba _)
 let XB:=X.block scope (iT X.env.cells scope.names []) C s H fp
 have I1:Inv XB [(D,yZ [] 0)] (blank is Z) H {s with heap:=h1,toks:=s.toks+([]:List (Str×Value)).length}:=
  DR I hs hk (by rw[hD];exact N1) hf N3 old LD λp hp=>by
   rw[Oy.mp hp]
   exact⟨qO,Nat.le_of_eq hD,IL,λv z=>nomatch z⟩
 have RA:∀{pl:Qqz} {H':Hp},(∀p∈pl,p.1=D)->(∀b∈fp,H' b=none)->∀b∈fp,rB XB pl H' b:=λ{pl H'} n_ hn b hb=>
  ⟨hn b hb,Xh b hb,λhm=>by
   rcases RT.mp (I.tL b hm) with z|z
   ·exact(hf b hb).2.1 z
   ·exact(hf b hb).2.2.1 z,.inl hb,λx c e=>(hf b hb).2.2.2.2.1 x c (lg I hs e),λp hp=>by
   have hp:p∈pl:=by simpa[XB,Cx.block] using hp
   rw[n_ p hp]
   exact abz (Uz b hb)⟩
 obtain⟨W,⟨m0,w0⟩,turn⟩:=h
 have Ew:tn 0 h1:=T.keep _ _ _ st λb _ o e=>old b o e
 have loop:codeAny (model X.prog X.w) X.A (.compLoop (.ListComp elt [⟨tg,iter,ifs,0⟩] scope pos) 0 (.ref it) (.ref D) (compEnvC scope (iT X.env.cells scope.names []) C X.env)) (RR (.ref D) C) {s with heap:=h1,toks:=s.toks+([]:List (Str×Value)).length}:=by
  refine yV (λk s'=>∃i ys fW n Z' H',Inv XB [(D,yZ fW n)] Z' H' s'/\Vals ys fW/\tn i s'.heap/\(∀b∈fp,H' b=none)/\W i k ys Z' H') ?_ m0 ⟨0,[],[],0,_,_,I1,.nil,Ew,λb hb=>(hf b hb).1,w0⟩
  rintro k s3 ⟨i,ys,fW,n,Z3,H3,I3,vs,L7,NR,w3⟩
  have n_:∀p∈[(D,yZ fW n)],p.1=D:=λp hp=>by rw[Oy.mp hp]
  rcases turn i k ys Z3 H3 w3 with⟨stop,hz,qn⟩|⟨go,hz,N,hN,step⟩
  ·refine il (T.done XB rfl rfl rfl hc i _ s3 Z3 H3 Hx I3 (RA n_ NR) L7 stop) λr s4 g9=>?_
   obtain⟨hr,I4⟩:=g9
   subst hr
   obtain⟨m',Mg,_⟩:=I4.loc
   have pD:=I4.pin (D,yZ fW n) (by simp[XB,Cx.block])
   exact Xg D C ys fW n H3 s4 m' (Q2 _) N1 IL Mg pD.1 vs hz pD.2.1 I4.free I4.os I4.bare I4.base I4.gX qn
  ·refine il (T.item XB rfl rfl rfl hc i _ s3 Z3 H3 Hx I3 (RA n_ NR) L7 go) λr s4 g9=>?_
   obtain⟨u,hr,h4⟩:=g9
   subst hr
   refine il h4 λ_ s5 g9=>?_
   obtain⟨x,H5,I5,r5,y5,Lw,Rl⟩:=g9
   have Rm:=I5.pinned (RA n_ Rl) (T.obj _ _ Lw)
   refine il (hg C s H fp _ s5 Z3 H5 x u _ Rm r5 (step x H5 y5)) λ_ s6 g9=>?_
   obtain⟨Z6,H6,I6,q6⟩:=g9
   have tH:∀{Z7:St} {H7:Hp} {s7:Shared},Inv XB ([(D,yZ fW n)]++vJ fp s5.heap) Z7 H7 s7->tn (i+1) s7.heap/\∀b∈fp,H7 b=none:=λ{Z7 H7 s7} I7=>
    ⟨T.keep _ _ _ Lw λb hb o e=>(I7.pin (b,o) (aas _ (aas _ (oj hb e)))).1,λb hb=>by
     obtain⟨o,e,d⟩:=T.obj _ _ Lw b hb
     exact(I7.pin (b,o) (aas _ (aas _ (oj hb e)))).2.1⟩
   refine il (ht C s H fp _ s6 Z6 H6 _ I6 q6) λok s7 g9=>?_
   obtain⟨H7,I7,q7⟩:=g9
   cases ok with
   | false=>
    rw[aab WV] at q7 ⊢
    obtain⟨m',hm,w7⟩:=hN _ _ _ q7
    exact⟨m',hm,i+1,ys,fW,n,Z6,H7,I7.se,vs,(tH I7).1,(tH I7).2,w7⟩
   | true=>
    rw[aah rfl] at q7 ⊢
    refine il (he C s H fp _ s7 Z6 H7 _ I7 q7) λy s8 g9=>?_
    obtain⟨v,H8,I8,r8,n8⟩:=g9
    obtain⟨m',hm,w8⟩:=hN _ _ _ n8
    obtain⟨Xi,Xj⟩:=tH I8
    have pD:=I8.pin (D,yZ fW n) (by simp)
    have hl:=vs.length
    refine append_at (hsz:=by show fW.toArray.size<=sizeLine;rw[WZ,<-hl];exact hz) pD.1 λh9 UA e9=>?_
    have I9:Inv XB [] Z6 H8 {s8 with heap:=h9}:=by
     have J8:Inv XB [] Z6 H8 s8:=I8.vp λp hp=>nomatch hp
     exact J8.turned (t':=s8.toks) (it:=D) (λb o hb e=>UA.extBut b o hb e) pD.2.1 IL (.inr (Nat.le_of_eq hD)) (λx c e=>N4 x c e) λp hp=>by simp[XB,Cx.block] at hp
    refine⟨m',hm,i+1,ys++[v],fW++[y],n+1,Z6,H8,I9.vp λp hp=>?_,vs.append (.cons r8 .nil),T.keep _ _ _ Xi λb hb o e=>UA.extBut b o (Uz b hb) e,Xj,w8⟩
    rw[Oy.mp hp]
    refine⟨?_,pD.2.1,IL,λhm=>?_,λv z=>nomatch z⟩
    ·rw[e9]
     show some _=some _
     rw[List.push_toArray]
    ·exact pD.2.2.2.1 hm
 exact codeAny_compStart_list loop (T.self _ 0 _ _ _ Ew loop)
variable{elt tg iter:Expr}{ifs:List Expr}{pos GD py:Pos}{wi:TI}{g:TG}{tt:TT}{te:TE}
theorem uL{D:Addr}{ys:List V}{fW:List Value}{n:Nat}{H':Hp}{s':Shared}{fp:List Addr}(I:Inv X ak Z H s)(hf:∀b∈fp,rB X ak H b)(hD:s.heap.objs.size<=D)(e:s'.heap.get? D=some (yZ fW n))(vs:Vals ys fW)(hz:ys.length<=sizeLine)
  (nD:H' D=none) (os:s'.os=s.os) (bare:AllBare s'.gens) (un:Un (pd X.stack) fp H H' s.heap s'.heap) (gX:og X.prog X.w H' s'.heap):Inv X ak Z (upd H' D (.lst ys)) s':=by
 have Xk:∀b o,s.heap.get? b=some o->b≠D:=λb o q=>aar (aal (aac q) hD)
 refine I.IZ (ch:=fp) os ⟨un.keep,un.slot,λb o q nn hx=>by rw[c_ (Xk b o q)];exact un.free b o q nn hx,un.there,λb xs q=>?_,λb o u q=>?_,λb ps q=>?_⟩ (gX.MX nD ⟨hz,fW,n,vs,e⟩) bare λb hb=>?_
 ·have q':=un.oh b xs q
  rw[c_ (fz q' nD)];exact q'
 ·have q':=un.qJ b o u q
  rw[c_ (fz q' nD)];exact q'
 ·obtain⟨more,q'⟩:=un.r9 b ps q
  exact⟨more,by rw[c_ (fz q' nD)];exact q'⟩
 ·obtain⟨f0,f1,f2,f3,f4,f5⟩:=hf b hb
  exact⟨f3,f1,f4,f5⟩
theorem vR{C:Addr}{h':Heap}{s0:Shared}(I:Inv X ak Z H s)(hC:s0.heap.objs.size<=C)(nC:H C=none)(Jz:Heap.SameBut C s.heap h')(I0:∃Z0 H0,Inv X ak Z0 H0 s0):Inv X ak Z H {s with heap:=h'}:=by
 obtain⟨Z0,H0,I0⟩:=I0
 obtain⟨_,f1,_,f3,f4,f5⟩:=I0.vH (H':=λ_=>none) hC rfl
 exact I.turned (t':=s.toks) (λb o hb e=>Jz.extBut b o hb e) nC f1 f3 f4 f5
theorem C6(N:List Str)(out:List (Str×NameKind))(is:List Nat)(hc:X.calm=true)(hi:PI X tg iter wi)(hk:scope.kind=.function)(hs:DQ N out is scope.names=true)
  (hg:∀C s H ex,PG (X.block scope (iT X.env.cells scope.names []) C s H ex) tg g) (ht:∀C s H ex,Kt (X.block scope (iT X.env.cells scope.names []) C s H ex) ifs tt)
  (he:∀C s H ex,∃t,PE (X.block scope (iT X.env.cells scope.names []) C s H ex) elt t/\t=te) (Ex:∀x,foldedSetIterable iter X.env x=pure x:=by intro _;rfl) (eN:X.N=N:=by rfl) (eo:X.env.scope.names=out:=by rfl) :
  PE X (.ListComp elt [⟨tg,iter,ifs,0⟩] scope pos) (Pr is wi g tt te):=by
 intro ak s Z H Q I h
 subst eN eo
 have S:=yX.of hs
 rw[eval_ListComp]
 refine wpAny_comprehension_free (use:=none) rfl Ex (qS (vQ I S)) hk S.loc (il (hi ak s Z H _ I h) λv s1 h1=>il h1 λPJ s2 h2=>?_)
 obtain⟨it,fp,tn,J,H2,rfl,I2,T,xU,f2,h2⟩:=h2
 refine yl (RR:=λacc C=>compPost (model X.prog X.w) X.A X.xe none (EP X ak Z Q) acc C) I2 hc S hk hg ht (λC s H ex=>let ⟨_,h,e⟩:=he C s H ex;PE.eqv h e) T xU f2 h2 ?_
 intro D C ys fW n H' s' m hD hC IL hn e vs hz nD nC os bare un gX q
 have J1:Inv X ak Z (upd H' D (.lst ys)) s':=uL I2 f2 hD e vs hz nD os bare un gX
 refine⟨m,hn,λh' Jz=>⟨.ref D,_,vR J1 hC (by rw[c_ (abz IL)];exact nC) Jz ⟨_,_,I2⟩,rfl,q D nD⟩⟩
theorem Ji{y:Str}{j:Nat}(N:List Str)(out:List (Str×NameKind))(is:List Nat)(hN:X.N.Nodup)(hj:X.N[j]?=some y)(hy:X.env.scope.names.lookup y=some .local)(hc:X.calm=true)(hi:PI X tg iter wi)(hk:scope.kind=.function)(hs:DQ N out is scope.names=true)
  (hg:∀C s H ex,PG (X.block scope (iT X.env.cells scope.names []) C s H ex) tg g) (ht:∀C s H ex,Kt (X.block scope (iT X.env.cells scope.names []) C s H ex) ifs tt)
  (he:∀C s H ex,∃t,PE (X.block scope (iT X.env.cells scope.names []) C s H ex) elt t/\t=te)
  (RB:swapsWith (.ListComp elt [⟨tg,iter,ifs,0⟩] scope pos) (some (.Name y py)) GD.line X.env=pure true:=by rfl) (Ex:∀x,foldedSetIterable iter X.env x=pure x:=by intro _;rfl) (eN:X.N=N:=by rfl) (eo:X.env.scope.names=out:=by rfl) :
  PS X (.Assign [.Name y py] (.ListComp elt [⟨tg,iter,ifs,0⟩] scope pos) GD) (EK (Pr is wi g tt te) (nj j)):=by
 intro ak s Z H Dn I h
 subst eN eo
 have S:=yX.of hs
 rw[exec_Assign_Name_used _ _ _ _ RB]
 refine M9 (wpAny_standAt (M9 ?_))
 show wpAny _ _ (do let _ <-comprehension (.ListComp elt [⟨tg,iter,ifs,0⟩] scope pos) scope X.env _ (newList []) false (eval iter X.env) (some (assign (.Name y py) X.env))) _ _ s
 refine M9 (abg (wpAny_comprehension_free (use:=some (assign (.Name y py) X.env)) (Q:=λ_ s'=>SP X ak Dn .next s') rfl Ex (qS (vQ I S)) hk S.loc
  (il (hi ak s Z H _ I h) λv s1 h1=>il h1 λPJ s2 h2=>?_)) (λ_ s' hq=>Oz (Oz hq)) λ_ _ e=>e)
 obtain⟨it,fp,tn,J,H2,rfl,I2,T,xU,f2,h2⟩:=h2
 refine yl (RR:=λacc C=>compPost (model X.prog X.w) X.A X.xe (some (assign (.Name y py) X.env)) (λ_ s'=>SP X ak Dn .next s') acc C) I2 hc S hk hg ht (λC s H ex=>let ⟨_,h,e⟩:=he C s H ex;PE.eqv h e) T xU f2 h2 ?_
 intro D C ys fW n H' s' m hD hC IL hn e vs hz nD nC os bare un gX q
 have J1:Inv X ak Z (upd H' D (.lst ys)) s':=uL I2 f2 hD e vs hz nD os bare un gX
 show wpAny _ _ (assign (.Name y py) X.env (.ref D)) _ _ _
 refine wpAny_assign_Name (x5 J1 hN hj (.inl hy) (v:=.ref D) rfl (λs5 J5 g9=>?_) (.inr hy))
 obtain⟨a,sb,ha⟩:=g9
 have Xl:C≠a:=by
  obtain⟨_,f1,_,f3,f4,f5⟩:=I2.vH (H':=λ_=>none) hC rfl
  rcases ha with z|z
  ·rw[z];exact f1
  ·exact λq=>f4 _ _ z q.symm
 exact⟨m,hn.sameBut sb Xl,λh' Jz=>⟨_,_,vR J5 hC (by rw[c_ (abz IL)];exact nC) Jz ⟨_,_,I2⟩,q D nD⟩⟩
end
section
variable{X:Cx}{elt tg iter:Expr}{ifs:List Expr}{scope:Scope}{pos:Pos}{wi:TI}{g:TG}{tt:TT}{te:TE}{py GD:Pos}
theorem vS(N:List Str)(out:List (Str×NameKind))(is:List Nat)(hc:X.calm=true)(hi:PI X tg iter wi)(hk:scope.kind=.function)(hs:DQ N out is scope.names=true)
 (hg:∀C s H ex,PG (X.block scope (iT X.env.cells scope.names []) C s H ex) tg g) (ht:∀C s H ex,∃t,Kt (X.block scope (iT X.env.cells scope.names []) C s H ex) ifs t/\t=tt)
 (he:∀C s H ex,∃t,PE (X.block scope (iT X.env.cells scope.names []) C s H ex) elt t/\t=te) (Ex:∀x,foldedSetIterable iter X.env x=pure x:=by intro _;rfl) (eN:X.N=N:=by rfl) (eo:X.env.scope.names=out:=by rfl) :
 PE X (.ListComp elt [⟨tg,iter,ifs,0⟩] scope pos) (Pr is wi g tt te):=C6 N out is hc hi hk hs hg (λC s H ex=>let ⟨_,h,e⟩:=ht C s H ex;e▸h) he Ex eN eo
theorem y0{y:Str}{j:Nat}(N:List Str)(out:List (Str×NameKind))(is:List Nat)(hN:X.N.Nodup)(hj:X.N[j]?=some y)(hy:X.env.scope.names.lookup y=some .local)(hc:X.calm=true)(hi:PI X tg iter wi)(hk:scope.kind=.function)(hs:DQ N out is scope.names=true)
 (hg:∀C s H ex,PG (X.block scope (iT X.env.cells scope.names []) C s H ex) tg g) (ht:∀C s H ex,∃t,Kt (X.block scope (iT X.env.cells scope.names []) C s H ex) ifs t/\t=tt)
 (he:∀C s H ex,∃t,PE (X.block scope (iT X.env.cells scope.names []) C s H ex) elt t/\t=te)
 (RB:swapsWith (.ListComp elt [⟨tg,iter,ifs,0⟩] scope pos) (some (.Name y py)) GD.line X.env=pure true:=by rfl) (Ex:∀x,foldedSetIterable iter X.env x=pure x:=by intro _;rfl) (eN:X.N=N:=by rfl) (eo:X.env.scope.names=out:=by rfl) :
 PS X (.Assign [.Name y py] (.ListComp elt [⟨tg,iter,ifs,0⟩] scope pos) GD) (EK (Pr is wi g tt te) (nj j)):=Ji N out is hN hj hy hc hi hk hs hg (λC s H ex=>let ⟨_,h,e⟩:=ht C s H ex;e▸h) he RB Ex eN eo
end
theorem E9{lo:Int}{n:Nat}{g:TG}{tt:TT}{te:TE}{Q:List V->Hp->Prop}{Z:St}{H:Hp}(hn:n<=sizeLine)(Pv:Nat->List V->St->Hp->Prop)(h0:Pv 0 [] Z H)(hlen:∀i ys Z H,Pv i ys Z H->ys.length<=i)
  (hs:∀i ys Z H,i<n->Pv i ys Z H->g (.int (lo+i)) Z H λZ2 H2=>tt Z2 H2 λb H3=>if b=true then te Z2 H3 λv H4=>Pv (i+1) (ys++[v]) Z2 H4 else Pv (i+1) ys Z2 H3)
  (hd:∀ys Z H,Pv n ys Z H->Q ys H):DS g tt te (Ja lo n) Q Z H:=by
 refine⟨λi m ys Z H=>m=n-i/\i<=n/\Pv i ys Z H,⟨n,by simp,aaD _,h0⟩,?_⟩
 rintro i m ys Z H ⟨rfl,hi,p⟩
 have hl:=hlen i ys Z H p
 by_cases jI:i<n
 ·refine .inr ⟨jI,by omega,Pv (i+1),λMh Z' H' p'=>⟨n-(i+1),by omega,rfl,jI,p'⟩,λx H' y=>?_⟩
  obtain⟨rfl,rfl⟩:=y
  exact hs i ys Z _ jI p
 ·have e:i=n:=by omega
  subst e
  exact .inl ⟨Q2 _,by omega,hd ys Z H p⟩
theorem kZ{K:Qqy}{a:Addr}{xs:List V}{g:TG}{tt:TT}{te:TE}{Q:List V->Hp->Prop}{Z:St}{H:Hp}(hn:xs.length<=sizeLine)(Pv:Nat->List V->St->Hp->Prop)(h0:Pv 0 [] Z H)(hl:∀i ys Z H,i<=xs.length->Pv i ys Z H->gP K H a xs/\ys.length<=i)
  (hs:∀i x ys Z H,xs[i]?=some x->Pv i ys Z H->g x Z H λZ2 H2=>tt Z2 H2 λb H3=>if b=true then te Z2 H3 λv H4=>Pv (i+1) (ys++[v]) Z2 H4 else Pv (i+1) ys Z2 H3)
  (hd:∀ys Z H,Pv xs.length ys Z H->Q ys H):DS g tt te (L6 K a) Q Z H:=by
 refine⟨λi m ys Z H=>m=xs.length-i/\i<=xs.length/\Pv i ys Z H,⟨xs.length,by simp,aaD _,h0⟩,?_⟩
 rintro i m ys Z H ⟨rfl,hi,p⟩
 obtain⟨q,hy⟩:=hl i ys Z H hi p
 by_cases jI:i<xs.length
 ·refine .inr ⟨⟨xs,xs[i],q,by simp[jI]⟩,by omega,Pv (i+1),λMh Z' H' p'=>⟨xs.length-(i+1),by omega,rfl,jI,p'⟩,λx H' y=>?_⟩
  obtain⟨rfl,y⟩:=y
  exact hs i x ys Z _ (y xs q) p
 ·have e:i=xs.length:=by omega
  subst e
  exact .inl ⟨⟨xs,q,Q2 _⟩,by omega,hd ys Z H p⟩
end L2
namespace PySem
section
variable{prog:Program}{w:World}{A:Around}{E:Qqq}{s:Shared}
end
end PySem
namespace L2
open PySem PySem.Spec PyProof.Rows
def MY(lo st:Int)(n:Nat):It:=⟨λi _=>i<n,λi H x H'=>H'=H/\x=.int (lo+i*st),λi _=>n<=i⟩
theorem AI{P:Program}{w:World}{K:PySem.W.Frag}{tg:Expr}(it:Addr)(lo st:Int)(n:Nat):Turn P w K tg (MY lo st n) [it] it (λi h=>IsRangeIter h it (lo+(i:Nat)*st) ((n:Int)-(i:Nat)) st) where
 mem:=by simp
 obj:=λi h st b hb=>by
  have e:b=it:=by simpa using hb
  subst e
  exact⟨_,st,λv z=>by
   have z':Data.fields _=Data.cell v:=z
   cases z'⟩
 keep:=λi h h' st k=>k it (by simp) _ st
 item:=by
  intro X hP hw hK hc i ak s Z H E I hf Xm hg
  subst hP hw hK
  obtain⟨f0,f1,f2,f3,f4,f5⟩:=hf it (by simp)
  have W:=Walks.range (prog:=X.prog) (w:=X.w) (I.ok.hd hc) it lo st n
  refine W.item i s _ _ hg Xm λv h' tk hv uw kk=>?_
  obtain⟨t,rfl⟩:=hv
  have I1:Inv X ak Z H {s with heap:=h',toks:=tk}:=I.turned (λb o hb e=>kk b o (by simpa using hb) e) f0 f1 f3 f4 f5
  exact⟨_,rfl,vI (s:={s with heap:=h',toks:=tk}) (n:="range_iterator") uw rfl rfl (by decide) ⟨.int (lo+i*st),H,I1,⟨t,rfl⟩,⟨rfl,rfl⟩,uw,λb hb=>(hf b hb).1⟩⟩
 done:=by
  intro X hP hw hK hc i ak s Z H E I hf st hg
  subst hP hw hK
  obtain⟨f0,f1,f2,f3,f4,f5⟩:=hf it (by simp)
  exact wpAny_pyNext_range_end (I.ok.hd hc) st (by have:n<=i:=hg;omega) λh' eb=>⟨rfl,I.turned (t':=s.toks) (λb o hb e=>eb b o hb e) f0 f1 f3 f4 f5⟩
 self:=λ_ _ _ _ _ st h=>wpAny_pyIter_rangeiter st h
theorem rangeSize_down(a b:Int):Builtin.Range.rangeSize a b (-1)=((a-b).toNat:Int):=by
 unfold Builtin.Range.rangeSize
 simp only [show ¬((-1:Int)>0) by decide,acf]
 have e:(- -1:Int)=1:=by decide
 rw[e,Int.ediv_one]
 split<;>omega
theorem small_down{a b:Int}(ha:-(2 ^ 61)<=a)(ha':a<2 ^ 61)(hb:-(2 ^ 61)<=b)(Mi:b<2 ^ 61):Builtin.Range.small a b (-1)=true:=by
 unfold Builtin.Range.small
 rw[rangeSize_down]
 simp only [Builtin.Range.rangeFitsLong,aaH,acj,abw,abD,show ¬((-1:Int)>0) by decide,acf]
 omega
section
variable{X:Cx}{tg:Expr}
def MZ(ta:TA):TI:=λZ H R=>ta Z H λvs H1=>∃i j:Int,vs=[.int i,.int j,.int (-1)]/\(-(2 ^ 61)<=i/\i<2 ^ 61/\-(2 ^ 61)<=j/\j<2 ^ 61)/\R (MY i (-1) (i-j).toNat) H1
theorem tS{a b c:Expr}{ta:TA}{p pos:Pos}(hg:Gl X "range")(hm:X.mg "range"=none)(ha:PA X [a,b,c] ta)(hs:starEach [a,b,c] X.env=[(false,eval a X.env),(false,eval b X.env),(false,eval c X.env)]:=by rfl)
  (Jx:starEach [b,c] X.env=[(false,eval b X.env),(false,eval c X.env)]:=by rfl):PI X tg (.Call (.Name "range" p) [a,b,c] [] pos) (MZ ta):=by
 intro ak s Z H R I h
 refine Call_ (lr I hg hm boot_range (aaG (il (ha pos ak s Z H _ I h) λus s1 g9=>?_) (by rw[hs,Jx]) (by rw[Jx];rfl)))
 obtain⟨vs,H1,I1,r1,q1⟩:=g9
 obtain⟨i,j,e,⟨q1,q2,q3,q4⟩,q⟩:=q1
 subst e
 cases r1 with
 | cons r rr=>
  cases rr with
  | cons r' rr=>
   cases rr with
   | cons Xn rr=>
    cases rr
    obtain⟨t,rfl⟩:=r
    obtain⟨t',rfl⟩:=r'
    obtain⟨UB,rfl⟩:=Xn
    refine call_range_3 (by decide) ?_ (Or.inl (PyProof.noPylong_small (by decide)))
    refine wpAny_pyIter_range (IsRange.new ..) (small_down q1 q2 q3 q4) ?_
    generalize ho:({cls:=.type "range",data:=.fields #[.int i t,.int j t',.int (-1) UB]}:Obj)=o
    have I2:Inv X ak Z H1 {s1 with heap:=s1.heap.push o,toks:=s1.toks}:=I1.kept λb o e=>QY _ e
    refine⟨(s1.heap.push o).objs.size,[(s1.heap.push o).objs.size],_,_,H1,rfl,I2.kept (t':=s1.toks) λb o e=>QY _ e,AI _ i (-1) (i-j).toNat,?_,λb hb=>?_,q⟩
    ·show IsRangeIter _ _ (i+((0:Nat):Int)*(-1)) ((((i-j).toNat:Nat):Int)-((0:Nat):Int)) (-1)
     have e1:i+((0:Nat):Int)*(-1)=i:=by simp
     have e2:(((i-j).toNat:Nat):Int)-((0:Nat):Int)=Builtin.Range.rangeSize i j (-1):=by rw[rangeSize_down];simp
     rw[e1,e2]
     exact WO _ rfl
    ·have e:b=(s1.heap.push o).objs.size:=by simpa using hb
     subst e
     exact I2.vH (Q2 _) (I2.gX.fresh (Q2 _))
end
theorem rF{lo st:Int}{n:Nat}{g:TG}{tb:TS}{D:Ends}{Z:St}{H:Hp}(Pv:Nat->St->Hp->Prop)(h0:Pv 0 Z H)
  (hs:∀i Z H,i<n->Pv i Z H->g (.int (lo+i*st)) Z H λZ2 H2=>tb {D with nx:=Pv (i+1),ct:=Pv (i+1),bk:=D.nx} Z2 H2) (hd:∀Z H,Pv n Z H->D.nx Z H) :
  ∃W:Nat->Nat->St->Hp->Prop,(∃m,W 0 m Z H)/\∀i m Z H,W i m Z H->
   ((MY lo st n).stop i H/\D.nx Z H)\/((MY lo st n).go i H/\∃N:St->Hp->Prop,(∀Z' H',N Z' H'->∃m',m'<m/\W (i+1) m' Z' H')/\∀x H',(MY lo st n).G6 i H x H'->g x Z H' λZ2 H2=>tb {D with nx:=N,ct:=N,bk:=D.nx} Z2 H2):=by
 refine⟨λi m Z H=>m=n-i/\i<=n/\Pv i Z H,⟨n,by simp,aaD _,h0⟩,?_⟩
 rintro i m Z H ⟨rfl,hi,p⟩
 by_cases jI:i<n
 ·refine .inr ⟨jI,Pv (i+1),λZ' H' p'=>⟨n-(i+1),by omega,rfl,jI,p'⟩,λx H' y=>?_⟩
  obtain⟨e,y⟩:=y
  subst e y
  exact hs i Z _ jI p
 ·have e:i=n:=by omega
  subst e
  exact .inl ⟨Q2 _,hd Z H p⟩
section
variable{X:Cx}
theorem uM:qR X (.builtin "isinstance") (λxs H Q=>∃x T t b,xs=[x,.ty T]/\tO X.K H x t/\W.kitOne X.K t (.type T)=some b/\Q (.bl b) H):=by
 intro ak s Z H xs us Q I r h
 obtain⟨x,T,t,b,rfl,ty,e,q⟩:=h
 obtain⟨u,u',rfl,ru,Xo⟩:=vals2 r
 cases (show u'=Value.type T from Xo)
 exact DI I ru ty e λtk=>⟨.bl b,H,I.tok tk,rfl,q⟩
end
inductive qT(K:Qqy)(H:Hp):Nat->V->V->Bool->Prop
 | flat {n x y} (fx:pF x=true) (fy:pF y=true):qT K H n x y (MU x y)
 | lists {n a c xs ys} {e:Nat->Bool} (h1:gP K H a xs) (h2:gP K H c ys) (hl:xs.length=ys.length) (he:∀(j:Nat) u v,xs[j]?=some u->ys[j]?=some v->qT K H n u v (e j)):qT K H (n+1) (.ref a) (.ref c) ((List.range xs.length).all e)
 | Hy {n a c xs ys} (h1:gP K H a xs) (h2:gP K H c ys) (hl:xs.length≠ys.length):qT K H n (.ref a) (.ref c) false
 | oh {n a c xs ys} {e:Nat->Bool} (h1:xy K H a xs) (h2:xy K H c ys) (he:∀(j:Nat) u v,xs[j]?=some u->ys[j]?=some v->qT K H n u v (e j)):qT K H (n+1) (.ref a) (.ref c) ((List.range (min xs.length ys.length)).all e&&xs.length ==ys.length)
 | tT {n a xs y} (h1:gP K H a xs) (fy:pF y=true):qT K H n (.ref a) y false
 | tU {n a xs y} (h1:gP K H a xs) (fy:pF y=true):qT K H n y (.ref a) false
 | vT {n a xs y} (h1:xy K H a xs) (fy:pF y=true):qT K H n (.ref a) y false
 | vU {n a xs y} (h1:xy K H a xs) (fy:pF y=true):qT K H n y (.ref a) false
 | vV {n a c xs ys} (h1:gP K H a xs) (h2:xy K H c ys):qT K H n (.ref a) (.ref c) false
 | vW {n a c xs ys} (h1:xy K H a xs) (h2:gP K H c ys):qT K H n (.ref a) (.ref c) false
theorem E_:∀{x:V},pF x=true->MU x x=true:=by
 intro x h
 cases x<;>simp[pF,MU] at *
section
variable{X:Cx}{ak:Qqz}{Z:St}{H:Hp}{s:Shared}
theorem Inv.Jj{a c:Addr}{xs ys:List V}(I:Inv X ak Z H s)(h1:gP X.K H a xs)(h2:xy X.K H c ys):a≠c:=by
 obtain⟨fW,_,p,_⟩:=I.list h1
 obtain⟨ku,_,p2,_⟩:=I.tuple h2
 exact SeqAt.ne_of_list_tuple p.isList (show s.heap.IsTuple c ku.toArray from p2)
theorem qT.self{n:Nat}{x y:V}{b:Bool}(I:Inv X ak Z H s)(h:qT X.K H n x y b):x=y->b=true:=by
 induction h with
 | flat fx fy=>intro e;subst e;exact E_ fx
 | lists h1 h2 hl he ih=>
  intro e
  cases e
  have:=I.ni h1 h2
  subst this
  refine abX.mpr λj hj=>?_
  have hj:=List.mem_range.mp hj
  exact ih j _ _ (QU hj) (QU hj) rfl
 | Hy h1 h2 hl=>intro e;cases e;exact absurd (aaT List.length (I.ni h1 h2)) hl
 | oh h1 h2 he ih=>
  intro e
  cases e
  have:=I.DB h1 h2
  subst this
  rw[aaH]
  refine⟨abX.mpr λj hj=>?_,by simp⟩
  have hj:=List.mem_range.mp hj
  rw[Nat.min_self] at hj
  exact ih j _ _ (QU hj) (QU hj) rfl
 | tT h1 fy=>intro e;subst e;exact absurd (show false=true from fy) WV
 | tU h1 fy=>intro e;subst e;exact absurd (show false=true from fy) WV
 | vT h1 fy=>intro e;subst e;exact absurd (show false=true from fy) WV
 | vU h1 fy=>intro e;subst e;exact absurd (show false=true from fy) WV
 | vV h1 h2=>intro e;cases e;exact absurd rfl (I.Jj h1 h2)
 | vW h1 h2=>intro e;cases e;exact absurd rfl (I.Jj h2 h1)
theorem ou{y:V}{v:Value}(r:RelV y v)(f:pF y=true):v=.none\/(∃b,v=.bool b)\/(∃i t,v=.int i t)\/∃x t,v=.str x t:=by
 cases y with
 | iQ=>exact .inl r
 | bl b=>exact .inr (.inl ⟨b,r⟩)
 | int i=>obtain⟨t,e⟩:=r;exact .inr (.inr (.inl ⟨i,t,e⟩))
 | str x=>obtain⟨t,e⟩:=r;exact .inr (.inr (.inr ⟨x,t,e⟩))
 | _=>exact absurd (show false=true from f) WV
theorem my{xs:List V}{fW:List Value}(rv:Vals xs fW){j:Nat}(h:j<fW.toArray.size):∃x,xs[j]?=some x/\RelV x fW.toArray[j]:=by
 have hl:=rv.length
 have hj:j<fW.length:=by simpa using h
 have hx:j<xs.length:=by omega
 obtain⟨u,hu,ru⟩:=rv.get (QU hx)
 refine⟨xs[j],QU hx,?_⟩
 rw[QU hj] at hu
 cases hu
 simpa using ru
theorem qT.at{n:Nat}{x y:V}{b:Bool}(I:Inv X ak Z H s)(h:qT X.K H n x y b):∀(A:Around)(u v:Value),RelV x u->RelV y v->A.units+n<cLine->SeqAt.EqAt A s u v b:=by
 induction h with
 | flat fx fy=>intro A u v ru rv _;exact Kg ru rv fx fy
 | @lists n a c xs ys e h1 h2 hl he ih=>
  intro A u v ru rv hu
  cases ru;cases rv
  by_cases N5:a=c
  ·subst N5
   have hb:=qT.self I (qT.lists h1 h2 hl he) rfl
   rw[hb]
   exact SeqAt.EqAt.same _
  ·obtain⟨fW,r1,p1,_⟩:=I.list h1
   obtain⟨ku,r2,p2,_⟩:=I.list h2
   have l1:=r1.length
   have l2:=r2.length
   refine SeqAt.EqAt.of_refs N5 ?_
   have q:=SeqAt.RcAt.lists (A:=A) (e:=e) p1.isList p2.isList (by simp;omega) (by omega) λj g1 g2=>by
    obtain⟨x,ex,rx⟩:=my r1 g1
    obtain⟨y,ey,ry⟩:=my r2 g2
    exact ih j x y ex ey A.in1 _ _ rx ry (by show A.units+1+n<cLine;omega)
   rw[WZ,<-l1] at q
   exact q
 | @Hy n a c xs ys h1 h2 hl=>
  intro A u v ru rv hu
  cases ru;cases rv
  obtain⟨fW,r1,p1,_⟩:=I.list h1
  obtain⟨ku,r2,p2,_⟩:=I.list h2
  have l1:=r1.length
  have l2:=r2.length
  refine SeqAt.EqAt.of_refs (λe=>?_) (SeqAt.RcAt.lists_lengths p1.isList p2.isList (by simp;omega) (by omega))
  subst e
  exact hl (aaT List.length (I.ni h1 h2))
 | @oh n a c xs ys e h1 h2 he ih=>
  intro A u v ru rv hu
  cases ru;cases rv
  by_cases N5:a=c
  ·subst N5
   have hb:=qT.self I (qT.oh h1 h2 he) rfl
   rw[hb]
   exact SeqAt.EqAt.same _
  ·obtain⟨fW,r1,p1,_⟩:=I.tuple h1
   obtain⟨ku,r2,p2,_⟩:=I.tuple h2
   have l1:=r1.length
   have l2:=r2.length
   refine SeqAt.EqAt.of_refs N5 ?_
   have q:=SeqAt.RcAt.tuples (A:=A) (e:=e) (show s.heap.IsTuple a fW.toArray from p1) (show s.heap.IsTuple c ku.toArray from p2) (by omega) λj g1 g2=>by
    obtain⟨x,ex,rx⟩:=my r1 g1
    obtain⟨y,ey,ry⟩:=my r2 g2
    exact ih j x y ex ey A.in1 _ _ rx ry (by show A.units+1+n<cLine;omega)
   rw[WZ,WZ,<-l1,<-l2] at q
   exact q
 | @tT n a xs y h1 fy=>
  intro A u v ru rv hu
  cases ru
  obtain⟨fW,r1,p1,_⟩:=I.list h1
  rcases ou rv fy with rfl|⟨b,rfl⟩|⟨i,t,rfl⟩|⟨x,t,rfl⟩
  ·exact .list_none p1.isList (by omega)
  ·exact .list_bool b p1.isList (by omega)
  ·exact .list_int i t p1.isList (by omega)
  ·exact .list_str x t p1.isList (by omega)
 | @tU n a xs y h1 fy=>
  intro A u v ru rv hu
  cases rv
  obtain⟨fW,r1,p1,_⟩:=I.list h1
  rcases ou ru fy with rfl|⟨b,rfl⟩|⟨i,t,rfl⟩|⟨x,t,rfl⟩
  ·exact .none_list p1.isList (by omega)
  ·exact .bool_list b p1.isList (by omega)
  ·exact .int_list i t p1.isList (by omega)
  ·exact .str_list x t p1.isList (by omega)
 | @vT n a xs y h1 fy=>
  intro A u v ru rv hu
  cases ru
  obtain⟨fW,r1,p1,_⟩:=I.tuple h1
  have p1:s.heap.IsTuple a fW.toArray:=p1
  rcases ou rv fy with rfl|⟨b,rfl⟩|⟨i,t,rfl⟩|⟨x,t,rfl⟩
  ·exact .tuple_none p1 (by omega)
  ·exact .tuple_bool b p1 (by omega)
  ·exact .tuple_int i t p1 (by omega)
  ·exact .tuple_str x t p1 (by omega)
 | @vU n a xs y h1 fy=>
  intro A u v ru rv hu
  cases rv
  obtain⟨fW,r1,p1,_⟩:=I.tuple h1
  have p1:s.heap.IsTuple a fW.toArray:=p1
  rcases ou ru fy with rfl|⟨b,rfl⟩|⟨i,t,rfl⟩|⟨x,t,rfl⟩
  ·exact .none_tuple p1 (by omega)
  ·exact .bool_tuple b p1 (by omega)
  ·exact .int_tuple i t p1 (by omega)
  ·exact .str_tuple x t p1 (by omega)
 | @vV n a c xs ys h1 h2=>
  intro A u v ru rv hu
  cases ru;cases rv
  obtain⟨fW,r1,p1,_⟩:=I.list h1
  obtain⟨ku,r2,p2,_⟩:=I.tuple h2
  exact .list_tuple p1.isList (show s.heap.IsTuple c ku.toArray from p2) (by omega)
 | @vW n a c xs ys h1 h2=>
  intro A u v ru rv hu
  cases ru;cases rv
  obtain⟨fW,r1,p1,_⟩:=I.tuple h1
  obtain⟨ku,r2,p2,_⟩:=I.list h2
  exact .tuple_list (show s.heap.IsTuple a fW.toArray from p1) p2.isList (by omega)
def M0(x y:V):Prop:=∃a c,x=.ref a/\y=.ref c
theorem qT.rc{n:Nat}{x y:V}{b:Bool}{A:Around}{u v:Value}(I:Inv X ak Z H s)(h:qT X.K H n x y b)(sq:M0 x y)(ru:RelV x u)(rv:RelV y v)(hu:A.units+n+1<cLine):SeqAt.RcAt A s u v b/\SeqAt.RcNeAt A s u v (!b):=by
 obtain⟨a0,c0,rfl,rfl⟩:=sq
 cases ru;cases rv
 cases h with
 | flat fx fy=>exact absurd (show false=true from fx) WV
 | @lists n a c xs ys e h1 h2 hl he=>
  obtain⟨fW,r1,p1,_⟩:=I.list h1
  obtain⟨ku,r2,p2,_⟩:=I.list h2
  have l1:=r1.length
  have l2:=r2.length
  have el:∀j (g1:j<fW.toArray.size) (g2:j<ku.toArray.size),SeqAt.EqAt A.in1 s fW.toArray[j] ku.toArray[j] (e j):=λj g1 g2=>by
   obtain⟨x,ex,rx⟩:=my r1 g1
   obtain⟨y,ey,ry⟩:=my r2 g2
   exact(he j x y ex ey).at I A.in1 _ _ rx ry (by show A.units+1+n<cLine;omega)
  have q:=SeqAt.RcAt.lists (A:=A) (e:=e) p1.isList p2.isList (by simp;omega) (by omega) el
  have q':=SeqAt.RcNeAt.lists (A:=A) (e:=e) p1.isList p2.isList (by simp;omega) (by omega) el
  rw[WZ,<-l1] at q q'
  exact⟨q,q'⟩
 | @Hy n a c xs ys h1 h2 hl=>
  obtain⟨fW,r1,p1,_⟩:=I.list h1
  obtain⟨ku,r2,p2,_⟩:=I.list h2
  have l1:=r1.length
  have l2:=r2.length
  exact⟨SeqAt.RcAt.lists_lengths p1.isList p2.isList (by simp;omega) (by omega),SeqAt.RcNeAt.lists_lengths p1.isList p2.isList (by simp;omega) (by omega)⟩
 | @oh n a c xs ys e h1 h2 he=>
  obtain⟨fW,r1,p1,_⟩:=I.tuple h1
  obtain⟨ku,r2,p2,_⟩:=I.tuple h2
  have l1:=r1.length
  have l2:=r2.length
  have el:∀j (g1:j<fW.toArray.size) (g2:j<ku.toArray.size),SeqAt.EqAt A.in1 s fW.toArray[j] ku.toArray[j] (e j):=λj g1 g2=>by
   obtain⟨x,ex,rx⟩:=my r1 g1
   obtain⟨y,ey,ry⟩:=my r2 g2
   exact(he j x y ex ey).at I A.in1 _ _ rx ry (by show A.units+1+n<cLine;omega)
  have q:=SeqAt.RcAt.tuples (A:=A) (e:=e) (show s.heap.IsTuple a0 fW.toArray from p1) (show s.heap.IsTuple c0 ku.toArray from p2) (by omega) el
  have q':=SeqAt.RcNeAt.tuples (A:=A) (e:=e) (show s.heap.IsTuple a0 fW.toArray from p1) (show s.heap.IsTuple c0 ku.toArray from p2) (by omega) el
  rw[WZ,WZ,<-l1,<-l2] at q q'
  exact⟨q,q'⟩
 | tT h1 fy=>exact absurd (show false=true from fy) WV
 | tU h1 fy=>exact absurd (show false=true from fy) WV
 | vT h1 fy=>exact absurd (show false=true from fy) WV
 | vU h1 fy=>exact absurd (show false=true from fy) WV
 | @vV n a c xs ys h1 h2=>
  obtain⟨fW,r1,p1,_⟩:=I.list h1
  obtain⟨ku,r2,p2,_⟩:=I.tuple h2
  exact⟨.list_tuple p1.isList (show s.heap.IsTuple c0 ku.toArray from p2) (by omega),.list_tuple p1.isList (show s.heap.IsTuple c0 ku.toArray from p2) (by omega)⟩
 | @vW n a c xs ys h1 h2=>
  obtain⟨fW,r1,p1,_⟩:=I.tuple h1
  obtain⟨ku,r2,p2,_⟩:=I.list h2
  exact⟨.tuple_list (show s.heap.IsTuple a0 fW.toArray from p1) p2.isList (by omega),.tuple_list (show s.heap.IsTuple a0 fW.toArray from p1) p2.isList (by omega)⟩
end
section
variable{X:Cx}
def QS(K:Qqy)(n:Nat):R2:=λx y H Q=>∃b,M0 x y/\qT K H n x y b/\Q (.bl b) H
theorem Ca(n:Nat)(hu:X.A.units+n+1<cLine):vK X (compareOp .Eq) (QS X.K n):=by
 intro ak s Z H x y u v Q I rx ry h
 obtain⟨b,sq,e,q⟩:=h
 exact(e.rc I sq rx ry hu).1 X.prog X.w X.xe _ ⟨.bl b,H,I,rfl,q⟩
end
theorem qT.Hz{K:Qqy}{H:Hp}{n:Nat}{Y:Type}[DecidableEq Y]{F:Y->V->Prop}(hF:∀p q u v,F p u->F q v->qT K H n u v (decide (p=q))){a c:Addr}{xs ys:List V}{ps qs:List Y}
  (h1:gP K H a xs) (h2:gP K H c ys) (r1:Paired F ps xs) (r2:Paired F qs ys):qT K H (n+1) (.ref a) (.ref c) (decide (ps=qs)):=by
 have l1:=r1.length
 have l2:=r2.length
 have N6:∀{ps:List Y} {xs:List V},Paired F ps xs->∀(j:Nat) u,xs[j]?=some u->∃p,ps[j]?=some p/\F p u:=by
  intro ps xs r
  induction r with
  | nil=>intro j u h;simp at h
  | cons f t ih=>
   intro j u h
   cases j with
   | zero=>simp at h;subst h;exact⟨_,rfl,f⟩
   | succ j=>simpa using ih j u (by simpa using h)
 by_cases hl:xs.length=ys.length
 ·have e:qT K H (n+1) (.ref a) (.ref c) ((List.range xs.length).all λj=>decide (ps[j]?=qs[j]?)):=.lists h1 h2 hl λj u v hu hv=>by
   obtain⟨p,ep,fp⟩:=N6 r1 j u hu
   obtain⟨q,eq,fq⟩:=N6 r2 j v hv
   have:=hF p q u v fp fq
   rw[ep,eq]
   have e:decide (some p=some q)=decide (p=q):=by simp
   rw[e]
   exact this
  have e2:((List.range xs.length).all λj=>decide (ps[j]?=qs[j]?))=decide (ps=qs):=by
   by_cases h:ps=qs
   ·subst h;simp
   ·rw[aaa h,abv]
    intro z
    refine h (ab_ λj=>?_)
    by_cases hj:j<xs.length
    ·simpa using abX.mp z j (List.mem_range.mpr hj)
    ·rw[List.getElem?_eq_none_iff.mpr (by omega),List.getElem?_eq_none_iff.mpr (by omega)]
  rw[<-e2]
  exact e
 ·rw[aaa λz=>hl (by rw[<-l1,<-l2,z])]
  exact .Hy h1 h2 hl
theorem qT.Ku{K:Qqy}{H:Hp}{n:Nat}(p q:Str):qT K H n (.str p) (.str q) (decide (p=q)):=by
 have:MU (.str p) (.str q)=decide (p=q):=(Bool.beq_eq_decide_eq p q)
 rw[<-this]
 exact .flat rfl rfl
structure L8(P:Program)(w:World)(outer:List Env)(H H':Hp)(s s':Shared)(e C:Addr):Prop where
 os:s'.os=s.os
 bare:AllBare s'.gens
 un:Un (pd outer) [] H H' s.heap s'.heap
 gX:og P w H' s'.heap
 fl:∃B t,Heap.FlyingW B outer e (.ref C) (.ref t) s'.heap/\∀b o,s'.heap.get? b=some o->b∉pd outer->((∃u,H' b=some u)\/∃o',s.heap.get? b=some o')->B.get? b=some o
 new:s.heap.get? e=none
 free:H' e=none
def vt(P:Program)(w:World):B4:=λouter H s E ev s'=>∃e C H',ev=.ref e/\L8 P w outer H H' s s' e C/\E (.ref C) none H'
theorem ia.ex{P:Program}{w:World}{H:Hp}{h:Heap}{a:Addr}{o:HO}(x:ia P w H h a o):∃ob,h.get? a=some ob:=by
 cases o with
 | lst xs=>obtain⟨_,_,_,_,e⟩:=x;exact⟨_,e⟩
 | tup xs=>obtain⟨_,_,_,o,e,_⟩:=x;exact⟨_,e⟩
 | dK kvs=>obtain⟨_,_,_,_,o,_,_,e,_⟩:=x;exact⟨_,e⟩
 | dT kvs=>obtain⟨_,_,_,_,o,_,_,e,_⟩:=x;exact⟨_,e⟩
 | set S n=>obtain⟨o,_,_,_,e,_⟩:=x;exact⟨_,e⟩
 | ins C dx fs=>obtain⟨_,_,_,e,_⟩:=x;exact⟨_,e⟩
 | own y=>obtain⟨_,e⟩:=x;exact⟨_,e⟩
 | xd fs=>obtain⟨_,⟨_,_,_,e,_⟩,_⟩:=x;exact⟨_,e⟩
 | Pn lo hi=>obtain⟨_,_,_,e⟩:=x;exact⟨_,e⟩
 | mw ob u=>obtain⟨e,_⟩:=x;exact⟨_,e⟩
 | G5 ps=>exact⟨_,(show h.get? a=some _ from x)⟩
 | met f y=>exact⟨_,(show h.get? a=some _ from x)⟩
 | ext Z=>obtain⟨_,⟨_,e⟩,_⟩:=x;exact⟨_,e⟩
section
variable{X:Cx}{ak:Qqz}{Z:St}{H H':Hp}{s s':Shared}{e C:Addr}{M:Model}{E:Qqq}
structure Bd(X:Cx):Prop where
 stack:X.stack=X.env::X.outer
 frame:X.env.frame=some X.env.locals
 ex:X.ex=[]
theorem Inv.Hk(I:Inv X ak Z H s){b:Addr}{o:Obj}(h:X.s₀.heap.get? b=some o)(nf:b∉X.fs):b∉pd X.stack:=λhb=>by
 rcases RT.mp (I.tL b hb) with z|z
 ·rw[z] at h
  exact absurd (aal (aac h) I.ok.above) (aba _)
 ·exact nf z
theorem Fb(I:Inv X ak Z H s)(bd:Bd X)(un:Un (pd X.stack) [] H H' s.heap s'.heap)(Xp:s'.os=s.os)(N7:AllBare s'.gens)(gX:og X.prog X.w H' s'.heap){B LF:Heap}{t:Addr}
  (hB:∀b o,s'.heap.get? b=some o->b∉pd X.stack->((∃u,H' b=some u)\/∃o',s.heap.get? b=some o')->B.get? b=some o)
  (hF:s'.heap.FunFrames B X.stack) (G7:Heap.FlyingW B X.outer e (.ref C) (.ref t) LF) (up:s'.heap.UpToSlots LF) (new:s.heap.get? e=none) (RC:H' e=none) :
  L8 X.prog X.w X.outer X.H₀ H' X.s₀ {s' with heap:=LF} e C:=by
 have hex:=bd.ex
 have N8:∀b∈pd X.stack,H' b=none:=λb hb=>by
  obtain⟨_,o,ho,_⟩:=I.stack.mem hb
  exact un.free b o ho (I.vk b hb) (by simp)
 have Du:∀b u,H' b=some u->b∉pd X.stack:=λb u hu hb=>by rw[N8 b hb] at hu;cases hu
 have tH:∀b o u,s'.heap.get? b=some o->H' b=some u->LF.get? b=some o:=λb o u ho hu=>
  G7.1 b o (hB b o ho (Du b u hu) (.inl ⟨u,hu⟩))
 have pz:∀b,b∉X.ex:=λb z=>by rw[hex] at z;cases z
 have outS:∀b,b∈pd X.outer->b∈pd X.stack:=λb hb=>by
  rw[bd.stack];unfold pd;rw[aby,bd.frame];exact Uk _ hb
 refine⟨Xp.trans I.os,N7,⟨λb o q n hb hx=>?_,λb o q n hb hx=>?_,λb o q n hx=>?_,λb o q hx=>?_,λb xs q=>un.oh b xs (I.base.oh b xs q),λb o u q=>un.qJ b o u (I.base.qJ b o u q),λb ps q=>?_⟩,λa u ha=>?_,⟨B,t,G7,λb o hb nb hc=>?_⟩,?_,RC⟩
 ·have q1:=I.base.keep b o q n hb (pz b)
  have nf:=I.Hk q hb
  exact G7.1 b o (hB b o (un.keep b o q1 (I.base.free b o q n (pz b)) nf (by simp)) nf (.inr ⟨o,q1⟩))
 ·obtain⟨sl,q1⟩:=I.base.slot b o q n hb (pz b)
  obtain⟨Fc,q2⟩:=un.any q1 (I.base.free b o q n (pz b)) (by simp)
  obtain⟨_,o',mv,hd⟩:=I.ok.pC.mem hb
  rw[q] at mv;cases mv
  obtain⟨Cb,q3⟩:=up b _ q2 hd
  exact⟨Cb,q3⟩
 ·obtain⟨o',q1⟩:=I.base.there b o q (pz b)
  exact un.free b o' q1 (I.base.free b o q n (pz b)) (by simp)
 ·obtain⟨o1,q1⟩:=I.base.there b o q (pz b)
  obtain⟨o2,q2⟩:=un.there b o1 q1 (by simp)
  by_cases hb:b∈pd X.stack
  ·obtain⟨_,o',mv,hd⟩:=hF.mem hb
   rw[q2] at mv;cases mv
   obtain⟨Cb,q3⟩:=up b _ q2 hd
   exact⟨_,q3⟩
  ·exact⟨o2,G7.1 b o2 (hB b o2 q2 hb (.inr ⟨o1,q1⟩))⟩
 ·obtain⟨m1,e1⟩:=I.base.r9 b ps q
  obtain⟨m2,e2⟩:=un.r9 b _ e1
  exact⟨m1++m2,by rw[e2,Array.append_assoc]⟩
 ·refine(gX a u ha).rZ (λb v hb q=>?_) (λ_ z=>z) λ_ _ z=>z
  rcases hb with z|z
  ·rw[z] at q ⊢;exact tH a v u q ha
  ·exact tH b v _ q z
 ·have all:∀o1,s'.heap.get? b=some o1->b∉pd X.stack->((∃u,H' b=some u)\/∃o',s.heap.get? b=some o')->B.get? b=some o:=λo1 q1 nf c=>by
   have z:=hB b o1 q1 nf c
   have z2:=G7.1 b o1 z
   have hb:LF.get? b=some o:=hb
   rw[hb] at z2;cases z2
   exact z
  rcases hc with⟨u,hu⟩|⟨o',mv⟩
  ·obtain⟨o1,q1⟩:=(gX b u hu).ex
   exact all o1 q1 (Du b u hu) (.inl ⟨u,hu⟩)
  ·obtain⟨o1,q1⟩:=I.base.there b o' mv (pz b)
   obtain⟨o2,q2⟩:=un.there b o1 q1 (by simp)
   exact all o2 q2 (I.Hk mv nb) (.inr ⟨o1,q1⟩)
 ·cases q:X.s₀.heap.get? e with
  | none=>rfl
  | some o=>
   obtain⟨o1,q1⟩:=I.base.there e o q (pz e)
   rw[new] at q1;cases q1
theorem Fd(I:Inv X ak Z H s)(bd:Bd X)(F:L8 X.prog X.w X.stack H H' s s' e C) :
  wpAny M X.A (leaving X.env (.ref e)) (λ_ CP=>L8 X.prog X.w X.outer X.H₀ H' X.s₀ CP e C) E s':=by
 obtain⟨B,t,fl,hB⟩:=F.fl
 have N9:=fl
 rw[bd.stack] at N9
 refine wpAny_leaves_onW (by rw[I.ok.frames,bd.stack]) bd.frame N9 λLF G7 up=>?_
 exact Fb I bd F.un F.os F.bare F.gX hB fl.2.2.1 G7 up F.new F.free
theorem Cc{vs:List Value}{h':Heap}(I:Inv X ak Z H s)(bd:Bd X)(hx:Heap.MadeExcOf s.heap h' e (.ref C) vs) :
  wpAny M X.A (leaving X.env (.ref e)) (λ_ CP=>L8 X.prog X.w X.outer X.H₀ H X.s₀ CP e C) E {s with heap:=h'}:=by
 have Ha:∀env∈X.stack,∀b,env.frame=some b->b∈pd X.stack:=λenv he b hb=>abF.mpr ⟨env,he,hb⟩
 have hF:=W.funFrames_hide I.stack Ha
 have RC:H e=none:=by
  cases q:H e with
  | none=>rfl
  | some u=>
   obtain⟨o,ho⟩:=(I.gX e u q).ex
   rw[hx.new] at ho;cases ho
 have un:Un (pd X.stack) [] H H s.heap h':=Un.kept hx.keeps
 have hB:∀b o,h'.get? b=some o->b∉pd X.stack->((∃u,H b=some u)\/∃o',s.heap.get? b=some o')->(W.hideAll s.heap (pd X.stack)).get? b=some o:=λb o hb nf c=>by
  have:∃o',s.heap.get? b=some o':=by
   rcases c with⟨u,hu⟩|c
   ·exact(I.gX b u hu).ex
   ·exact c
  obtain⟨o',mv⟩:=this
  have z:=hx.keeps b o' mv
  rw[hb] at z;cases z
  exact W.hideAll_get _ mv nf
 have Xq:h'.FunFrames (W.hideAll s.heap (pd X.stack)) X.stack:=hF.of_keeps λb o ho _=>⟨o,hx.keeps b o ho,rfl⟩
 refine wpAny_leaves_madeW (base:=W.hideAll s.heap (pd X.stack)) (h:=s.heap) (by rw[I.ok.frames,bd.stack]) bd.frame (λb o q=>W.of_hideAll _ q) (by rw[<-bd.stack];exact hF) hx λLF t G7 tup nt up=>?_
 exact Fb (s':={s with heap:=h'}) I bd un rfl I.bare (I.gX.kept hx.keeps) hB Xq G7 up hx.new RC
structure Bx(X:Cx)(E:XK):Prop where
 bd:Bd X
 calm:X.calm=true
 xe:∀ev s',wpAny (model X.prog X.w) X.A (leaving X.env ev) (λ_ CP=>vt X.prog X.w X.outer X.H₀ X.s₀ E ev CP) (λe' CP=>vt X.prog X.w X.outer X.H₀ X.s₀ E e' CP) s'->X.xe ev s'
theorem bx{P:Program}{w:World}{K:Qqy}{mg:Qqx}{base:Heap}{N:List Str}{qual:Str}{scope:Scope}{f:Addr}{cd:Value}{A:Around}{outer:List Env}{s:Shared}{H:Hp}{E:XK} :
 Bx (tP (vt P w) P w K mg base N qual scope f cd A outer s H E) E:=⟨⟨rfl,rfl,rfl⟩,rfl,λ_ _ h=>h⟩
theorem Jk{EX:XK}(b:Bx X EX):Passes (vt X.prog X.w) X EX:=λak Z H s ev s' I ⟨e,C,H',he,F,q⟩=>by
 subst he
 exact b.xe _ _ (il (Fd I b.bd F) λ_ CP F'=>⟨e,C,H',rfl,F',q⟩)
theorem M3{P:Program}{w:World}{K:Qqy}{mg:Qqx}{base:Heap}{N:List Str}{qual:Str}{scope:Scope}{f:Addr}{cd:Value}{A:Around}{outer:List Env}{s:Shared}{H:Hp}{E:XK} :
 PassesOwn (model P w) (tP (vt P w) P w K mg base N qual scope f cd A outer s H E).A (tP (vt P w) P w K mg base N qual scope f cd A outer s H E).env (tP (vt P w) P w K mg base N qual scope f cd A outer s H E).xe:=PassesOwn.leaving
structure Exc(K:Qqy)(mg:Qqx)(x:Str)(C:Addr):Prop where
 m:mg x=some (.ref C)
 q:W.excIn K C [.type "ValueError",.type "Exception",.type "BaseException",.type "object"] "ValueError.__new__"=true
def Kv(C:Addr)(EX:XK)(ta:TE):TS:=λ_ Z H=>ta Z H λ_ H1=>EX (.ref C) none H1
theorem y4{K:Qqy}{h:Heap}{C:Addr}{UC:List Value}{newId:String}(X:K.In h)(q:W.excIn K C UC newId=true):∃bm N nm q bs hdct sn sub ab col dd k0 k1 k2 k3 k5 mN,h.get? C=some (excClassObj nm q C N bs bm hdct sn sub ab col dd k0 k1 k2 k3 k5 newId)/\h.Ns N mN/\mN "__init__"=none/\OwnTail h UC bm:=by
 unfold W.excIn at q
 split at q
 ·rename_i dd cd sl ho
  split at q
  ·rename_i C' bm k0 k1 k2 k3 n k5 hm hs
   simp only [aaH,abD,Bool.not_eq_true'] at q
   obtain⟨⟨⟨⟨⟨rfl,rfl⟩,N_⟩,ht⟩,gX⟩,Oa⟩:=q
   obtain⟨nm,bs,mro,ns,qn,hd,sn,sub,ab,col,del⟩:=cd
   dsimp only at hm N_ gX Oa
   subst hm N_
   have RD:sl=#[k0,k1,k2,k3,some (.builtin n),k5]:=by
    obtain⟨l⟩:=sl
    simp only at hs
    rw[hs]
   subst RD
   exact⟨bm,ns,nm,qn,bs,hd,sn,sub,ab,col,dd,k0,k1,k2,k3,k5,_,X _ _ ho,.of_isNs (W.isNs_of_in X gX),W.nsMap_none_of_in X gX Oa,W.tail_of_in X ht⟩
  ·cases q
 ·cases q
theorem lZ{EX:XK}{x:Str}{a:Expr}{ta:TE}{np j2 pos:Pos}(b:Bx X EX)(O:Exc X.K X.mg x C)(hg:Gl X x)(ha:PE X a ta)
  (BH:(x ==("__debug__":Str))=false:=by decide) (hs:starEach [a] X.env=[(false,eval a X.env)]:=by rfl):PS X (.Raise (some (.Call (.Name x np) [a] [] j2)) none pos) (Kv C EX ta):=by
 intro ak s Z H D I h
 obtain⟨bm,N,nm,q,bs,hdct,sn,sub,ab,col,dd,k0,k1,k2,k3,k5,mN,hC,hN,Oa,T⟩:=y4 I.ok.mod.JS O.q
 refine wpAny_Raise_call_subT (C:=C) (nm:=nm) (q:=q) (N:=N) (bs:=bs) (bm:=bm) (hdct:=hdct) (sn:=sn) (sub:=sub) (ab:=ab) (col:=col) (dd:=dd) (k0:=k0) (k1:=k1) (k2:=k2) (k3:=k3) (k5:=k5)
  PySem.F.excBase_ValueError (mN:=mN) (T.hasType (by decide)) (I.ok.hd b.calm) (by rw[hs];rfl) Oa (qt I hg O.m ⟨rfl,?_⟩ BH)
 rw[hs]
 refine abr ?_
 refine aa3 (il (ha ak s Z H _ I h) λu s1 g9=>?_)
 obtain⟨y,H1,I1,r1,q1⟩:=g9
 refine abk ?_
 have hk:=I1.bk
 refine⟨rfl,by show 1<=sizeLine;decide,hk _ _ hC,hN.keeps hk,T.keeps hk,λh' e hm=>?_⟩
 exact b.xe _ _ (il (Cc I1 b.bd hm) λ_ CP F=>⟨e,C,H1,rfl,F,q1⟩)
end
section
variable{P:Program}{w:World}{K:Qqy}{mg:Qqx}{base:Heap}
theorem uK.WQ{x qual:Str}{st:Stmt}{f:Addr}{fd:FuncData}{N ps:List Str}{k:Nat}{sp:Sp}(F:uK K x qual st f fd)(S:fN N ps (e_ st))(len:∀vs H Q E,sp vs H Q E->vs.length=ps.length)
  (tG:∀(jm:Value)(A:Around)(outer:List Env)(s:Shared)(H:Hp)(vs:List V)(Q:VK)(E:XK),jw k (A.deeper (envOfC qual (e_ st) s.heap.objs.size f jm))->sp vs H Q E->
   ∃t,Am (tP (vt P w) P w K mg base N qual (e_ st) f jm A outer s H E) (jX st) t/\t {nx:=λ_ H'=>Q .iQ H',rt:=Q} (start N vs) H):gS P w K mg base (vt P w) (k+1) f fd ps sp:=by
 obtain⟨oc,od,kV,doc,pm,an,jm,ct,EC,rfl,lk,yG⟩:=F.ex
 exact Je lk yG S len λA outer s H vs Q E hr G_=>tG jm A outer s H vs Q E hr G_
theorem gS.QT{k:Nat}{f:Addr}{fd:FuncData}{ps:List Str}{sp:Sp}(F:gS P w K mg base (vt P w) k f fd ps sp):gS P w K mg base lR k f fd ps (λvs H Q _=>sp vs H Q E0):=
 ⟨λvs H Q E h=>F.len vs H Q E0 h,λA outer s H args us vs Q E hr e0 hb hv hs=>abR (F.run A outer s H args us vs Q E0 hr e0 hb hv hs) λr s' h=>by
  cases r with
  | error e=>obtain⟨_,_,_,_,_,z⟩:=h;exact z
  | ok fl=>cases fl<;>exact h⟩
end
section
variable{X:Cx}
def PF(X:Cx)(k:Nat)(es:List Expr)(t:TE):Prop:=
 ∀(acc:Str)(ak:Qqz)(s:Shared)(Z:St)(H:Hp)(Q:VK),acc.length<=k*1048576->Inv X ak Z H s->t Z H Q->wpAny (model X.prog X.w) X.A (joinParts acc (evalEach es X.env)) (EP X ak Z Q) X.xe s
def WR:TE:=λ_ H Q=>∀x,Q (.str x) H
def WS(te t:TE):TE:=λZ H Q=>te Z H λv H1=>∃y,v=.str y/\y.length<=1048576/\t Z H1 Q
theorem rG{k:Nat}(hk:k<=8:=by decide):PF X k [] WR:=λacc ak s Z H Q hl I h=>
 joinParts_nil (hsz:=by have:sizeLine=16777216:=rfl;omega) ⟨.str acc,H,I.tok _,⟨_,rfl⟩,h acc⟩
theorem iC{k:Nat}{e:Expr}{es:List Expr}{te t:TE}(he:PE X e te)(hr:PF X (k+1) es t)(hk:k<=7:=by decide)(hs:evalEach (e::es) X.env=eval e X.env::evalEach es X.env:=by rfl):PF X k (e::es) (WS te t):=by
 intro acc ak s Z H Q hl I h
 rw[hs]
 refine joinParts_cons (il (he ak s Z H _ I h) λu s1 g9=>?_)
 obtain⟨v,H1,I1,r1,y,ev,hy,q⟩:=g9
 subst ev
 obtain⟨t',rfl⟩:=r1
 have e1:(acc++y).length=acc.length+y.length:=strLen_append ..
 exact⟨by rw[e1];have:sizeLine=16777216:=rfl;omega,hr (acc++y) ak s1 Z H1 Q (by rw[e1];omega) I1 q⟩
theorem ow{e1 e2:Expr}{es:List Expr}{t:TE}{pos:Pos}(h:PF X 0 (e1::e2::es) t):PE X (.JoinedStr (e1::e2::es) pos) t:=λak s Z H Q I hq=>by
 rw[arm_eval_JoinedStr]
 exact h Str.empty ak s Z H Q (by decide) I hq
def WT(te:TE):TE:=λZ H Q=>te Z H λv H1=>∃x,v=.str x/\(reprText x).length<=1048576/\Q (.str (reprText x)) H1
theorem rH{e:Expr}{te:TE}{pos:Pos}(he:PE X e te):PE X (.FormattedValue e 114 none pos) (WT te):=by
 intro ak s Z H Q I h
 refine wpAny_FormattedValue_repr (il (he ak s Z H _ I h) λu s1 g9=>?_)
 obtain⟨v,H1,I1,r1,x,ev,hy,q⟩:=g9
 subst ev
 obtain⟨t',rfl⟩:=r1
 have hz:(reprText x).length<=sizeLine:=aag hy (by decide)
 refine wpAny_pyReprObj_str (hsz:=hz) ?_
 exact formatField_str (λUB tk=>⟨.str (reprText x),H1,I1.tok _,⟨_,rfl⟩,q⟩) hz
end
section
variable{X:Cx}{ak:Qqz}{Z:St}{H:Hp}{s:Shared}{tg:Expr}
def xD(X:Cx)(d:Addr):Prop:=∀o u,X.H₀ d≠some (.mw o u)
theorem Fe{u:HO}(mu:IX (some u)):(∀xs,u≠.tup xs)/\(∀o v,u≠.mw o v)/\(∀ps,u≠.G5 ps)/\∀x,u≠.own x:=by
 cases u<;>first|exact False.elim mu|exact⟨(λ_ z=>nomatch z),(λ_ _ z=>nomatch z),(λ_ z=>nomatch z),(λ_ z=>nomatch z)⟩
theorem Inv.Kw{d:Addr}{u:HO}(I:Inv X ak Z H s)(hd:H d=some u)(mu:IX (some u)):xD X d:=λo v z=>by
 have:=I.base.qJ d o v z
 rw[hd] at this
 exact(Fe mu).2.1 o v (aaf this)
theorem Inv.Ff{d:Addr}{u v:HO}(I:Inv X ak Z H s)(hd:H d=some u)(nt:∀xs,u≠.tup xs)(nb:∀ps,u≠.G5 ps)(no:∀x,u≠.own x)(nf:xD X d)(new:ia X.prog X.w (upd H d v) s.heap d v):Inv X ak Z (upd H d v) s:=by
 have ne:∀b,H b=none->b≠d:=λb e z=>by rw[z,hd] at e;cases e
 refine⟨I.ok,I.os,I.bare,⟨I.base.keep,I.base.slot,λb o q n hx=>by rw[c_ (ne b (I.base.free b o q n hx))];exact I.base.free b o q n hx,I.base.there,λb xs q=>?_,λb o w q=>?_,λb ps q=>?_⟩,I.loc,I.cell,by rw[c_ (ne _ I.free)];exact I.free,λx c e=>by rw[c_ (ne _ (I.kC x c e))];exact I.kC x c e,λp hp=>?_,λb o e=>?_,I.len⟩
 ·have z:=I.base.oh b xs q
  have:b≠d:=λy=>by rw[y,hd] at z;exact nt xs (aaf z)
  rw[c_ this];exact z
 ·have z:=I.base.qJ b o w q
  have:b≠d:=λy=>by rw[y] at q;exact nf o w q
  rw[c_ this];exact z
 ·obtain⟨m,z⟩:=I.base.r9 b ps q
  have:b≠d:=λy=>by rw[y,hd] at z;exact nb _ (aaf z)
  exact⟨m,by rw[c_ this];exact z⟩
 ·obtain⟨e1,e2,e3⟩:=I.pin p hp
  exact⟨e1,by rw[c_ (ne _ e2)];exact e2,e3⟩
 ·by_cases hb:b=d
  ·subst hb;rw[a_] at e;cases e;exact new
  ·rw[c_ hb] at e
   refine(I.gX b o e).rZ (λ_ _ _ q=>q) (λc q=>?_) λc xs q=>?_
   ·have:c≠d:=λy=>by rw[y,hd] at q;exact no _ (aaf q)
    rw[c_ this];exact q
   ·have:c≠d:=λy=>by rw[y,hd] at q;exact nt _ (aaf q)
    rw[c_ this];exact q
theorem Inv.frozen{d:Addr}{u:HO}(I:Inv X ak Z H s)(hd:H d=some u)(mu:IX (some u)):∃o,s.heap.get? d=some o/\Inv X ak Z (upd H d (.mw o u)) s:=by
 obtain⟨o,ho⟩:=(I.gX d u hd).ex
 obtain⟨m1,m2,m3,m4⟩:=Fe mu
 refine⟨o,ho,I.Ff hd m1 m3 m4 (I.Kw hd mu) ⟨ho,?_⟩⟩
 refine(I.gX d u hd).rZ (λ_ _ _ q=>q) (λc q=>?_) λc xs q=>?_
 ·have:c≠d:=λy=>by rw[y,hd] at q;exact m4 _ (aaf q)
  rw[c_ this];exact q
 ·have:c≠d:=λy=>by rw[y,hd] at q;exact m1 _ (aaf q)
  rw[c_ this];exact q
theorem Inv.vX{d:Addr}{o:Obj}{u:HO}(I:Inv X ak Z H s)(hd:H d=some (.mw o u))(nf:xD X d):Inv X ak Z (upd H d u) s:=by
 refine I.Ff hd (λ_ z=>by cases z) (λ_ z=>by cases z) (λ_ z=>by cases z) nf ?_
 obtain⟨_,q⟩:=(show ia X.prog X.w H s.heap d (.mw o u) from I.gX d _ hd)
 refine q.rZ (λ_ _ _ q=>q) (λc q=>?_) λc xs q=>?_
 ·have:c≠d:=λy=>by rw[y,hd] at q;cases q
  rw[c_ this];exact q
 ·have:c≠d:=λy=>by rw[y,hd] at q;cases q
  rw[c_ this];exact q
def M4(X:Cx)(t:TE):TE:=λZ H Q=>t Z H λv H2=>∃d o u,H2 d=some (.mw o u)/\xD X d/\Q v (upd H2 d u)
theorem HA{e:Expr}{t:TE}(h:PE X e t):PE X e (M4 X t):=λak s Z H Q I hq=>
 il (h ak s Z H _ I hq) λv s' ⟨x,H',I',r,d,o,u,hd,nf,q⟩=>⟨x,_,I'.vX hd nf,r,q⟩
def Ends.QV(X:Cx)(D:Ends):Ends where
 nx:=λZ H2=>∃d o u,H2 d=some (.mw o u)/\xD X d/\D.nx Z (upd H2 d u)
 rt:=λv H2=>∃d o u,H2 d=some (.mw o u)/\xD X d/\D.rt v (upd H2 d u)
 bk:=λZ H2=>∃d o u,H2 d=some (.mw o u)/\xD X d/\D.bk Z (upd H2 d u)
 ct:=λZ H2=>∃d o u,H2 d=some (.mw o u)/\xD X d/\D.ct Z (upd H2 d u)
theorem y6{st:Stmt}{t:TS}(h:PS X st t):PS X st (λD Z H=>t (D.QV X) Z H):=λak s Z H D I hq=>il (h ak s Z H _ I hq) λf s' q=>by
 cases f with
 | next=>obtain⟨Z',H',I',d,o,u,hd,nf,q⟩:=q;exact⟨Z',_,I'.vX hd nf,q⟩
 | brk=>obtain⟨Z',H',I',d,o,u,hd,nf,q⟩:=q;exact⟨Z',_,I'.vX hd nf,q⟩
 | cont=>obtain⟨Z',H',I',d,o,u,hd,nf,q⟩:=q;exact⟨Z',_,I'.vX hd nf,q⟩
 | ret v=>obtain⟨x,Z',H',I',r,d,o,u,hd,nf,q⟩:=q;exact⟨x,Z',_,I'.vX hd nf,r,q⟩
theorem C7{H:Hp}{d p:Addr}{u f o:HO}(hd:H d=some u)(hp:p≠d):upd (upd (upd H d f) p o) d u=upd H p o:=by
 funext b
 by_cases h1:b=d
 ·subst h1;rw[a_,c_ (abz hp),hd]
 ·rw[c_ h1]
  by_cases h2:b=p
  ·subst h2;rw[a_,a_]
  ·rw[c_ h2,c_ h2,c_ h1]
theorem DT{H:Hp}{d:Addr}{u f:HO}(hd:H d=some u):upd (upd H d f) d u=H:=by
 rw[Hh]
 funext b
 by_cases h1:b=d
 ·subst h1;rw[a_,hd]
 ·rw[c_ h1]
noncomputable def QW(d:Addr)(o:Obj)(kvs:List (Key×V)):It:=
 ⟨λi H=>H d=some (.mw o (.dK kvs))/\i<kvs.length,λi H x H'=>H'=H/\∃k v,kvs[i]?=some (k,v)/\x=kV k,λi H=>H d=some (.mw o (.dK kvs))/\kvs.length<=i⟩
theorem C8{P:Program}{w:World}{k:Key}{u:Value}(h:(iy P w).is k u=true):RelV (kV k) u:=by
 rcases iM (show vE k u=true from h) with⟨i,t,rfl,rfl⟩|⟨x,t,rfl,rfl⟩
 ·exact⟨t,rfl⟩
 ·exact⟨t,rfl⟩
theorem Fg{P:Program}{w:World}{h:Heap}{d:Addr}{o:Obj}{kvs:List (Key×V)}{es:Array DictEntry}{ep:Nat}(hd:o.data=.dict es ep)(q:ia P w H h d (.mw o (.dK kvs))):(d ==sysModules)=false/\kvs.length<=sizeLine/\∃vs,KV kvs vs/\h.DictAt (iy P w) d vs ep:=by
 obtain⟨ho,hz,hs,vs,kv,o',es',Jt,mv,h1,h2,h3⟩:=q
 rw[ho] at mv;cases mv
 rw[hd] at h2;cases h2
 exact⟨hs,hz,vs,kv,o,es,ho,h1,hd,h3⟩
theorem KV.at{Z:Type}{kvs:List (Z×V)}{vs:List (Z×Value)}(r:KV kvs vs):∀{i:Nat} {k:Z} {u:Value},vs[i]?=some (k,u)->∃v,kvs[i]?=some (k,v)/\RelV v u:=by
 induction r with
 | nil=>intro i k u e;simp at e
 | cons f t ih=>
  intro i k u e
  cases i with
  | zero=>
   simp at e
   subst e
   exact⟨_,aaT some (Prod.ext f.1 rfl),f.2⟩
  | succ i=>
   obtain⟨v,h1,h2⟩:=ih (by simpa using e)
   exact⟨v,by simpa using h1,h2⟩
theorem DU{P:Program}{w:World}{K:Qqy}(d it:Addr)(o:Obj)(es:Array DictEntry)(ep:Nat)(kvs:List (Key×V))(GF:o.data=.dict es ep):Turn P w K tg (QW d o kvs) [it] it (λi h=>h.IsKeyIter it d i kvs.length ep) where
 mem:=by simp
 obj:=λi h st b hb=>by
  have e:b=it:=by simpa using hb
  subst e
  obtain⟨o,e,c,d⟩:=st
  exact⟨o,e,λv z=>by rw[d] at z;cases z⟩
 keep:=λi h h' st k=>st.at λo e=>k it (by simp) o e
 item:=by
  intro X hP hw hK hc i ak s Z H E I hf st hg
  subst hP hw hK
  obtain⟨hd,hi⟩:=hg
  obtain⟨_,_,vs,kv,da⟩:=Fg GF (I.gX d _ hd)
  have hl:kvs.length=vs.length:=kv.length
  have zT:i<vs.length:=by omega
  obtain⟨⟨k,u⟩,hx⟩:∃p,vs[i]?=some p:=⟨vs[i],by simp[zT]⟩
  obtain⟨v,hv,_⟩:=kv.at hx
  obtain⟨f0,f1,f2,f3,f4,f5⟩:=hf it (by simp)
  rw[hl] at st
  refine wpAny_pyNext_dict_item st da hx λkey h' Lx uw sb=>?_
  have I1:Inv X ak Z H {s with heap:=h'}:=I.turned (t':=s.toks) (λb o hb e=>(sb.2 b hb).trans e) f0 f1 f3 f4 f5
  obtain⟨o',e,c,dd⟩:=id uw
  exact⟨key,rfl,vI (s:={s with heap:=h'}) e c dd (by decide) ⟨kV k,H,I1,C8 Lx,⟨rfl,k,v,hv,rfl⟩,by rw[hl];exact uw,λb hb=>(hf b hb).1⟩⟩
 done:=by
  intro X hP hw hK hc i ak s Z H E I hf st hg
  subst hP hw hK
  obtain⟨hd,hi⟩:=hg
  obtain⟨_,_,vs,kv,da⟩:=Fg GF (I.gX d _ hd)
  have hl:kvs.length=vs.length:=kv.length
  obtain⟨f0,f1,f2,f3,f4,f5⟩:=hf it (by simp)
  rw[hl] at st
  exact wpAny_pyNext_dict_end (I.ok.hd hc) st da (by simp;omega) λh' eb=>⟨rfl,I.turned (t':=s.toks) (λb o hb e=>eb b o hb e) f0 f1 f3 f4 f5⟩
 self:=λ_ _ _ _ _ st h=>wpAny_pyIter_keyiter st h
def M5(X:Cx)(td:TE):TI:=λZ H R=>td Z H λx H1=>∃d kvs,x=.ref d/\H1 d=some (.dK kvs)/\∀o,xD X d->R (QW d o kvs) (upd H1 d (.mw o (.dK kvs)))
theorem HB{l:Expr}{td:TE}(hl:PE X l td):PI X tg l (M5 X td):=by
 intro ak s Z H R I h
 refine il (hl ak s Z H _ I h) λv s1 g9=>?_
 obtain⟨x,H1,I1,r1,q1⟩:=g9
 obtain⟨d,kvs,e,hd,q⟩:=q1
 subst e
 cases r1
 have nf:=I1.Kw hd True.intro
 obtain⟨o,ho,I2⟩:=I1.frozen hd True.intro
 obtain⟨_,hs,vs,kv,o',es,ep,mv,h1,h2,h3⟩:=(show ia X.prog X.w H1 s1.heap d (.dK kvs) from I1.gX d _ hd)
 rw[ho] at mv;cases mv
 refine wpAny_pyIter_dict (kvs:=vs) (ep:=ep) hs ⟨o,es,ho,h1,h2,h3⟩ ?_
 refine⟨s1.heap.objs.size,[s1.heap.objs.size],_,_,_,rfl,I2.kept (t':=s1.toks) λb o e=>QY _ e,DU d _ o es ep kvs h2,⟨_,WO _ rfl,rfl,by rw[kv.length];rfl⟩,λb hb=>?_,q o nf⟩
 have e:b=s1.heap.objs.size:=by simpa using hb
 subst e
 exact I2.vH (Q2 _) (I2.gX.fresh (Q2 _))
theorem HC{d:Addr}{o:Obj}{kvs:List (Key×V)}{g:TG}{tt:TT}{te:TE}{Q:List V->Hp->Prop}{Z:St}{H:Hp}(hn:kvs.length<=sizeLine)(Pv:Nat->List V->St->Hp->Prop)(h0:Pv 0 [] Z H)(hl:∀i ys Z H,Pv i ys Z H->H d=some (.mw o (.dK kvs))/\ys.length<=i)
  (hs:∀i k v ys Z H,kvs[i]?=some (k,v)->Pv i ys Z H->g (kV k) Z H λZ2 H2=>tt Z2 H2 λb H3=>if b=true then te Z2 H3 λv H4=>Pv (i+1) (ys++[v]) Z2 H4 else Pv (i+1) ys Z2 H3)
  (hd:∀ys Z H,Pv kvs.length ys Z H->Q ys H):DS g tt te (QW d o kvs) Q Z H:=by
 refine⟨λi m ys Z H=>m=kvs.length-i/\i<=kvs.length/\Pv i ys Z H,⟨kvs.length,by simp,aaD _,h0⟩,?_⟩
 rintro i m ys Z H ⟨rfl,hi,p⟩
 obtain⟨q,hy⟩:=hl i ys Z H p
 by_cases jI:i<kvs.length
 ·refine .inr ⟨⟨q,jI⟩,by omega,Pv (i+1),λMh Z' H' p'=>⟨kvs.length-(i+1),by omega,rfl,jI,p'⟩,λx H' y=>?_⟩
  obtain⟨e,k,v,y,rfl⟩:=y
  subst e
  exact hs i k v ys Z _ y p
 ·have e:i=kvs.length:=by omega
  subst e
  exact .inl ⟨⟨q,Q2 _⟩,by omega,hd ys Z H p⟩
theorem nz{Z Y:Type}{F:Z->Y->Prop}:∀{xs:List Z} {ys:List Y},xs.length=ys.length->(∀(i:Nat) a b,xs[i]?=some a->ys[i]?=some b->F a b)->Paired F xs ys
 | [],[],_,_=>.nil
 | [],_::_,e,_=>by simp at e
 | _::_,[],e,_=>by simp at e
 | x::xs,y::ys,e,h=>.cons (h 0 x y rfl rfl) (nz (by simpa using e) λi a b ha hb=>h (i+1) a b (by simpa using ha) (by simpa using hb))
theorem pI(hc:X.calm=true):qR X (.type "list") (λxs H Q=>∃d kvs,xs=[V.ref d]/\H d=some (.dK kvs)/\∀p,H p=none->Q (.ref p) (upd H p (.lst (kvs.map λkv=>kV kv.1)))):=by
 intro ak s Z H xs us Q I r h
 obtain⟨d,kvs,rfl,hd,q⟩:=h
 obtain⟨u,rfl,ru⟩:=vals1 r
 cases (show u=Value.ref d from ru)
 obtain⟨hz,hs,vs,kv,o,es,ep,ho,h1,h2,h3⟩:=(show ia X.prog X.w H s.heap d (.dK kvs) from I.gX d _ hd)
 have hl:kvs.length=vs.length:=kv.length
 refine W.kdl_call (W.kdl_dict (knd:=iy X.prog X.w) (kvs:=vs) (ep:=ep) hs) (I.ok.hd hc) ⟨o,es,ho,h1,h2,h3⟩ (by omega) λh' tk acc c hk hS qO=>?_
 have hf:H s.heap.objs.size=none:=I.gX.fresh (Q2 _)
 have rel:Vals (kvs.map λkv=>kV kv.1) acc.toList:=by
  refine nz (by rw[Ou];have:acc.toList.length=acc.size:=aau;rw[this,qO.1];exact hl) λi a b ha hb=>?_
  obtain⟨k,x,Ob,hi⟩:=qO.2 i b (by rw[<-aaA];exact hb)
  obtain⟨v,hv,_⟩:=kv.at Ob
  rw[W3,hv] at ha
  cases ha
  exact C8 hi
 refine⟨.ref s.heap.objs.size,upd H s.heap.objs.size (.lst (kvs.map λkv=>kV kv.1)),I.laid (t':=tk) hk (Q2 _) ?_,rfl,q _ hf⟩
 exact⟨by rw[Ou];exact hz,acc.toList,c,rel,by rw[abK];exact hS⟩
end
def vY(CX:B4)(X:Cx)(Z0:St)(E:XK):Prop:=∀(ak:Qqz)(H:Hp)(s:Shared)(e:Value)(s':Shared),Inv X ak Z0 H s->CX X.stack H s E e s'->X.xe e s'
def WU(Z0:St)(t:TE):TE:=λZ H Q=>Z=Z0/\t Z H Q
section
variable{X:Cx}{CX:B4}{k:Nat}{f C:Addr}{fd:FuncData}{ps:List Str}{sp:Sp}{rY:List V}{ds:List Value}{E:XK}{x m:Str}{p pos apos:Pos}{e o:Expr}{es:List Expr}{ta:TE}{t:TA}{Z₀:St}
theorem Kx{ak:Qqz}{H:Hp}{s:Shared}{Q:VK}{us:List Value}{vs:List V}(F:gS X.prog X.w X.K X.mg X.base CX k f fd ps sp)(hr:jw k X.A)(hb:Binds X.K fd ps ds)(hd:Vals rY ds)(hx:vY CX X Z0 E)
  (I:Inv X ak Z0 H s) (r:Vals vs us) (h:sp (vs++rY) H Q E):wpAny (model X.prog X.w) X.A (call (.ref f) us) (EP X ak Z0 Q) X.xe s:=by
 have r2:Vals (vs++rY) (us++ds):=r.append hd
 have hl:(us++ds).length=ps.length:=by rw[<-r2.length];exact F.len _ _ _ _ h
 refine wpAny_call (abR (F.run X.A X.stack s H ⟨us,[]⟩ (us++ds) (vs++rY) Q E hr I.Kd (hb s us I.r_ hl) r2 h) λr s' hq=>?_)
 cases r with
 | error e=>exact hx ak H s e s' I hq
 | ok fl=>
  cases fl with
  | ret u=>exact I.after hq
  | next=>exact False.elim hq
  | brk=>exact False.elim hq
  | cont=>exact False.elim hq
theorem AJ{pl:Sem Bool}(he:PE X o ta)(c:Ax X.K C)(hm:Meth X.K C m f)(F:gS X.prog X.w X.K X.mg X.base CX k f fd ps sp)(hr:jw k X.A)(hb:Binds X.K fd ps ds)(hd:Vals rY ds)(hx:vY CX X Z0 E)(ha:PA X (e::es) t)
  (yH:starEach (e::es) X.env=(false,eval e X.env)::starEach es X.env:=by rfl) (n_:(backTo pos (starEach es X.env)).any (·.1)=false:=by rfl)
  (ht:eval (.Call (.Attribute o m apos) (e::es) [] pos) X.env=(do
   let ov <-eval o X.env
   standAt apos.atName
   let (f,first) <-holding [ov] (getMethod ov m pl)
   callWith pos f first (backTo pos (starEach (e::es) X.env)) (backToKw pos (keywordEach [] X.env))):=by rfl) :
  PE X (.Call (.Attribute o m apos) (e::es) [] pos) (WU Z0 (Az C m sp rY E ta t)):=by
 intro ak s Z H Q I h
 obtain⟨rfl,h⟩:=h
 refine W.methodCall_KW (pl:=pl) (il (he ak s Z H _ I h) λu s1 g9=>?_) ht
 obtain⟨x,H1,I1,rx,a,dx,fs,ex,ea,l,q⟩:=g9
 subst ex
 obtain rfl:u=Value.ref a:=rx
 refine rD I1 ea c hm l ?_
 refine W.callWith_K (first:=[.ref a]) (h₀:=X.base) I.ok.mod.JS hm.kp (il (ha pos ak s1 Z H1 _ I1 q) λus s2 g9=>?_) yH n_
 obtain⟨vs,H2,I2,r,q2⟩:=g9
 refine⟨I2.r_,?_⟩
 exact Kx (us:=.ref a::us) (vs:=.ref a::vs) F hr hb hd hx I2 (.cons rfl r) q2
end
noncomputable abbrev Cx.qU(X:Cx)(pn:Qqz)(E':Qqq):Cx:={X with pn:=pn,xe:=E'}
noncomputable abbrev Cx.hand(X:Cx)(e:Addr):Cx:={X with A:=X.A.mark (some (.ref e)),calm:=false,xe:=λ_ _=>False}
theorem Cx.Ok.qU{X:Cx}(ok:X.Ok)(pn:Qqz)(E:Qqq):(X.qU pn E).Ok:=
 ⟨ok.mod,ok.kind,ok.glob,ok.blt,ok.above,ok.inj,ok.has,ok.IY,ok.hd,ok.frames,ok.JT,ok.Mx,ok.bs,ok.Ez,ok.pz,ok.BU,ok.pC,ok.EA⟩
theorem Cx.Ok.hand{X:Cx}(ok:X.Ok)(e:Addr):(X.hand e).Ok:=
 ⟨ok.mod,ok.kind,ok.glob,ok.blt,ok.above,ok.inj,ok.has,ok.IY,(λz=>nomatch z),ok.frames,ok.JT,ok.Mx,ok.bs,ok.Ez,ok.pz,ok.BU,ok.pC,ok.EA⟩
section
variable{X:Cx}{ak pn:Qqz}{Z:St}{H:Hp}{s:Shared}{E:Qqq}{e:Addr}
theorem Inv.qU(I:Inv X ak Z H s)(E:Qqq):Inv (X.qU (X.pn++ak) E) [] Z H s:=
 ⟨I.ok.qU _ E,I.os,I.bare,I.base,I.loc,I.cell,I.free,I.kC,λp hp=>I.pin p (by simpa using hp),I.gX,I.len⟩
theorem Inv.ox{pl:Qqz}(ok:X.Ok)(I:Inv (X.qU (X.pn++ak) E) pl Z H s):Inv X ak Z H s:=
 ⟨ok,I.os,I.bare,I.base,I.loc,I.cell,I.free,I.kC,λp hp=>I.pin p (aad _ hp),I.gX,I.len⟩
theorem Inv.hand(I:Inv X ak Z H s)(e:Addr):Inv (X.hand e) ak Z H s:=
 ⟨I.ok.hand e,I.os,I.bare,I.base,I.loc,I.cell,I.free,I.kC,I.pin,I.gX,I.len⟩
theorem Inv.tV(ok:X.Ok)(I:Inv (X.hand e) ak Z H s):Inv X ak Z H s:=
 ⟨ok,I.os,I.bare,I.base,I.loc,I.cell,I.free,I.kC,I.pin,I.gX,I.len⟩
theorem SP.ox{D:Ends}{f:Flow}{s':Shared}{pl:Qqz}(ok:X.Ok)(h:SP (X.qU (X.pn++ak) E) pl D f s'):SP X ak D f s':=by
 cases f with
 | next=>obtain⟨Z',H',I,q⟩:=h;exact⟨Z',H',I.ox ok,q⟩
 | brk=>obtain⟨Z',H',I,q⟩:=h;exact⟨Z',H',I.ox ok,q⟩
 | cont=>obtain⟨Z',H',I,q⟩:=h;exact⟨Z',H',I.ox ok,q⟩
 | ret u=>obtain⟨v,Z',H',I,r,q⟩:=h;exact⟨v,Z',H',I.ox ok,r,q⟩
theorem SP.tV{D:Ends}{f:Flow}{s':Shared}(ok:X.Ok)(h:SP (X.hand e) ak D f s'):SP X ak D f s':=by
 cases f with
 | next=>obtain⟨Z',H',I,q⟩:=h;exact⟨Z',H',I.tV ok,q⟩
 | brk=>obtain⟨Z',H',I,q⟩:=h;exact⟨Z',H',I.tV ok,q⟩
 | cont=>obtain⟨Z',H',I,q⟩:=h;exact⟨Z',H',I.tV ok,q⟩
 | ret u=>obtain⟨v,Z',H',I,r,q⟩:=h;exact⟨v,Z',H',I.tV ok,r,q⟩
end
theorem Ky{P:Program}{w:World}{st:List Env}{H H':Hp}{s s':Shared}{e C:Addr}(F:L8 P w st H H' s s' e C)(Oc:∀b∈pd st,H b=none/\∃o,s.heap.get? b=some o){B h6:Heap}{t:Addr}(fl:Heap.FlyingW B st e (.ref C) (.ref t) s'.heap)
  (hB:∀b o,s'.heap.get? b=some o->b∉pd st->((∃u,H' b=some u)\/∃o',s.heap.get? b=some o')->B.get? b=some o) (Od:B.StaysIn h6) (up:s'.heap.UpToSlots h6) :
  Un (pd st) [] H H' s.heap h6/\og P w H' h6:=by
 have Du:∀b u,H' b=some u->b∉pd st:=λb u hu hb=>by
  obtain⟨n,o,ho⟩:=Oc b hb
  rw[F.un.free b o ho n (by simp)] at hu;cases hu
 have tH:∀b o u,s'.heap.get? b=some o->H' b=some u->h6.get? b=some o:=λb o u ho hu=>Od b o (hB b o ho (Du b u hu) (.inl ⟨u,hu⟩))
 refine⟨⟨λb o q n hb hx=>Od b o (hB b o (F.un.keep b o q n hb hx) hb (.inr ⟨o,q⟩)),λb o q n hb hx=>?_,F.un.free,λb o q hx=>?_,F.un.oh,F.un.qJ,F.un.r9⟩,λa u ha=>?_⟩
 ·obtain⟨sl,q1⟩:=F.un.slot b o q n hb hx
  obtain⟨_,o',mv,hd⟩:=fl.2.2.1.mem hb
  rw[q1] at mv;cases mv
  obtain⟨Fc,q2⟩:=up b _ q1 hd
  exact⟨Fc,q2⟩
 ·obtain⟨o2,q2⟩:=F.un.there b o q hx
  by_cases hb:b∈pd st
  ·obtain⟨_,o',mv,hd⟩:=fl.2.2.1.mem hb
   rw[q2] at mv;cases mv
   obtain⟨Cb,q3⟩:=up b _ q2 hd
   exact⟨_,q3⟩
  ·exact⟨o2,Od b o2 (hB b o2 q2 hb (.inr ⟨o,q⟩))⟩
 ·refine(F.gX a u ha).rZ (λb v hb q=>?_) (λ_ z=>z) λ_ _ z=>z
  rcases hb with z|z
  ·rw[z] at q ⊢;exact tH a v u q ha
  ·exact tH b v _ q z
noncomputable def Cd(K:Qqy)(C D:Addr):Bool:=W.excIn K C [.type "ValueError",.type "Exception",.type "BaseException",.type "object"] "ValueError.__new__"&&W.excIn K D [.type "ValueError",.type "Exception",.type "BaseException",.type "object"] "ValueError.__new__"&&
 match K.lookup C with
 | some ⟨_,_,.cls cd,_⟩=>cd.mro.contains (.ref D)
 | _=>false
theorem AK{M:Model}{A:Around}{E:Qqq}{K:Qqy}{s:Shared}{e C D:Addr}{oe:Obj}{Q:Bool->Shared->Prop}(X:K.In s.heap)(q:Cd K C D=true)(he:s.heap.get? e=some oe)(hc:oe.cls=.ref C)(h:Q true s) :
  wpAny M A (excMatches (.ref e) (.ref D)) Q E s:=by
 unfold Cd at q
 rw[aaH,aaH] at q
 obtain⟨⟨q1,q2⟩,q3⟩:=q
 obtain⟨bm,N,nm,qn,bs,hdct,sn,sub,ab,col,dd,k0,k1,k2,k3,k5,mN,hC,hN,Oa,T⟩:=y4 X q1
 obtain⟨Xr,N2,nm2,qn2,bs2,hdct2,sn2,sub2,ab2,col2,PO,k02,k12,k22,k32,k52,mN2,hD,hN2,hni2,T2⟩:=y4 X q2
 have hm:(Value.ref C::bm).contains (.ref D)=true:=by
  split at q3
  ·rename_i c d cd sl ho
   have z:=X _ _ ho
   rw[hC] at z
   cases z
   exact q3
  ·cases q3
 have Xs:(Value.ref D::Xr).contains (.type "BaseException")=true:=by rw[List.contains_cons,T2.hasType (b:=true) (by decide),Bool.or_true]
 have f:=tc_notTuple
 obtain⟨hh,g,d,tk,os⟩:=s
 unfold excMatches
 repeat (first|(with_reducible refine wpAny_loadPart_at he ?_;rw[hc])|with_reducible refine wpAny_loadPart_at hD ?_|(with_reducible refine wpAny_isSubtype_exc hD ?_;rw[Xs])|(with_reducible refine wpAny_isSubtype_exc hC ?_;rw[hm])|wp_step)
 exact h
def QX(K:Qqy)(D0:Addr)(tb:St->XK->TS)(ts:TS):TS:=λD Z H=>tb Z (λcls _ H'=>∃C,cls=.ref C/\Cd K C D0=true/\ts D Z H') D Z H
theorem Fh{X:Cx}{D0:Addr}{x:Str}{body JA:List Stmt}{b0:Stmt}{np RE pos:Pos}{tb:St->XK->TS}{ts:TS}(bd:Bd X)(hm:X.mg x=some (.ref D0))(hg:Gl X x)
  (hb:∀(Z0:St)(pn:Qqz)(E':Qqq)(EX:XK),vY (vt X.prog X.w) (X.qU pn E') Z0 EX->Am (X.qU pn E') body (tb Z0 EX))
  (hs:∀e,Am (X.hand e) (b0::JA) ts) (BH:(x ==("__debug__":Str))=false:=by decide) :
  PS X (.Try body [.ExceptHandler (some (.Name x np)) none (b0::JA) RE] [] [] pos) (QX X.K D0 tb ts):=by
 intro ak s Z H D I h
 refine wpAny_Try_except ?_
 refine il (hb Z (X.pn++ak) _ _ ?_ [] s Z H D (I.qU _) h) λf s1 q=>?_
 ·intro pl H1 s1 ev s' I1 Xt
  obtain⟨e,C,H',he,F,C',Xu,tI,Xv⟩:=Xt
  subst he
  cases Xu
  obtain⟨B,t,fl,hB⟩:=F.fl
  have N9:Heap.FlyingW B X.stack e (.ref C) (.ref t) s'.heap:=fl
  rw[bd.stack] at N9
  have Oc:∀b∈pd X.stack,H1 b=none/\∃o,s1.heap.get? b=some o:=λb hb=>by
   obtain⟨_,o,ho,_⟩:=I1.stack.mem hb
   exact⟨I1.vk b hb,o,ho⟩
  refine wpAny_looks_onW (by rw[I.ok.frames,bd.stack]) bd.frame N9 λh4 Oe UD=>?_
  refine wpAny_landsW Oe λh5 RF UE=>?_
  have go:∀h6,B.StaysIn h6->s'.heap.UpToSlots h6->Inv X ak Z H' {s' with heap:=h6}:=λh6 Od RG=>by
   obtain⟨Xw,RH⟩:=Ky F Oc fl hB Od RG
   exact(I1.IZ (s':={s' with heap:=h6}) (ch:=[]) F.os Xw RH F.bare (λ_ z=>nomatch z)).ox I.ok
  have I5:=go h5 RF.1 (UD.trans UE)
  obtain⟨ob,N3,RI⟩:=RF.there
  refine wpAny_handleBy_cons (codeAny_handlers_test (qt (I5.hand e) hg hm ?_ BH)) (by intro q;cases q)
  refine AK I5.r_ tI N3 RI (codeAny_handlers_suite ?_)
  refine lands_againW RF λh6 Xx RG=>?_
  have I6:=go h6 Xx.1 ((UD.trans UE).trans RG)
  exact abg (hs e ak _ Z H' D (I6.hand e) Xv) (λf s7 q=>q.tV I.ok) λ_ _ z=>z.elim
 ·have q:=q.ox I.ok
  cases f with
  | next=>exact wpAny_execs_nil q
  | ret v=>exact q
  | brk=>exact q
  | cont=>exact q
section
variable{X:Cx}{ak:Qqz}{Z:St}{H:Hp}{s:Shared}{M:Model}{A:Around}{E:Qqq}
end
section
variable{P:Program}{w:World}{K:Qqy}{mg:Qqx}{base:Heap}
end
section
variable{X:Cx}{k:Nat}{f:Addr}{fd:FuncData}{ps:List Str}{sp:Sp}{x:Str}{p pos:Pos}{e:Expr}{es:List Expr}{t:TA}
end
open PySem PySem.Spec PyProof.Rows PySem.W PySem.Builtin PySem.Builtin.ObjectAttr PySem.Builtin.Getset_descriptor
structure QZ(K:Qqy)(C:Addr):Prop where
 ga:W.findIn K (.ref C) "__getattribute__"=some (some (.builtin "BaseException.__getattribute__"))
 gt:W.findIn K (.ref C) "__getattr__"=some none
 cl:W.findIn K (.ref C) "__class__"=some (some (.builtin "object.__class__"))
 ob:W.mroIn K C (.type "object")=some true
 be:W.mroIn K C (.type "BaseException")=some true
 cs:(W.clsIn K C).isSome=true
section
variable{K:Qqy}{e C:Addr}{prog:Program}{w:World}{A:Around}{E:Qqq}{h:Heap}{g:Array GenState}{d:Drawn}{t:Nat}{os:OsState}
end
theorem lU{xs:List V}(h:xs.length<=15:=by simp):xs.length<=sizeLine:=aag h (by decide)
theorem jj{Z:Type}{xs:List Z}{i:Int}{j:Nat}{v:Z}(e:i=(j:Int))(h:xs[j]?=some v):DK xs i=some v:=by subst e;exact Hn h
theorem y7{n:Nat}{i:Int}{j:Nat}(e:i=(j:Int))(h:j<n):EU n i=some j:=by
 subst e
 unfold EU
 rw[aah (by omega),aah (by omega)]
 simp
theorem fG.upd{H H':Hp}{p:Addr}{o:HO}(s:fG H H')(h:H p=none):fG H (L2.upd H' p o):=λb u e=>by rw[c_ (fz e h)];exact s b u e
theorem fG.new{H H':Hp}{p:Addr}{o:HO}(s:fG H H')(h:H' p=none):fG H (L2.upd H' p o):=s.upd (s.free h)
def Q0(t:TS):TS:=λD Z H=>∃J:St->Hp->Prop,t {D with nx:=J} Z H/\∀Z' H',J Z' H'->D.nx Z' H'
theorem SP.nx{X:Cx}{ak:Qqz}{D:Ends}{J:St->Hp->Prop}{f:Flow}{s:Shared}(hJ:∀Z' H',J Z' H'->D.nx Z' H')(h:SP X ak {D with nx:=J} f s):SP X ak D f s:=by
 cases f with
 | next=>obtain⟨Z,H,I,q⟩:=h;exact⟨Z,H,I,hJ _ _ q⟩
 | brk=>exact h
 | cont=>exact h
 | ret u=>exact h
theorem y8{X:Cx}{st:Stmt}{t:TS}(h:PS X st t):PS X st (Q0 t):=λak s Z H D I ⟨J,h1,h2⟩=>il (h ak s Z H _ I h1) λf s' q=>SP.nx h2 q
theorem AL{Z:Type}{xs:List Z}{i:Int}(h0:0<=i)(h:i<(xs.length:Int)):∃v,DK xs i=some v/\xs[i.toNat]?=some v:=by
 have hi:i.toNat<xs.length:=by omega
 exact⟨xs[i.toNat],jj (j:=i.toNat) (by omega) (QU hi),QU hi⟩
theorem su{b:Bool}{A B:Prop}(e:b=false)(h:B):if b=true then A else B:=by subst e;exact lY h
theorem AM{b:Bool}{A B:Prop}(e:b=true)(h:A):if b=true then A else B:=by subst e;exact nv h
theorem mod_lt(a b:Int)(h:0<b):0<=a%b/\a%b<b:=⟨Int.emod_nonneg a (by omega),Int.emod_lt_of_pos a h⟩
abbrev fZ(l:List Str):List V:=l.map V.str
theorem iD(xs:List Str)(x:Str):fZ xs++[V.str x]=fZ (xs++[x]):=by unfold fZ;rw[aai];rfl
theorem sv{l:List Str}{j:Nat}{x:Str}(h:l[j]?=some x):(fZ l)[j]?=some (V.str x):=by rw[W3,h];rfl
theorem qw{l:List Str}{j:Nat}{v:V}(h:(fZ l)[j]?=some v):∃x,l[j]?=some x/\v=V.str x:=by
 rw[W3] at h
 cases e:l[j]? with
 | none=>rw[e] at h;cases h
 | some x=>rw[e] at h;cases h;exact⟨x,rfl,rfl⟩
theorem Q1{A:Around}{k:Nat}(hr:jw k A){n:Nat}(h:n<=60:=by decide):A.units+n+1<cLine:=by have:=hr.units;omega
theorem jD{H:Hp}{a q:Addr}{o u:HO}(hq:H q=none)(h:H a=some o):upd H q u a=some o:=by rw[c_ (fz h hq)];exact h
theorem Fc{t0 t1:TS}{D:Ends}{Z:St}{H:Hp}(h:let v1:=t1;hX t0 v1 D Z H):hX t0 t1 D Z H:=h
theorem Cb{t0 t1 t2:TS}{D:Ends}{Z:St}{H:Hp}(h:let v2:=t2;let v1:=hX t1 v2;hX t0 v1 D Z H):hX t0 (hX t1 t2) D Z H:=h
theorem L9{t0 t1 t2 t3:TS}{D:Ends}{Z:St}{H:Hp}(h:let v3:=t3;let v2:=hX t2 v3;let v1:=hX t1 v2;hX t0 v1 D Z H):hX t0 (hX t1 (hX t2 t3)) D Z H:=h
theorem M6{t0 t1 t2 t3 t4:TS}{D:Ends}{Z:St}{H:Hp}(h:let v4:=t4;let v3:=hX t3 v4;let v2:=hX t2 v3;let v1:=hX t1 v2;hX t0 v1 D Z H):hX t0 (hX t1 (hX t2 (hX t3 t4))) D Z H:=h
theorem Uh{t0 t1 t2 t3 t4 t5:TS}{D:Ends}{Z:St}{H:Hp}(h:let v5:=t5;let v4:=hX t4 v5;let v3:=hX t3 v4;let v2:=hX t2 v3;let v1:=hX t1 v2;hX t0 v1 D Z H):hX t0 (hX t1 (hX t2 (hX t3 (hX t4 t5)))) D Z H:=h
theorem WW{t0 t1 t2 t3 t4 t5 t6:TS}{D:Ends}{Z:St}{H:Hp}(h:let v6:=t6;let v5:=hX t5 v6;let v4:=hX t4 v5;let v3:=hX t3 v4;let v2:=hX t2 v3;let v1:=hX t1 v2;hX t0 v1 D Z H):hX t0 (hX t1 (hX t2 (hX t3 (hX t4 (hX t5 t6))))) D Z H:=h
theorem WX{t0 t1 t2 t3 t4 t5 t6 t7 t8:TS}{D:Ends}{Z:St}{H:Hp}(h:let v8:=t8;let v7:=hX t7 v8;let v6:=hX t6 v7;let v5:=hX t5 v6;let v4:=hX t4 v5;let v3:=hX t3 v4;let v2:=hX t2 v3;let v1:=hX t1 v2;hX t0 v1 D Z H):hX t0 (hX t1 (hX t2 (hX t3 (hX t4 (hX t5 (hX t6 (hX t7 t8))))))) D Z H:=h
theorem Kz{w:TI}{g:TG}{b u:TS}{D:Ends}{Z:St}{H:Hp}(h:let v:=b;hX (J3 w g v) u D Z H):hX (J3 w g b) u D Z H:=h
abbrev rr(a:Addr):Option V:=some (.ref a)
abbrev rs(x:Str):Option V:=some (.str x)
abbrev ri(i:Int):Option V:=some (.int i)
section
variable{X:Cx}{tg:Expr}
def L_(x:Str):It:=⟨λi _=>i<x.length,λi H v H'=>H'=H/\∃c,x.cps[i]?=some c/\v=.str ⟨#[c]⟩,λi _=>i=x.length⟩
theorem ym{P:Program}{w:World}{K:PySem.W.Frag}(it:Addr)(ty:String)(x:Str)(t:Tok)(NW:["enumerate","zip","dict_itemiterator","dict_reverseitemiterator","odict_iterator","itertools.zip_longest","itertools.pairwise"].contains ty=false)
  (W:∀A:Around,A.handled=none->Walks P w A it [it] [it] x.cps.size (SignAt x) (λi h=>h.IsStrIter it ty x t i))
  (self:∀(A:Around)(i:Nat)(s:Shared)(Q:Qqq)(E:Qqq),s.heap.IsStrIter it ty x t i->Q (.ref it) s->wpAny (model P w) A (pyIter (.ref it)) Q E s):Turn P w K tg (L_ x) [it] it (λi h=>h.IsStrIter it ty x t i) where
 mem:=by simp
 obj:=λi h st b hb=>by
  have e:b=it:=by simpa using hb
  subst e
  obtain⟨o,e,c,d⟩:=st
  exact⟨o,e,λv z=>by rw[d] at z;cases z⟩
 keep:=λi h h' ⟨o,ho,r⟩ k=>⟨o,k it (by simp) o ho,r⟩
 item:=by
  intro X hP hw hK hc i ak s Z H E I hf st hg
  subst hP hw hK
  obtain⟨f0,f1,f2,f3,f4,f5⟩:=hf it (by simp)
  refine(W X.A (I.ok.hd hc)).item i s _ _ hg st λv h' tk hv uw kk=>?_
  obtain⟨c,t',yF,rfl⟩:=hv
  have I1:Inv X ak Z H {s with heap:=h',toks:=tk}:=I.turned (λb o hb e=>kk b o (by simpa using hb) e) f0 f1 f3 f4 f5
  obtain⟨o',e,cc,dd⟩:=id uw
  exact⟨_,rfl,vI (s:={s with heap:=h',toks:=tk}) e cc dd NW ⟨.str ⟨#[c]⟩,H,I1,⟨t',rfl⟩,⟨rfl,c,yF,rfl⟩,uw,λb hb=>(hf b hb).1⟩⟩
 done:=by
  intro X hP hw hK hc i ak s Z H E I hf st hg
  subst hP hw hK
  obtain⟨f0,f1,f2,f3,f4,f5⟩:=hf it (by simp)
  have e:i=x.cps.size:=hg
  subst e
  exact(W X.A (I.ok.hd hc)).done s _ _ st λh' tk kk=>⟨rfl,I.turned (λb o hb e=>kk b o (by simpa using hb) e) f0 f1 f3 f4 f5⟩
 self:=self
def M7(te:TE):TI:=λZ H R=>te Z H λv H1=>∃x,v=.str x/\R (L_ x) H1
theorem KA{l:Expr}{te:TE}(hl:PE X l te):PI X tg l (M7 te):=by
 intro ak s Z H R I h
 refine il (hl ak s Z H _ I h) λv s1 g9=>?_
 obtain⟨y,H1,I1,r1,x,e,q⟩:=g9
 subst e
 obtain⟨t,rfl⟩:=r1
 have fin:∀(ty:String)(T:Turn X.prog X.w X.K tg (L_ x) [s1.heap.objs.size] s1.heap.objs.size (λi h=>h.IsStrIter s1.heap.objs.size ty x t i)),
   Qy X ak Z tg R (.ref s1.heap.objs.size) {s1 with heap:=s1.heap.push {cls:=.type ty,data:=.fields #[.str x t,.int 0 0]}}:=λty T=>by
  refine⟨s1.heap.objs.size,[s1.heap.objs.size],_,_,H1,rfl,I1.kept (t':=s1.toks) λb o e=>QY _ e,T,⟨_,WO _ rfl,rfl,rfl⟩,λb hb=>?_,q⟩
  have e:b=s1.heap.objs.size:=by simpa using hb
  subst e
  exact I1.vH (Q2 _) (I1.gX.fresh (Q2 _))
 cases ha:x.cps.all (·<128)
 ·exact wpAny_pyIter_wide ha (fin _ (ym _ _ x t (by decide) (λA hh=>Walks.strWide hh _ x t) λ_ _ _ _ _ st h=>wpAny_pyIter_striter_wide st h))
 ·exact wpAny_pyIter_ascii ha (fin _ (ym _ _ x t (by decide) (λA hh=>Walks.strAscii hh _ x t) λ_ _ _ _ _ st h=>wpAny_pyIter_striter_ascii st h))
theorem Fi{x:Str}{g:TG}{tb:TS}{D:Ends}{Z:St}{H:Hp}(Pv:Nat->St->Hp->Prop)(h0:Pv 0 Z H)
  (hs:∀i c Z H,x.cps[i]?=some c->Pv i Z H->g (.str ⟨#[c]⟩) Z H λZ2 H2=>tb {D with nx:=Pv (i+1),ct:=Pv (i+1),bk:=D.nx} Z2 H2) (hd:∀Z H,Pv x.length Z H->D.nx Z H) :
  ∃W:Nat->Nat->St->Hp->Prop,(∃m,W 0 m Z H)/\∀i m Z H,W i m Z H->
   ((L_ x).stop i H/\D.nx Z H)\/((L_ x).go i H/\∃N:St->Hp->Prop,(∀Z' H',N Z' H'->∃m',m'<m/\W (i+1) m' Z' H')/\∀v H',(L_ x).G6 i H v H'->g v Z H' λZ2 H2=>tb {D with nx:=N,ct:=N,bk:=D.nx} Z2 H2):=by
 refine⟨λi m Z H=>m=x.length-i/\i<=x.length/\Pv i Z H,⟨x.length,by simp,aaD _,h0⟩,?_⟩
 rintro i m Z H ⟨rfl,hi,p⟩
 by_cases jI:i<x.length
 ·refine .inr ⟨jI,Pv (i+1),λZ' H' p'=>⟨x.length-(i+1),by omega,rfl,jI,p'⟩,λv H' y=>?_⟩
  obtain⟨e,c,hc,rfl⟩:=y
  subst e
  exact hs i c Z _ hc p
 ·have e:i=x.length:=by omega
  subst e
  exact .inl ⟨rfl,hd Z H p⟩
def WY(te:TE):TE:=λZ H Q=>te Z H λv H1=>∃i:Int,v=.int i/\i.natAbs.log2<1920/\Q (.str (toString i)) H1
theorem KC{e:Expr}{te:TE}{pos:Pos}(he:PE X e te):PE X (.FormattedValue e (-1) none pos) (WY te):=by
 intro ak s Z H Q I h
 refine FormattedValue_plain (il (he ak s Z H _ I h) λu s1 g9=>?_)
 obtain⟨v,H1,I1,r1,i,ev,hy,q⟩:=g9
 subst ev
 obtain⟨t',rfl⟩:=r1
 exact formatField_int_small hy ⟨.str (toString i),H1,I1.tok _,⟨_,rfl⟩,q⟩
end
section
variable{X:Cx}{tg:Expr}
def Fj(K:Qqy)(a:Addr)(n:Nat):It:=
 ⟨λi H=>i<n/\∃xs,gP K H a xs/\xs.length=n,λi H x H'=>H'=H/\∀xs,gP K H a xs->xs[n-1-i]?=some x,λi _=>i=n⟩
theorem Fm{P:Program}{w:World}{K:Qqy}(a it:Addr)(n:Nat):Turn P w K tg (Fj K a n) [it] it (λi h=>h.IsRevIter it a ((n:Int)-1-(i:Nat))) where
 mem:=by simp
 obj:=λi h st b hb=>by
  have e:b=it:=by simpa using hb
  subst e
  obtain⟨o,e,c,d⟩:=st
  exact⟨o,e,λv z=>by rw[d] at z;cases z⟩
 keep:=λi h h' st k=>st.at λo e=>k it (by simp) o e
 item:=by
  intro X hP hw hK hc i ak s Z H E I hf st hg
  subst hP hw hK
  obtain⟨hi,xs,hq,hl⟩:=hg
  obtain⟨fW,rv,p,hz⟩:=I.list hq
  have hx:xs[n-1-i]?=some xs[n-1-i]:=QU (by omega)
  obtain⟨u,hu,ru⟩:=rv.get hx
  obtain⟨f0,f1,f2,f3,f4,f5⟩:=hf it (by simp)
  have e1:(n:Int)-1-(i:Nat)=((n-1-i:Nat):Int):=by omega
  rw[e1] at st
  refine wpAny_pyNext_rev_item st p.isList (x:=u) (by simpa using hu) λh' uw sb=>?_
  have e2:((n-1-i:Nat):Int)-1=(n:Int)-1-((i+1:Nat):Int):=by omega
  rw[e2] at uw
  have I1:Inv X ak Z H {s with heap:=h'}:=I.turned (t':=s.toks) (λb o hb e=>(sb.2 b hb).trans e) f0 f1 f3 f4 f5
  obtain⟨o,e,c,d⟩:=id uw
  exact⟨u,rfl,vI (s:={s with heap:=h'}) e c d (by decide) ⟨_,H,I1,ru,⟨rfl,λys hy=>by rw[I.ni hy hq];exact hx⟩,uw,λb hb=>(hf b hb).1⟩⟩
 done:=by
  intro X hP hw hK hc i ak s Z H E I hf st hg
  subst hP hw hK
  have hg:i=n:=hg
  subst hg
  obtain⟨f0,f1,f2,f3,f4,f5⟩:=hf it (by simp)
  have e1:(i:Int)-1-(i:Nat)=-1:=by omega
  rw[e1] at st
  exact wpAny_pyNext_rev_end (I.ok.hd hc) st λh' eb=>⟨rfl,I.turned (t':=s.toks) (λb o hb e=>eb b o hb e) f0 f1 f3 f4 f5⟩
 self:=λ_ _ _ _ _ st h=>wpAny_pyIter_revIter st h
def M8(K:Qqy)(ta:TA):TI:=λZ H R=>ta Z H λvs H1=>∃a xs,vs=[.ref a]/\gP K H1 a xs/\R (Fj K a xs.length) H1
theorem HD{a:Expr}{ta:TA}{p pos:Pos}(hg:Gl X "reversed")(hm:X.mg "reversed"=none)(ha:PA X [a] ta)(hs:starEach [a] X.env=[(false,eval a X.env)]:=by rfl):PI X tg (.Call (.Name "reversed" p) [a] [] pos) (M8 X.K ta):=by
 intro ak s Z H R I h
 refine Call_ (lr I hg hm boot_reversed (aaG (il (ha pos ak s Z H _ I h) λus s1 g9=>?_) hs rfl))
 obtain⟨vs,H1,I1,r1,q1⟩:=g9
 obtain⟨l,xs,rfl,hq,q⟩:=q1
 obtain⟨u,rfl,ru⟩:=vals1 r1
 cases (show u=Value.ref l from ru)
 obtain⟨fW,rv,pp,hz⟩:=I1.list hq
 have hl:=rv.length
 refine call_reversed_list pp.isList ?_
 have I2:Inv X ak Z H1 {s1 with heap:=s1.heap.push (revObj l ((fW.toArray.size:Int)-1))}:=I1.kept (t':=s1.toks) λb o e=>QY _ e
 have st:(s1.heap.push (revObj l ((fW.toArray.size:Int)-1))).IsRevIter s1.heap.objs.size l ((xs.length:Int)-1-((0:Nat):Int)):=by
  have e1:(xs.length:Int)-1-((0:Nat):Int)=(fW.toArray.size:Int)-1:=by rw[hl];simp
  rw[e1]
  exact⟨_,WO _ rfl,rfl,rfl⟩
 refine wpAny_pyIter_revIter st ?_
 refine⟨s1.heap.objs.size,[s1.heap.objs.size],_,_,H1,rfl,I2,Fm l _ xs.length,st,λb hb=>?_,q⟩
 have e:b=s1.heap.objs.size:=by simpa using hb
 subst e
 exact I1.vH (Q2 _) (I1.gX.fresh (Q2 _))
theorem HE{K:PySem.W.Frag}{a:Addr}{xs:List V}{g:TG}{tb:TS}{D:Ends}{Z:St}{H:Hp}(Pv:Nat->St->Hp->Prop)(h0:Pv 0 Z H)(hl:∀i Z H,i<=xs.length->Pv i Z H->gP K H a xs)
  (hs:∀i x Z H,xs.reverse[i]?=some x->Pv i Z H->g x Z H λZ2 H2=>tb {D with nx:=Pv (i+1),ct:=Pv (i+1),bk:=D.nx} Z2 H2) (hd:∀Z H,Pv xs.length Z H->D.nx Z H) :
  ∃W:Nat->Nat->St->Hp->Prop,(∃m,W 0 m Z H)/\∀i m Z H,W i m Z H->
   ((Fj K a xs.length).stop i H/\D.nx Z H)\/((Fj K a xs.length).go i H/\∃N:St->Hp->Prop,(∀Z' H',N Z' H'->∃m',m'<m/\W (i+1) m' Z' H')/\∀x H',(Fj K a xs.length).G6 i H x H'->g x Z H' λZ2 H2=>tb {D with nx:=N,ct:=N,bk:=D.nx} Z2 H2):=by
 refine⟨λi m Z H=>m=xs.length-i/\i<=xs.length/\Pv i Z H,⟨xs.length,by simp,aaD _,h0⟩,?_⟩
 rintro i m Z H ⟨rfl,hi,p⟩
 have q:=hl i Z H hi p
 by_cases jI:i<xs.length
 ·refine .inr ⟨⟨jI,xs,q,rfl⟩,Pv (i+1),λZ' H' p'=>⟨xs.length-(i+1),by omega,rfl,jI,p'⟩,λx H' y=>?_⟩
  obtain⟨e,y⟩:=y
  subst e
  refine hs i x Z _ ?_ p
  rw[List.getElem?_reverse jI]
  exact y xs q
 ·have e:i=xs.length:=by omega
  subst e
  exact .inl ⟨rfl,hd Z H p⟩
theorem Fn{prog:Program}{w:World}{A:Around}{E:Qqq}{s:Shared}{r:Addr}{Q:Bool->Shared->Prop}(hT:s.TypeIs (.ref r) "list_reverseiterator")(h:Q false s):wpAny (model prog w) A (Builtin.List.listLengthHint (.ref r)) Q E s:=by
 have f1:typeLookup (.type "list_reverseiterator") "__len__"=pure none:=by rw[typeLookup_type,builtinLookup_eq_fast];kernel_rfl
 have f2:typeLookup (.type "list_reverseiterator") "__length_hint__"=pure (some (.builtin "list_reverseiterator.__length_hint__")):=by rw[typeLookup_type,builtinLookup_eq_fast];kernel_rfl
 unfold Builtin.List.listLengthHint
 refine M9 (abN hT f1 ?_)
 wp_delta
 refine aa9 (λzU=>absurd zU (by decide)) (λ_=>?_)
 refine aa9 (λzU=>absurd zU (by decide)) (λ_=>?_)
 refine M9 (abN hT f2 ?_)
 generalize LG:("list_reverseiterator.__length_hint__":String)=RJ
 wp_delta
 rw[show splitId RJ=some ("list_reverseiterator","__length_hint__") from by subst LG;decide+kernel]
 subst LG
 refine M9 (wpAny_isInstance (T:="list_reverseiterator") (b:=true) hT (by rw[isSubtype_type];kernel_rfl) ?_)
 refine aa9 (λzU=>absurd zU (by decide)) (λ_=>?_)
 refine aa9 (λ_=>?_) (λzU=>absurd (by decide+kernel) zU)
 refine aa9 (λzU=>absurd zU (by decide)) (λ_=>?_)
 exact Oz h
theorem DV{prog:Program}{w:World}{A:Around}{E:Qqq}{s:Shared}{T:String}{r d:Addr}{n:Nat}{P:Nat->Value->Prop}{St:Nat->Heap->Prop}{Q:Qqq}
  (W:Walks prog w A.in1.in1 r [r,d] [r] n P St) (hT:∀h:Heap,St 0 h->∃o,h.get? r=some o/\o.cls=.type T) (hl:(Value.type T ==Value.type "list")=false) (ht:(Value.type T ==Value.type "tuple")=false)
  (hint:∀(A:Around)(E:Qqq)(s:Shared)(Q:Bool->Shared->Prop),St 0 s.heap->Q false s->wpAny (model prog w) A (Builtin.List.listLengthHint (.ref r)) Q E s)
  (self:∀(A:Around)(E:Qqq)(s:Shared)(Q:Qqq),St 0 s.heap->Q (.ref r) s->wpAny (model prog w) A (pyIter (.ref r)) Q E s)
  (hd:d<s.heap.objs.size) (st:St 0 s.heap) (hn:n<=sizeLine)
  (hQ:∀h' tk GG c',(∀b o,b≠r->s.heap.get? b=some o->h'.get? b=some o)->h'.get? s.heap.objs.size=some {cls:=.type "list",dict:=none,data:=.seq GG c',slots:=#[]}->ItemsOf P GG n->Q (.ref s.heap.objs.size) {s with heap:=h',toks:=tk}) :
  wpAny (model prog w) A (call (.type "list") [.ref r]) Q E s:=by
 obtain⟨or,Xy,hcr⟩:=hT _ st
 have GH:r<s.heap.objs.size:=aac Xy
 refine callType_codes (Q₁:=λobj s1=>obj=.ref s.heap.objs.size/\s1={s with heap:=s.heap.push {cls:=.type "list",data:=.seq #[]}}) PySem.F.called_list (PySem.F.typeCall_list_1 _) PySem.F.entry_list_init
  (code_list_new _ ⟨rfl,rfl⟩) λobj s1 h₁=>?_
 obtain⟨rfl,rfl⟩:=h₁
 have hS:(s.heap.push {cls:=.type "list",data:=.seq #[]}).get? s.heap.objs.size=some {cls:=.type "list",data:=.seq #[]}:=WO _ rfl
 have RK:s.heap.objs.size≠r:=abQ GH
 have UG:s.heap.objs.size≠d:=abQ hd
 refine⟨⟨_,hS,rfl⟩,PySem.F.args_list_init_2 _ _,?_⟩
 show wpAny _ _ (do let old <-Builtin.List.listItems (.ref s.heap.objs.size);Builtin.List.listUpdate (.ref s.heap.objs.size) (λ_=>#[]);letGo old.toList.reverse;Builtin.List.listExtendWith (.ref s.heap.objs.size) (.ref r) .none) _ _ _
 refine M9 ?_
 unfold Builtin.List.listItems
 refine M9 (wpAny_seqItems hS rfl (Oz ?_))
 show wpAny _ _ (updateSeq s.heap.objs.size (λ_=>#[]) >>= λ_=>letGo (#[]:Array Value).toList.reverse >>= λ_=>Builtin.List.listExtendWith (.ref s.heap.objs.size) (.ref r) .none) _ _ _
 refine M9 (wpAny_updateSeq hS rfl ?_)
 have JB:=aaI (Obj.mapSeq (λ_=>(#[]:Array Value))) hS rfl
 have PQ:∀b o,s.heap.get? b=some o->((s.heap.push {cls:=.type "list",data:=.seq #[]}).update s.heap.objs.size (Obj.mapSeq (λ_=>(#[]:Array Value)))).get? b=some o:=
  λb o e=>(aa6 _ _ (abQ (aac e))).trans (QY _ e)
 refine M9 (wpAny_letGo ?_)
 generalize (s.heap.push {cls:=.type "list",data:=.seq #[]}).update s.heap.objs.size (Obj.mapSeq (λ_=>(#[]:Array Value)))=h2 at JB PQ
 have xU:St 0 h2:=W.frame 0 _ _ st λb _ o e=>PQ b o e
 have key:∀(h:Heap)(c1 tk:Nat),St 0 h->(∀b o,s.heap.get? b=some o->h.get? b=some o)->
   h.get? s.heap.objs.size=some {cls:=.type "list",data:=.seq #[] c1}->codeAny (model prog w) A.in1 (.builtin "list.extend.loop" ⟨[.ref s.heap.objs.size,.ref r,.none],[]⟩)
    (λr s'=>match r with|.ok (.ret v)=>v=.none/\Q (.ref s.heap.objs.size) s'|.ok _=>False|.error e=>E e s') {s with heap:=h,toks:=tk}:=by
  intro h c1 tk yH hk RL
  refine codeAny_extend_loopS W.toS hn s.heap.objs.size (by simp only [RT,abY,or_false,not_or];exact⟨RK,UG⟩) .none n 0 _ #[] c1 rfl (aaD _) yH RL (ItemsOf.nil _) λs' GG c' hm Hb qO=>?_
  rw[Moved.eq_with hm]
  refine⟨rfl,hQ s'.heap s'.toks GG c' (λb o hb e=>hm.heap b o (λxV=>?_) (hk b o e)) Hb qO⟩
  rcases RT.mp xV with e'|xV
  ·exact absurd (aac e) (by rw[e'];exact aba _)
  ·exact hb (Oy.mp xV)
 unfold Builtin.List.listExtendWith
 refine M9 (wpAny_typeOf (T:=T) (hT _ xU) ?_)
 have h1:Builtin.List.listSameRef (.ref s.heap.objs.size) (.ref r)=false:=by simp[Builtin.List.listSameRef,RK]
 simp only [h1,hl,ht,Bool.or_false,aaN,acf]
 refine M9 (self _ _ _ _ xU ?_)
 refine M9 (aa0 (hint _ _ _ _ xU ?_))
 refine aa9 (λ_=>?_) (λ_=>Oz ⟨aca abI _,key _ _ _ xU PQ JB⟩)
 refine M9 (wpAny_rule ?_)
 refine M9 ?_
 show wpAny _ _ (updateSeq s.heap.objs.size (·.push .none) >>= λ_=>updateSeq s.heap.objs.size (·.pop)) _ _ _
 refine M9 (wpAny_updateSeq JB rfl ?_)
 have Of:=aaI (Obj.mapSeq (·.push Value.none)) JB rfl
 refine wpAny_updateSeq (hz:=by seq_fits) Of rfl ?_
 have RM:=aaI (Obj.mapSeq (·.pop)) Of rfl
 have Og:∀b o,b≠s.heap.objs.size->h2.get? b=some o->((h2.update s.heap.objs.size (Obj.mapSeq (·.push Value.none))).update s.heap.objs.size (Obj.mapSeq (·.pop))).get? b=some o:=λb o hb e=>
  (aa6 _ _ (abz hb)).trans ((aa6 _ _ (abz hb)).trans e)
 refine Oz ⟨aca abI _,key _ _ _ (W.frame 0 _ _ xU λb hb o e=>Og b o (λz=>?_) e) (λb o e=>Og b o (aar (aac e)) (PQ b o e)) RM⟩
 subst z
 simp only [RT,abY,or_false] at hb
 rcases hb with z|z
 ·exact RK z
 ·exact UG z
def Fo(K:Qqy)(ta:TA):TE:=λZ H Q=>ta Z H λvs H1=>∃a xs,vs=[.ref a]/\gP K H1 a xs/\∀p,H1 p=none->Q (.ref p) (upd H1 p (.lst xs.reverse))
theorem Ce{a:Expr}{ta:TA}{p1 p2 LH zV:Pos}(hc:X.calm=true)(JC:Gl X "list")(Oh:X.mg "list"=none)(hg:Gl X "reversed")(hm:X.mg "reversed"=none)(ha:PA X [a] ta)(hs:starEach [a] X.env=[(false,eval a X.env)]:=by rfl)
  (Oi:starEach [.Call (.Name "reversed" p2) [a] [] zV] X.env=[(false,eval (.Call (.Name "reversed" p2) [a] [] zV) X.env)]:=by rfl):PE X (.Call (.Name "list" p1) [.Call (.Name "reversed" p2) [a] [] zV] [] LH) (Fo X.K ta):=by
 intro ak s Z H Q I h
 refine Call_ (lr I JC Oh boot_list (aaG ?_ Oi rfl))
 rw[Oi]
 refine aa3 ?_
 refine Call_ (lr I hg hm boot_reversed (aaG (il (ha zV ak s Z H _ I h) λus s1 g9=>?_) hs rfl))
 obtain⟨vs,H1,I1,r1,q1⟩:=g9
 obtain⟨l,xs,rfl,hq,q⟩:=q1
 obtain⟨u,rfl,ru⟩:=vals1 r1
 cases (show u=Value.ref l from ru)
 obtain⟨fW,rv,pp,hz⟩:=I1.list hq
 have hl:=rv.length
 refine call_reversed_list pp.isList (abk ?_)
 have jI:l<s1.heap.objs.size:=let ⟨o,ho,_⟩:=pp.isList;aac ho
 have hL:(s1.heap.push (revObj l ((fW.toArray.size:Int)-1))).IsList l fW.toArray:=pp.isList.at λo e=>QY _ e
 refine DV (s:={s1 with heap:=s1.heap.push (revObj l ((fW.toArray.size:Int)-1))}) (T:="list_reverseiterator") (d:=l) (n:=fW.toArray.size) (Walks.listRev (prog:=X.prog) (w:=X.w) (A:=X.A.in1.in1) (show X.A.in1.in1.handled=none from I.ok.hd hc) s1.heap.objs.size l (aar jI) fW.toArray) (λh ⟨_,⟨o,ho,yF,_⟩,_⟩=>⟨o,ho,yF⟩) (by decide) (by decide)
  (λA E s Q ⟨_,⟨o,ho,yF,_⟩,_⟩ hq=>Fn ⟨o,ho,yF⟩ hq) (λA E s Q ⟨_,x,_⟩ hq=>wpAny_pyIter_revIter x hq) (aal jI (by show s1.heap.objs.size<=(s1.heap.push _).objs.size;rw[abm];exact abS _))
  ⟨aaD _,by
   have e:(fW.toArray.size:Int)-1-((0:Nat):Int)=(fW.toArray.size:Int)-1:=by omega
   rw[e];exact⟨_,WO _ rfl,rfl,rfl⟩,hL⟩ (by rw[WZ,<-hl];exact hz) λh' tk acc c hk hS qO=>?_
 have hf:H1 (s1.heap.push (revObj l ((fW.toArray.size:Int)-1))).objs.size=none:=I1.gX.fresh (by rw[abm];omega)
 have rel:Vals xs.reverse acc.toList:=by
  have hsz:acc.toList.length=acc.size:=aau
  refine nz (by rw[abc,hsz,qO.1,WZ,hl]) λi x y hx hy=>?_
  have hi:i<xs.length:=by have:=(List.getElem?_eq_some_iff.mp hx).1;rwa [abc] at this
  have z:=qO.2 i y (by rw[<-aaA];exact hy)
  rw[List.getElem?_reverse hi] at hx
  obtain⟨w,hw,BI⟩:=rv.get hx
  rw[WZ,<-hl] at z
  have z2:fW[xs.length-1-i]?=some y:=by simpa using z
  rw[hw] at z2
  cases z2
  exact BI
 refine⟨.ref _,upd H1 _ (.lst xs.reverse),I1.laid (t':=tk) (h':=h') (λb o e=>hk b o (aar (aac e)) (QY _ e)) (by rw[abm];omega) ?_,rfl,q _ hf⟩
 exact⟨by rw[abc];exact hz,acc.toList,c,rel,by rw[abK];exact hS⟩
end
open PySem PySem.Builtin.Str
theorem subAt_one(s:Str)(c i:Nat):subAt s ⟨#[c]⟩ i=decide (s.cps[i]?=some c):=by
 unfold subAt
 show(s.cps.extract i (i+1) ==#[c])=_
 rw[abA]
 simp only [abD,abw]
 by_cases h:i<s.cps.size
 ·have e:s.cps.extract i (i+1)=#[s.cps[i]]:=by
   apply Array.ext
   ·simp;omega
   ·intro j h1 h2
    simp at h2
    subst h2
    simp
  rw[e,aaF h]
  constructor
  ·intro z;simpa using z
  ·intro z;simpa using z
 ·have e:s.cps.extract i (i+1)=#[]:=by
   apply Array.ext
   ·simp;omega
   ·intro j h1 h2;simp at h2
  rw[e,Array.getElem?_eq_none (by omega)]
  simp
noncomputable def mz(s sub:Str)(hi:Nat)(p:Array Nat×Nat)(i:Nat):Array Nat×Nat:=
 if(decide (p.1.size<1)&&decide (p.2<=i)&&decide (i+sub.length<=hi)&&subAt s sub i)=true then(p.1.push i,i+sub.length) else p
theorem Fp(s sub:Str)(lo hi:Nat):occurrences s sub lo hi 1=((List.range' lo (hi+1-lo)).foldl (mz s sub hi) (#[],lo)).1.toList:=by
 unfold occurrences
 simp only [Std.Legacy.Range.forIn_eq_forIn_range',Std.Legacy.Range.size]
 rw[show(hi+1-lo+1-1)/1=hi+1-lo by omega]
 generalize List.range' lo (hi+1-lo)=l
 generalize ((#[],lo):Array Nat×Nat)=p
 show Id.run (forIn l p _ >>= _)=_
 have go:∀(l:List Nat)(p:Array Nat×Nat),(forIn l p (λ(i:Nat) (q:Array Nat×Nat)=>(if(decide (q.fst.size<1)&&decide (q.snd<=i)&&decide (i+sub.length<=hi)&&subAt s sub i)=true then
   pure (ForInStep.yield (q.fst.push i,i+sub.length)) else pure (ForInStep.yield (q.fst,q.snd)):Id (ForInStep (Array Nat×Nat)))):Id (Array Nat×Nat))=l.foldl (mz s sub hi) p:=by
  intro l
  induction l with
  | nil=>intro p;rfl
  | cons a r ih=>
   intro p
   rw[List.forIn_cons,ab4]
   unfold mz
   split
   ·exact ih _
   ·exact ih _
 rw[go]
 rfl
theorem HF(s:Str)(c:Nat):(occurrences s ⟨#[c]⟩ 0 s.length 1).isEmpty=decide (c∉s.cps.toList):=by
 rw[Fp]
 have inv:∀(l:List Nat)(p:Array Nat×Nat),(p.1=#[]->p.2=0)->((l.foldl (mz s ⟨#[c]⟩ s.length) p).1=#[]↔p.1=#[]/\∀i∈l,¬(i+1<=s.length/\s.cps[i]?=some c)):=by
  intro l
  induction l with
  | nil=>intro p _;simp
  | cons a r ih=>
   intro p hp
   rw[ab4]
   by_cases hc:(decide (p.1.size<1)&&decide (p.2<=a)&&decide (a+(⟨#[c]⟩:Str).length<=s.length)&&subAt s ⟨#[c]⟩ a)=true
   ·have e:mz s ⟨#[c]⟩ s.length p a=(p.1.push a,a+(⟨#[c]⟩:Str).length):=aah hc
    rw[e,ih _ (λz=>by simp at z)]
    simp only [aaH,abw,subAt_one] at hc
    constructor
    ·rintro⟨z,_⟩;simp at z
    ·rintro⟨z,h⟩
     exact absurd ⟨hc.1.2,hc.2⟩ (h a aae)
   ·have e:mz s ⟨#[c]⟩ s.length p a=p:=aab hc
    rw[e,ih _ hp]
    constructor
    ·rintro⟨z,h⟩
     refine⟨z,λi hi=>?_⟩
     rcases RT.mp hi with rfl|hi
     ·intro ⟨h1,h2⟩
      apply hc
      simp only [aaH,abw,subAt_one]
      exact⟨⟨⟨by rw[z];decide,by rw[hp z];exact aaD _⟩,h1⟩,h2⟩
     ·exact h i hi
    ·rintro⟨z,h⟩
     exact⟨z,λi hi=>h i (Uk _ hi)⟩
 have h:=inv (List.range' 0 (s.length+1-0)) (#[],0) (λ_=>rfl)
 rw[abA,abw,List.isEmpty_iff]
 rw[show(List.foldl (mz s ⟨#[c]⟩ s.length) (#[],0) (List.range' 0 (s.length+1-0))).1.toList=[]↔(List.foldl (mz s ⟨#[c]⟩ s.length) (#[],0) (List.range' 0 (s.length+1-0))).1=#[] from ⟨λz=>by simpa using z,λz=>by rw[z]⟩,h]
 constructor
 ·rintro⟨_,h⟩ hm
  obtain⟨i,hi,e⟩:=List.mem_iff_getElem.mp hm
  have zT:i<s.cps.size:=by simpa using hi
  refine h i (by rw[List.mem_range'_1];show 0<=i/\i<0+(s.cps.size+1-0);omega) ⟨zT,?_⟩
  rw[aaF zT]
  simpa using e
 ·intro hn
  refine⟨rfl,λi _ ⟨_,h2⟩=>hn ?_⟩
  exact Um (i:=i) (by rw[aaA];exact h2)
theorem vZ:entryFor table "set.__iter__"=some Builtin.«frozenset.__iter__»:=entryFor_alias (id':="frozenset.__iter__") (by kernel_rfl) rfl (by decide+kernel) (by kernel_rfl)
theorem xE(a:Value):argsOk "set.__iter__" ⟨[a],[]⟩:=by unfold argsOk;kernel_rfl
theorem jV:Slot "set_iterator" "__next__" "set_iterator.__next__":=
 .of (owner:="set_iterator") (n:="__next__") (by rw[typeLookup_type,builtinLookup_eq_fast];kernel_rfl) (by decide+kernel) (by decide+kernel) (by decide+kernel)
  (by first|exact .inl (by decide+kernel)|exact .inr (by decide+kernel)) (by rw[isSubtype_type];kernel_rfl)
theorem qV:Slot "set_iterator" "__iter__" "set_iterator.__iter__":=
 .of (owner:="set_iterator") (n:="__iter__") (by rw[typeLookup_type,builtinLookup_eq_fast];kernel_rfl) (by decide+kernel) (by decide+kernel) (by decide+kernel)
  (by first|exact .inl (by decide+kernel)|exact .inr (by decide+kernel)) (by rw[isSubtype_type];kernel_rfl)
theorem v_:entryFor table "set_iterator.__next__"=some Builtin.«set_iterator.__next__»:=entryFor_of_tree (by kernel_rfl)
theorem xF(a:Value):argsOk "set_iterator.__next__" ⟨[a],[]⟩:=by unfold argsOk;kernel_rfl
theorem wa:entryFor table "set_iterator.__iter__"=some Builtin.«dict_keyiterator.__iter__»:=entryFor_alias (id':="dict_keyiterator.__iter__") (by kernel_rfl) rfl (by decide+kernel) (by kernel_rfl)
theorem xG(a:Value):argsOk "set_iterator.__iter__" ⟨[a],[]⟩:=by unfold argsOk;kernel_rfl
section
variable{prog:Program}{w:World}{A:Around}{E:Qqq}{s:Shared}
theorem Fq{r:Addr}{Q:Bool->Shared->Prop}(hT:s.TypeIs (.ref r) "set")(h:Q false s):wpAny (model prog w) A (Builtin.List.listLengthHint (.ref r)) Q E s:=by
 unfold Builtin.List.listLengthHint
 refine M9 (abN hT PySem.F.slot_set_len.lookup ?_)
 generalize LG:("set.__len__":String)=RJ
 wp_delta
 rw[show splitId RJ=some ("set","__len__") from by subst LG;decide+kernel]
 subst LG
 refine M9 (wpAny_isInstance (T:="set") (b:=true) hT (by rw[isSubtype_type];kernel_rfl) ?_)
 refine aa9 (λzU=>absurd zU (by decide)) (λ_=>?_)
 refine aa9 (λ_=>?_) (λzU=>absurd (by decide+kernel) zU)
 refine M9 (wpAny_typeOf hT ?_)
 exact Oz h
end
section
variable{X:Cx}
end
def tW(h:Heap)(d:Addr)(es:Array DictEntry)(ep:Nat):Prop:=∃o,h.get? d=some o/\o.ExactDict/\o.data=.dict es ep
section
variable{P:Program}{w:World}{A:Around}{E:Qqq}{s:Shared}{d it:Addr}{es:Array DictEntry}{ep i:Nat}
theorem tW.ty(x:tW s.heap d es ep):s.TypeIs (.ref d) "dict":=by obtain⟨o,e,c,_⟩:=x;exact⟨o,e,c.1⟩
theorem tW.at{h h':Heap}(x:tW h d es ep)(k:∀o,h.get? d=some o->h'.get? d=some o):tW h' d es ep:=by obtain⟨o,e,r⟩:=x;exact⟨o,k o e,r⟩
theorem AN{Q:Qqq}(lo:(d ==sysModules)=false)(x:tW s.heap d es ep)
  (k:Q (.ref s.heap.objs.size) {s with heap:=s.heap.push {cls:=.type "dict_keyiterator",data:=.fields #[.ref d,.int 0 0,.int es.size 0,.int ep 0]}}):wpAny (model P w) A (pyIter (.ref d)) Q E s:=by
 have ty:=x.ty
 obtain⟨o,e,c,dt⟩:=x
 refine wpAny_pyIter_slot ty F.slot_dict_iter (abb F.slot_dict_iter ty F.entry_dict_iter ?z (F.args_dict_iter_1 _))
 case z=>
  unfold Builtin.«dict.__iter__» Builtin.Dict.dictSlotNone
  refine M9 (M9 (wpAny_notOrdered_dict ty (show wpAny _ _ (pure (Value.ref d)) _ _ s from Oz ?z)))
  case z=>
   show wpAny _ _ (Builtin.Dict.showsAll d >>= _) _ _ s
   unfold Builtin.Dict.showsAll
   rw[lo,aab (λz=>by cases z)]
   refine M9 (Oz (M9 (aa1 e dt (M9 (wpAny_dictEpoch e dt (M9 (abd (Oz ?z))))))))
   case z=>exact⟨_,rfl,"dict_keyiterator",_,⟨_,WO _ rfl,rfl⟩,abe.lookup,by simpa[rawInt] using k⟩
theorem AO{Q:Option Value->Shared->Prop}{y:DictEntry}(x:s.heap.IsKeyIter it d i es.size ep)(r:tW s.heap d es ep)(hy:es[i]?=some y)
  (k:∀h',h'.IsKeyIter it d (i+1) es.size ep->Heap.SameBut it s.heap h'->Q (some y.key) {s with heap:=h'}):wpAny (model P w) A (pyNext (.ref it)) Q E s:=by
 have ty:=x.typeIs
 obtain⟨o,e,c,dt⟩:=id x
 obtain⟨o2,e2,c2,Oj⟩:=r
 have LI:Builtin.Dict_items.ownsTuple "dict_keyiterator"=false:=by decide
 unfold pyNext
 refine M9 (wpAny_attempt (wpAny_callSpecial?_slot (name:=Str.ofString "__next__") ty abe (abb abe ty F.entry_dict_keyiterator_next ?z (F.args_dict_keyiterator_next_1 _))))
 case z=>
  refine M9 (Oz (M9 (M9 ?z)))
  case z=>
   first|refine M9 (abp ty (Oz (M9 (abZ e dt ?z))))|refine M9 (wpAny_typeNameOf_keyiter ty (Oz (M9 (abZ e dt ?z))))
   case z=>
    simp only [LI,aaN,acf]
    show wpAny _ _ (if(Value.ref d ==Value.none)=true then _ else _) _ _ s
    rw[aab (λz=>by cases z)]
    refine M9 (Oz (M9 (aa1 e2 Oj ?z)))
    case z=>
     rw[aab (by simp)]
     refine M9 (Oz (M9 (wpAny_dictEpoch e2 Oj ?z)))
     case z=>
      rw[aab (by simp)]
      refine Oz ?z
      case z=>
       simp only [show ¬((i:Int)<0) by omega,acf,acb,hy]
       refine M9 ?z
       case z=>
        first|refine M9 (abp ty (Oz (M9 (wpAny_isOneOf_keyiter ty ?z))))|refine M9 (wpAny_typeNameOf_keyiter ty (Oz (M9 (wpAny_isOneOf_keyiter ty ?z))))
        case z=>
         show wpAny _ _ (setField (.ref it) 1 (rawInt ((i:Int)+1)) >>= _) _ _ s
         have n:(s.heap.update it (Obj.mapFields (·.setIfInBounds 1 (rawInt ((i:Int)+1))))).IsKeyIter it d (i+1) es.size ep:=
          ⟨_,aaI _ e (Obj.isFreed_of_fields (Obj.data_mapFields dt _)),(Obj.cls_mapFields ..).trans c,by rw[Obj.data_mapFields dt];simp[rawInt]⟩
         refine M9 (wpAny_setField e dt (by simp) (M9 (aa0 (M9 (wpAny_isOneOf_keyiter (s:={s with heap:=s.heap.update it (Obj.mapFields (·.setIfInBounds 1 (rawInt ((i:Int)+1))))}) n.typeIs ?z)))))
         case z=>
          show wpAny _ _ (pure y.key) _ _ _
          exact Oz (Oz ⟨_,rfl,Oz (k _ n (aaO ..))⟩)
theorem AQ{Q:Option Value->Shared->Prop}(hh:A.handled=none)(x:s.heap.IsKeyIter it d i es.size ep)(r:tW s.heap d es ep)(hy:es.size<=i)
  (k:∀h',Heap.ExtBut it s.heap h'->Q none {s with heap:=h'}):wpAny (model P w) A (pyNext (.ref it)) Q E s:=by
 have ty:=x.typeIs
 obtain⟨o,e,c,dt⟩:=id x
 obtain⟨o2,e2,c2,Oj⟩:=r
 have LI:Builtin.Dict_items.ownsTuple "dict_keyiterator"=false:=by decide
 unfold pyNext
 refine M9 (wpAny_attempt (wpAny_callSpecial?_slot (name:=Str.ofString "__next__") ty abe (abb abe ty F.entry_dict_keyiterator_next ?z (F.args_dict_keyiterator_next_1 _))))
 case z=>
  refine M9 (Oz (M9 (M9 ?z)))
  case z=>
   first|refine M9 (abp ty (Oz (M9 (abZ e dt ?z))))|refine M9 (wpAny_typeNameOf_keyiter ty (Oz (M9 (abZ e dt ?z))))
   case z=>
    simp only [LI,aaN,acf]
    show wpAny _ _ (if(Value.ref d ==Value.none)=true then _ else _) _ _ s
    rw[aab (λz=>by cases z)]
    refine M9 (Oz (M9 (aa1 e2 Oj ?z)))
    case z=>
     rw[aab (by simp)]
     refine M9 (Oz (M9 (wpAny_dictEpoch e2 Oj ?z)))
     case z=>
      rw[aab (by simp)]
      refine Oz ?z
      case z=>
       simp only [show ¬((i:Int)<0) by omega,acf,acb,Array.getElem?_eq_none hy]
       refine M9 ?z
       case z=>
        first|refine M9 (abp ty (Oz ?z))|refine M9 (wpAny_typeNameOf_keyiter ty (Oz ?z))
        case z=>
         show wpAny _ _ (setField (.ref it) 0 .none >>= _) _ _ s
         refine M9 (wpAny_setField e dt (by simp) ?z)
         case z=>
          show wpAny _ _ (newExc (.type "StopIteration") [] >>= _) _ _ _
          refine M9 ?z
          case z=>
           simp only [newExc,newTuple]
           refine M9 (abd (M9 (m:=firstArgMember _ _) (wpAny_of_eq (a:=Value.none) (by first|rfl|(simp only [firstArgMember];rfl)) (abd ?z (by size_fits)))) (by size_fits))
           case z=>
            simp only [raiseNew]
            refine M9 (wpAny_handled ?z)
            case z=>
             rw[show A.in1.handled=none from hh]
             refine M9 (Oz (wpAny_throw ?z))
             case z=>exact M9 (wpAny_isInstance (T:="StopIteration") (b:=true) ⟨_,WO _ rfl,rfl⟩ isSubtype_stop <| Oz (k _ (((aaO ..).extBut.push _).push _)))
end
section
variable{X:Cx}{ak:Qqz}{Z:St}{H:Hp}{s:Shared}{tg:Expr}
noncomputable def DW(d:Addr)(o:Obj)(kvs:List (List Key×V)):It:=
 ⟨λi H=>H d=some (.mw o (.dT kvs))/\i<kvs.length,λi H x H'=>H'=H/\∃k v b,kvs[i]?=some (k,v)/\x=.ref b/\H b=some (.tup (k.map kV)),λi H=>H d=some (.mw o (.dT kvs))/\kvs.length<=i⟩
theorem kt_at{kvs:List (List Key×V)}{xs:List (List Key×Addr×Value)}(r:KT H kvs xs):∀{i:Nat} {k:List Key} {b:Addr} {u:Value},xs[i]?=some (k,b,u)->∃v,kvs[i]?=some (k,v)/\H b=some (.tup (k.map kV))/\RelV v u:=by
 induction r with
 | nil=>intro i k b u e;simp at e
 | @cons p q ps qs f t ih=>
  intro i k b u e
  cases i with
  | zero=>
   simp at e
   subst e
   exact⟨p.2,aaT some (Prod.ext f.1 rfl),by rw[<-show p.1=k from f.1];exact f.2.1,f.2.2⟩
  | succ i=>
   obtain⟨v,h1,h2⟩:=ih (by simpa using e)
   exact⟨v,by simpa using h1,h2⟩
theorem wb{P:Program}{w:World}{h:Heap}{d:Addr}{kvs:List (List Key×V)}(q:ia P w H h d (.dT kvs)):(d ==sysModules)=false/\kvs.length<=sizeLine/\∃(es:Array DictEntry)(ep:Nat),tW h d es ep/\es.size=kvs.length/\
  (∀(i:Nat)(y:DictEntry),es[i]?=some y->∃k v b,kvs[i]?=some (k,v)/\y.key=.ref b/\H b=some (.tup (k.map kV))/\RelV v y.val):=by
 obtain⟨hz,hs,xs,r,o,es,ep,ho,hc,hd,he,hn⟩:=q
 have sz:=ab6 he
 refine⟨hs,hz,es,ep,⟨o,ho,hc,hd⟩,by rw[sz];exact(aaj r).symm,λi y hy=>?_⟩
 rw[entry_at he i] at hy
 obtain⟨⟨k,b,u⟩,hx,e⟩:=Option.map_eq_some_iff.mp hy
 obtain⟨v,h1,h2,h3⟩:=kt_at r hx
 subst e
 exact⟨k,v,b,h1,rfl,h2,h3⟩
theorem Cf{P:Program}{w:World}{K:Qqy}(d it:Addr)(o:Obj)(es:Array DictEntry)(ep:Nat)(kvs:List (List Key×V))(GF:o.data=.dict es ep)(hsz:es.size=kvs.length):Turn P w K tg (DW d o kvs) [it] it (λi h=>h.IsKeyIter it d i es.size ep) where
 mem:=by simp
 obj:=λi h st b hb=>by
  have e:b=it:=by simpa using hb
  subst e
  obtain⟨o,e,c,d⟩:=st
  exact⟨o,e,λv z=>by rw[d] at z;cases z⟩
 keep:=λi h h' st k=>st.at λo e=>k it (by simp) o e
 item:=by
  intro X hP hw hK hc i ak s Z H E I hf st hg
  subst hP hw hK
  obtain⟨hd,hi⟩:=hg
  obtain⟨ho,q⟩:=(show ia X.prog X.w H s.heap d (.mw o (.dT kvs)) from I.gX d _ hd)
  obtain⟨_,_,es',Jt,raw,sz,PR⟩:=wb q
  obtain⟨o',mv,h2,h3⟩:=id raw
  rw[ho] at mv;cases mv
  rw[GF] at h3;cases h3
  have zT:i<es.size:=by omega
  obtain⟨k,v,b,e1,e2,e3,_⟩:=PR i es[i] (aaF zT)
  obtain⟨f0,f1,f2,f3,f4,f5⟩:=hf it (by simp)
  refine AO st raw (aaF zT) λh' uw sb=>?_
  have I1:Inv X ak Z H {s with heap:=h'}:=I.turned (t':=s.toks) (λb o hb e=>(sb.2 b hb).trans e) f0 f1 f3 f4 f5
  obtain⟨o',e,c,dd⟩:=id uw
  exact⟨_,rfl,vI (s:={s with heap:=h'}) e c dd (by decide) ⟨.ref b,H,I1,e2,⟨rfl,k,v,b,e1,rfl,e3⟩,uw,λb hb=>(hf b hb).1⟩⟩
 done:=by
  intro X hP hw hK hc i ak s Z H E I hf st hg
  subst hP hw hK
  obtain⟨hd,hi⟩:=hg
  obtain⟨ho,q⟩:=(show ia X.prog X.w H s.heap d (.mw o (.dT kvs)) from I.gX d _ hd)
  obtain⟨_,_,es',Jt,raw,sz,PR⟩:=wb q
  obtain⟨o',mv,h2,h3⟩:=id raw
  rw[ho] at mv;cases mv
  rw[GF] at h3;cases h3
  obtain⟨f0,f1,f2,f3,f4,f5⟩:=hf it (by simp)
  exact AQ (I.ok.hd hc) st raw (by omega) λh' eb=>⟨rfl,I.turned (t':=s.toks) (λb o hb e=>eb b o hb e) f0 f1 f3 f4 f5⟩
 self:=λ_ _ _ _ _ st h=>wpAny_pyIter_keyiter st h
def KD(X:Cx)(td:TE):TI:=λZ H R=>td Z H λx H1=>∃d kvs,x=.ref d/\H1 d=some (.dT kvs)/\∀o,xD X d->R (DW d o kvs) (upd H1 d (.mw o (.dT kvs)))
theorem wc{l:Expr}{td:TE}(hl:PE X l td):PI X tg l (KD X td):=by
 intro ak s Z H R I h
 refine il (hl ak s Z H _ I h) λv s1 g9=>?_
 obtain⟨x,H1,I1,r1,q1⟩:=g9
 obtain⟨d,kvs,e,hd,q⟩:=q1
 subst e
 cases r1
 have nf:=I1.Kw hd True.intro
 obtain⟨o,ho,I2⟩:=I1.frozen hd True.intro
 obtain⟨hs,_,es,ep,raw,sz,_⟩:=wb (I1.gX d _ hd)
 obtain⟨o',mv,h2,h3⟩:=id raw
 rw[ho] at mv;cases mv
 refine AN hs raw ?_
 refine⟨s1.heap.objs.size,[s1.heap.objs.size],_,_,_,rfl,I2.kept (t':=s1.toks) λb o e=>QY _ e,Cf d _ o es ep kvs h3 sz,⟨_,WO _ rfl,rfl,rfl⟩,λb hb=>?_,q o nf⟩
 have e:b=s1.heap.objs.size:=by simpa using hb
 subst e
 exact I2.vH (Q2 _) (I2.gX.fresh (Q2 _))
theorem yn{d:Addr}{o:Obj}{kvs:List (List Key×V)}{g:TG}{tb:TS}{D:Ends}{Z:St}{H:Hp}(Pv:Nat->St->Hp->Prop)(h0:Pv 0 Z H)(hl:∀i Z H,Pv i Z H->H d=some (.mw o (.dT kvs)))
  (hs:∀i k v b Z H,kvs[i]?=some (k,v)->H b=some (.tup (k.map kV))->Pv i Z H->g (.ref b) Z H λZ2 H2=>tb {D with nx:=Pv (i+1),ct:=Pv (i+1),bk:=D.nx} Z2 H2) (hd:∀Z H,Pv kvs.length Z H->D.nx Z H) :
  ∃W:Nat->Nat->St->Hp->Prop,(∃m,W 0 m Z H)/\∀i m Z H,W i m Z H->
   ((DW d o kvs).stop i H/\D.nx Z H)\/((DW d o kvs).go i H/\∃N:St->Hp->Prop,(∀Z' H',N Z' H'->∃m',m'<m/\W (i+1) m' Z' H')/\∀x H',(DW d o kvs).G6 i H x H'->g x Z H' λZ2 H2=>tb {D with nx:=N,ct:=N,bk:=D.nx} Z2 H2):=by
 refine⟨λi m Z H=>m=kvs.length-i/\i<=kvs.length/\Pv i Z H,⟨kvs.length,by simp,aaD _,h0⟩,?_⟩
 rintro i m Z H ⟨rfl,hi,p⟩
 have q:=hl i Z H p
 by_cases jI:i<kvs.length
 ·refine .inr ⟨⟨q,jI⟩,Pv (i+1),λZ' H' p'=>⟨kvs.length-(i+1),by omega,rfl,jI,p'⟩,λx H' y=>?_⟩
  obtain⟨e,k,v,b,y,rfl,hb⟩:=y
  subst e
  exact hs i k v b Z _ y hb p
 ·have e:i=kvs.length:=by omega
  subst e
  exact .inl ⟨⟨q,Q2 _⟩,hd Z H p⟩
theorem Fs{d:Addr}{o:Obj}{kvs:List (List Key×V)}{g:TG}{tt:TT}{te:TE}{Q:List V->Hp->Prop}{Z:St}{H:Hp}(hn:kvs.length<=sizeLine)(Pv:Nat->List V->St->Hp->Prop)(h0:Pv 0 [] Z H)(hl:∀i ys Z H,Pv i ys Z H->H d=some (.mw o (.dT kvs))/\ys.length<=i)
  (hs:∀i k v b ys Z H,kvs[i]?=some (k,v)->H b=some (.tup (k.map kV))->Pv i ys Z H->g (.ref b) Z H λZ2 H2=>tt Z2 H2 λc H3=>if c=true then te Z2 H3 λv H4=>Pv (i+1) (ys++[v]) Z2 H4 else Pv (i+1) ys Z2 H3)
  (hd:∀ys Z H,Pv kvs.length ys Z H->Q ys H):DS g tt te (DW d o kvs) Q Z H:=by
 refine⟨λi m ys Z H=>m=kvs.length-i/\i<=kvs.length/\Pv i ys Z H,⟨kvs.length,by simp,aaD _,h0⟩,?_⟩
 rintro i m ys Z H ⟨rfl,hi,p⟩
 obtain⟨q,hy⟩:=hl i ys Z H p
 by_cases jI:i<kvs.length
 ·refine .inr ⟨⟨q,jI⟩,by omega,Pv (i+1),λMh Z' H' p'=>⟨kvs.length-(i+1),by omega,rfl,jI,p'⟩,λx H' y=>?_⟩
  obtain⟨e,k,v,b,y,rfl,hb⟩:=y
  subst e
  exact hs i k v b ys Z _ y hb p
 ·have e:i=kvs.length:=by omega
  subst e
  exact .inl ⟨⟨q,Q2 _⟩,by omega,hd ys Z H p⟩
end
section
variable{P:Program}{w:World}{d it:Addr}{es:Array DictEntry}{ep:Nat}
theorem DX{A:Around}(hh:A.handled=none)(n9:d≠it):Walks P w A it [it,d] [it] es.size (λi v=>∃y,es[i]?=some y/\v=y.key) (λi h=>h.IsKeyIter it d i es.size ep/\tW h d es ep) where
 sub:=λb hb=>by rw[Oy.mp hb];exact aae
 frame:=λi h h' ⟨a,b⟩ hk=>⟨a.at λo e=>hk it aae o e,b.at λo e=>hk d (by simp) o e⟩
 item:=λi s Q E hi ⟨a,b⟩ hQ=>AO a b (aaF hi) λh' a' sb=>hQ _ h' s.toks ⟨_,aaF hi,rfl⟩ ⟨a',b.at λo e=>sb.extBut d o n9 e⟩ λb o hb e=>sb.extBut b o (λz=>hb (by rw[z];exact Oy.mpr rfl)) e
 done:=λs Q E ⟨a,b⟩ hQ=>AQ hh a b (Q2 _) λh' eb=>hQ h' s.toks λb o hb e=>eb b o (λz=>hb (by rw[z];exact Oy.mpr rfl)) e
 self:=λi s Q E ⟨a,_⟩ hQ=>wpAny_pyIter_keyiter a hQ
theorem HG(lo:(d ==sysModules)=false):W.KdlSrc P w "dict" d d es.size (λi v=>∃y,es[i]?=some y/\v=y.key) (λh=>tW h d es ep) where
 type:=λs r=>r.ty
 there:=λh ⟨o,e,_⟩=>⟨aac e,aac e⟩
 keep:=λh h' r hk=>r.at λo e=>hk d (.inl rfl) o e
 notList:=by decide
 notTuple:=by decide
 hint:=λA E s Q r hq=>W.kdl_hint_dict r.ty hq
 iter:=λA s hh r=>⟨_,_,(λE Q hq=>AN lo r hq),DX hh (by obtain⟨o,e,_⟩:=r;exact aar (aac e)),⟨⟨_,WO _ rfl,rfl,rfl⟩,r.at λo e=>QY _ e⟩⟩
end
section
variable{X:Cx}{ak:Qqz}{Z:St}{H:Hp}{s:Shared}
theorem u3(hc:X.calm=true):qR X (.type "list") (λxs H Q=>∃d kvs,xs=[V.ref d]/\H d=some (.dT kvs)/\∀p bs,H p=none->Paired (λ(kv:List Key×V) (b:Addr)=>H b=some (.tup (kv.1.map kV))) kvs bs->Q (.ref p) (upd H p (.lst (bs.map V.ref)))):=by
 intro ak s Z H xs us Q I r h
 obtain⟨d,kvs,rfl,hd,q⟩:=h
 obtain⟨u,rfl,ru⟩:=vals1 r
 cases (show u=Value.ref d from ru)
 obtain⟨hs,hz,es,ep,raw,sz,PR⟩:=wb (I.gX d _ hd)
 refine W.kdl_call (HG hs) (I.ok.hd hc) raw (by omega) λh' tk acc c hk hS qO=>?_
 have hf:H s.heap.objs.size=none:=I.gX.fresh (Q2 _)
 have hb:∀i:Nat,i<kvs.length->∃k v b,kvs[i]?=some (k,v)/\(es[i]?.map DictEntry.key)=some (Value.ref b)/\H b=some (.tup (k.map kV)):=λi hi=>by
  have zT:i<es.size:=by omega
  obtain⟨k,v,b,e1,e2,e3,_⟩:=PR i es[i] (aaF zT)
  exact⟨k,v,b,e1,by rw[aaF zT,abB,e2],e3⟩
 let adr:Value->Addr:=λv=>match v with|.ref b=>b|_=>0
 let bs:List Addr:=es.toList.map λy=>adr y.key
 have JD:bs.length=kvs.length:=by show(es.toList.map _).length=_;rw[Ou,aau];exact sz
 have UH:∀(i:Nat)(b:Addr),bs[i]?=some b->∃k v,kvs[i]?=some (k,v)/\es[i]?.map DictEntry.key=some (Value.ref b)/\H b=some (.tup (k.map kV)):=λi b e=>by
  have hi:i<kvs.length:=by rw[<-JD];exact(List.getElem?_eq_some_iff.mp e).1
  obtain⟨k,v,b',e1,e2,e3⟩:=hb i hi
  have:bs[i]?=some b':=by
   show(es.toList.map _)[i]?=_
   rw[W3,aaA]
   obtain⟨y,ey,e4⟩:=Option.map_eq_some_iff.mp e2
   rw[ey]
   show some (adr y.key)=_
   rw[e4]
  rw[this] at e
  cases e
  exact⟨k,v,e1,e2,e3⟩
 have rel:Vals (bs.map V.ref) acc.toList:=by
  refine nz (by have e1:=qO.1;have e2:acc.toList.length=acc.size:=aau;rw[Ou,JD];omega) λi a b ha hb=>?_
  rw[W3] at ha
  obtain⟨b',e,rfl⟩:=Option.map_eq_some_iff.mp ha
  obtain⟨k,v,_,e2,_⟩:=UH i b' e
  obtain⟨y,hy,hv⟩:=qO.2 i b (by rw[<-aaA];exact hb)
  rw[hy,abB] at e2
  show b=.ref b'
  rw[hv,aaf e2]
 refine⟨.ref s.heap.objs.size,upd H s.heap.objs.size (.lst (bs.map V.ref)),I.laid (t':=tk) hk (Q2 _) ?_,rfl,q _ bs hf (nz JD.symm λi a b ha hb=>?_)⟩
 ·exact⟨by rw[Ou,JD];exact hz,acc.toList,c,rel,by rw[abK];exact hS⟩
 ·obtain⟨k,v,e1,_,e3⟩:=UH i b hb
  rw[e1] at ha
  cases ha
  exact e3
end
section
variable{P:Program}{w:World}{Z:Type}[DecidableEq Z]{knd:HeapKind P w Z}{A:Around}{E:Qqq}{s:Shared}{d a:Addr}{xs:List (Z×Addr×Value)}{k:Z}
theorem Ft{v:Value}{Q:Unit->Shared->Prop}(hu:knd.room A)(hk:knd.is s.heap k a)(m:s.heap.DictOfH knd d xs)(hz:xs.length<=sizeLine)
  (q:∀h',h'.DictOfH knd d (storedH xs k a v)->Heap.SameBut d s.heap h'->Q () {s with heap:=h'}):wpAny (model P w) A (dictSetHashed d (.ref a) (knd.hash k) v) Q E s:=by
 obtain⟨o,es,ep,ho,hc,hd,he,Mj,hn⟩:=m
 have sz:=ab6 he
 unfold dictSetHashed
 try with_reducible refine aa0 ?_
 refine M9 (wpAny_dictFind_heap hu hk ho hd he Mj hn (λno=>?_) λj p hj=>?_)
 ·have Xz:=atKey_none_of_get no
  refine M9 (wpAny_rule (wpAny_updateDictKeys (hz:=by omega) ho hd (q _ ?_ (aaO ..))))
  rw[storedH_new Xz]
  refine⟨_,_,ep+1,aaI _ ho (Obj.isFreed_of_dict (Obj.data_mapDictKeys hd _)),hc.mapDictKeys _,Obj.data_mapDictKeys hd _,by simp[he,entryOfKey],λx hx=>?_,?_⟩
  ·refine knd.keeps ?_ ho hd (aaO ..)
   rcases Ue.mp hx with hx|hx
   ·exact Mj x hx
   ·rw[Oy.mp hx];exact hk
  ·rw[aai,aaV]
   exact⟨hn,by simp,λx hx y hy z=>not_mem_keys_of_get no (by rw[Oy.mp hy] at z;have z:x=k:=z;exact z▸hx)⟩
 ·have XA:=atKey_of_get hn hj
  refine M9 (wpAny_rule (M9 (wpAny_updateDict ho hd (wpAny_point (q _ ?_ (aaO ..))))))
  rw[storedH_old XA]
  refine⟨_,_,ep,aaI _ ho (Obj.isFreed_of_dict (Obj.data_mapDict hd _)),hc.mapDict _,Obj.data_mapDict hd _,?_,λx hx=>?_,by rw[keys_map_putAt];exact hn⟩
  ·have z:=modify_map_putAt (entryOfKey knd) (λe:DictEntry=>{e with val:=v}) k v (λ_ _=>rfl) hn hj
   rw[<-he] at z
   obtain⟨l⟩:=es
   simpa using z
  ·obtain⟨y,hy,rfl⟩:=aak.mp hx
   unfold putAt
   split<;>exact knd.keeps (Mj y hy) ho hd (aaO ..)
def AR(xs:List (Z×Addr×Value))(k:Z):List (Z×Addr×Value):=xs.filter λx=>decide (x.1≠k)
theorem Ci{Y:Type}(f:Z×Addr×Value->Y):∀{xs:List (Z×Addr×Value)} {j:Nat} {p:Addr×Value},(xs.map (·.1)).Nodup->xs[j]?=some (k,p)->(xs.map f).eraseIdx j=(AR xs k).map f:=by
 intro xs
 induction xs with
 | nil=>intro j p _ hj;simp at hj
 | cons x r ih=>
  intro j p hn hj
  rw[aam,aaM] at hn
  unfold AR
  cases j with
  | zero=>
   simp at hj
   have e:r.filter (λx=>decide (x.1≠k))=r:=List.filter_eq_self.mpr λy hy=>Ug λz=>hn.1 (by rw[hj];show k∈_;rw[<-z];exact Q3 hy)
   rw[YI (by rw[hj];simp),e]
   rfl
  | succ j=>
   have hj:r[j]?=some (k,p):=by simpa using hj
   have ne:x.1≠k:=λz=>hn.1 (by rw[z];exact aak.mpr ⟨_,Um hj,rfl⟩)
   rw[W5 (by simpa using ne),aam,aam,List.eraseIdx_cons_succ,ih hn.2 hj]
   rfl
theorem Fu{p:Addr×Value}{Q:Option DictEntry->Shared->Prop}(hu:knd.room A)(hk:knd.is s.heap k a)(m:s.heap.DictOfH knd d xs)(hz:xs.length<=sizeLine)(hp:atKey xs k=some p)
  (q:∀h',h'.DictOfH knd d (AR xs k)->Heap.SameBut d s.heap h'->Q (some ⟨knd.hash k,.ref p.1,p.2⟩) {s with heap:=h',toks:=s.toks+knd.draws k}):wpAny (model P w) A (Builtin.Dict.takeOut d (.ref a)) Q E s:=by
 obtain⟨o,es,ep,ho,hc,hd,he,Mj,hn⟩:=m
 have sz:=ab6 he
 unfold Builtin.Dict.takeOut
 try with_reducible refine aa0 ?_
 refine M9 (knd.pyHash hu hk (M9 (wpAny_dictFind_heap (s:={s with toks:=s.toks+knd.draws k}) hu hk ho hd he Mj hn (λno=>?_) λj p' hj=>?_)))
 ·rw[atKey_none_of_get no] at hp;cases hp
 ·have e:=atKey_of_get hn hj
  rw[hp] at e
  cases e
  refine M9 (aa1 (s:={s with toks:=s.toks+knd.draws k}) ho hd ?_)
  rw[entry_at he j,hj]
  refine M9 (wpAny_updateDictKeys (hz:=by omega) (s:={s with toks:=s.toks+knd.draws k}) ho hd (Oz (q _ ?_ (aaO ..))))
  refine⟨_,_,ep+1,aaI _ ho (Obj.isFreed_of_dict (Obj.data_mapDictKeys hd _)),hc.mapDictKeys _,Obj.data_mapDictKeys hd _,?_,λx hx=>knd.keeps (Mj x (Yj.mp hx).1) ho hd (aaO ..),(aaP.map _).nodup hn⟩
  have z:=Ci (k:=k) (entryOfKey knd) hn hj
  rw[<-he] at z
  rw[<-z]
  obtain⟨l⟩:=es
  simp
def jL(xs more:List (Z×Addr×Value)):List (Z×Addr×Value):=more.foldl (λacc x=>storedH acc x.1 x.2.1 x.2.2) xs
theorem AS{xs more:List (Z×Addr×Value)}{i:Nat}{x:Z×Addr×Value}(h:more[i]?=some x):jL xs (more.take (i+1))=storedH (jL xs (more.take i)) x.1 x.2.1 x.2.2:=by
 unfold jL
 rw[List.take_add_one,h,List.foldl_append]
 rfl
theorem AU(xs:List (Z×Addr×Value))(k:Z)(a:Addr)(v:Value):(storedH xs k a v).length<=xs.length+1:=by
 unfold storedH
 split
 ·rw[Ou];omega
 ·rw[RX];exact Q2 _
theorem Cj(xs:List (Z×Addr×Value)):∀more:List (Z×Addr×Value),(jL xs more).length<=xs.length+more.length:=by
 intro more
 unfold jL
 induction more generalizing xs with
 | nil=>exact Q2 _
 | cons x r ih=>
  have h1:=ih (storedH xs x.1 x.2.1 x.2.2)
  have h2:=AU xs x.1 x.2.1 x.2.2
  rw[ab4,S7]
  omega
theorem Ck{nm:String}{o:Addr}{more:List (Z×Addr×Value)}{Q:Unit->Shared->Prop}(hu:knd.room A)(ne:d≠o)(lo:(o ==sysModules)=false)(n9:xs≠[])(md:s.heap.DictOfH knd d xs)(mo:s.heap.DictOfH knd o more)(hz:xs.length+more.length<=sizeLine)
  (q:∀h',h'.DictOfH knd d (jL xs more)->Heap.SameBut d s.heap h'->Q () {s with heap:=h'}):wpAny (model P w) A (Builtin.Dict.mergeDict nm d o) Q E s:=by
 obtain⟨od,PU,XC,PV,yG,PX,RN,LG,LJ⟩:=id md
 obtain⟨oo,GI,epo,PY,hco,GF,Gx,XD,hno⟩:=id mo
 have XE:=ab6 Gx
 have UI:=ab6 RN
 unfold Builtin.Dict.mergeDict Builtin.Dict.showsAll
 rw[aab (by simpa using ne),lo,aab (λz=>by cases z)]
 refine M9 (Oz (M9 (aa1 PY GF ?_)))
 dsimp only
 have loop:wpAny (model P w) A (do
   let Ol <-dictEpoch o
   let l <-dictEntries o
   forIn [:l.size] PUnit.unit λi (_:PUnit)=>(do
     let l' <-dictEntries o
     match l'[i]? with
      | some e=>do
       holding [e.key,e.val] (dictSetHashed d e.key e.hash e.val)
       let Jt <-dictEpoch o
       if(Jt != Ol)=true then do (unsupported (toString nm++toString ":source-changed-during-callback"):Sem PUnit);pure (ForInStep.yield PUnit.unit)
        else pure (ForInStep.yield PUnit.unit)
      | _=>do (unsupported "internal:dict-merge":Sem PUnit);pure (ForInStep.yield PUnit.unit):Sem (ForInStep PUnit))
   pure ()) Q E s:=by
  refine M9 (wpAny_dictEpoch PY GF (M9 (aa1 PY GF (M9 ?_))))
  rw[Std.Legacy.Range.forIn_eq_forIn_range']
  simp only [Std.Legacy.Range.size,Nat.sub_zero,Nat.add_sub_cancel,Nat.div_one]
  refine wpAny_forIn_list _ (λrest _ s'=>∃h' i,s'={s with heap:=h'}/\rest=List.range' i (GI.size-i)/\i<=GI.size/\h'.DictOfH knd d (jL xs (more.take i))/\Heap.SameBut d s.heap h') _ ?_ ?_ _ _ ⟨s.heap,0,rfl,by simp,aaD _,by simpa[jL] using md,Heap.SameBut.refl _ _⟩
  ·rintro x rest b s' ⟨h',i,rfl,hr,hi,hm,hs⟩
   have jI:i<GI.size:=by
    rcases Nat.lt_or_ge i GI.size with z|z
    ·exact z
    ·rw[Nat.sub_eq_zero_of_le z] at hr;simp at hr
   obtain⟨ex,er⟩:x=i/\rest=List.range' (i+1) (GI.size-(i+1)):=by
    rw[show GI.size-i=(GI.size-(i+1))+1 by omega,acg] at hr
    exact List.cons.inj hr
   subst ex
   have Om:h'.get? o=some oo:=(hs.2 o (abz ne)).trans PY
   refine M9 (aa1 Om GF ?_)
   obtain⟨⟨k,b2,v⟩,hx⟩:∃y,more[x]?=some y:=⟨more[x]'(by omega),QU _⟩
   rw[entry_at Gx x,hx]
   show wpAny _ _ (holding [Value.ref b2,v] (dictSetHashed d (.ref b2) (knd.hash k) v) >>= _) _ _ _
   have hl:(jL xs (more.take x)).length<=sizeLine:=by
    have:=Cj xs (more.take x)
    rw[aaE] at this
    omega
   have XF:knd.is h' k b2:=knd.keeps (XD _ (Um hx)) PV PX hs
   refine M9 (aa0 (Ft (s:={s with heap:=h'}) hu XF hm hl λh2 m2 s2=>?_))
   refine M9 (wpAny_dictEpoch ((s2.2 o (abz ne)).trans Om) GF ?_)
   rw[aab (by simp)]
   exact Oz ⟨h2,x+1,rfl,er,jI,by rw[AS hx];exact m2,hs.trans s2⟩
  ·rintro b s' ⟨h',i,rfl,hr,hi,hm,hs⟩
   have e:i=GI.size:=by
    rcases Nat.lt_or_ge i GI.size with z|z
    ·rw[show GI.size-i=(GI.size-(i+1))+1 by omega,acg] at hr;cases hr
    ·omega
   refine Oz (q h' ?_ hs)
   rw[e,XE,aaq] at hm
   exact hm
 split
 ·refine M9 (aa1 PV PX ?_)
  rw[aab (λz=>?_)]
  ·exact loop
  ·have:PU=#[]:=Array.isEmpty_iff.mp z
   rw[this] at UI
   exact n9 (aao.mp UI.symm)
 ·exact loop
theorem Fv{o:Addr}{more:List (Z×Addr×Value)}{Q:Qqq}(hu:knd.room A.in1)(ne:d≠o)(lo:(o ==sysModules)=false)(n9:xs≠[])(md:s.heap.DictOfH knd d xs)(mo:s.heap.DictOfH knd o more)(hz:xs.length+more.length<=sizeLine)
  (q:∀h',h'.DictOfH knd d (jL xs more)->Heap.SameBut d s.heap h'->Q .none {s with heap:=h'}):wpAny (model P w) A (call (.builtin "dict.update") [.ref d,.ref o]) Q E s:=by
 refine abb abO md.typeIs PySem.F.entry_dict_update ?_ (PySem.F.args_dict_update_2 _ _)
 unfold Builtin.«dict.update» Builtin.Dict.selfAndRest
 refine M9 (M9 (wpAny_notOrdered_dict md.typeIs (show wpAny _ _ (pure (d,[Value.ref o])) _ _ s from Oz ?_)))
 show wpAny _ _ (Builtin.Dict.updateFrom "dict.update" d (.ref o) [] .none) _ _ s
 unfold Builtin.Dict.updateFrom
 refine M9 (wpAny_typeOf mo.typeIs ?_)
 rw[aab (by decide)]
 unfold Builtin.Dict.merge Builtin.Dict.readDirectly
 refine M9 (M9 (M9 (wpAny_isInstance mo.typeIs isSubtype_dict_dict ?_)))
 simp only [Bool.not_true,aaN,acf]
 refine M9 (abN mo.typeIs F.slot_dict_iter.lookup (Oz ?_))
 simp only [beq_self_eq_true,if_true]
 refine M9 (Oz (Ck hu ne lo n9 md mo hz λh' m s'=>?_))
 show wpAny _ _ (Builtin.Dict.addKeywords d [] >>= _) _ _ _
 exact M9 (Oz (Oz ⟨.none,rfl,q h' m s'⟩))
end
def putAll{Z:Type}[DecidableEq Z](kvs more:List (Z×V)):List (Z×V):=more.foldl (λacc kv=>putK acc kv.1 kv.2) kvs
section
variable{Z:Type}[DecidableEq Z]
theorem pJ(kvs:List (Z×V))(p:Z×V)(r:List (Z×V)):putAll kvs (p::r)=putAll (putK kvs p.1 p.2) r:=rfl
theorem oy:∀(more kvs:List (Z×V)),(putAll kvs more).length<=kvs.length+more.length
 | [],kvs=>Q2 _
 | p::r,kvs=>by
  have h1:=oy r (putK kvs p.1 p.2)
  have h2:=iN kvs p.1 p.2
  rw[pJ,S7]
  omega
theorem kt_merged{H:Hp}{more:List (List Key×V)}{ys:List (List Key×Addr×Value)}(r:KT H more ys):∀{kvs:List (List Key×V)} {xs:List (List Key×Addr×Value)},KT H kvs xs->KT H (putAll kvs more) (jL xs ys):=by
 induction r with
 | nil=>intro kvs xs r;exact r
 | @cons p q ps qs f t ih=>
  intro kvs xs r
  have z:=r.put p.1 (b:=q.2.1) f.2.1 f.2.2
  have z2:=ih z
  rw[show jL xs (q::qs)=jL (storedH xs q.1 q.2.1 q.2.2) qs from rfl,<-show p.1=q.1 from f.1]
  exact z2
theorem DY{more:List (Z×V)}{ys:List (Z×Value)}(r:KV more ys):∀{kvs:List (Z×V)} {xs:List (Z×Value)},KV kvs xs->KV (putAll kvs more) (merged xs ys):=by
 induction r with
 | nil=>intro kvs xs r;exact r
 | @cons p q ps qs f t ih=>
  intro kvs xs r
  have z:=ih (KV.put r p.1 f.2)
  rw[show merged xs (q::qs)=merged (stored xs q.1 q.2) qs from rfl,<-show p.1=q.1 from f.1]
  exact z
end
section
variable{X:Cx}{ak:Qqz}{Z:St}{H:Hp}{s:Shared}{a b:Addr}{A:Around}{E:Qqq}
theorem HH{kvs:List (List Key×V)}{xs:List (List Key×Addr×Value)}(r:KT H kvs xs)(k:List Key):KT H (jR kvs k) (AR xs k):=by
 induction r with
 | nil=>exact .nil
 | @cons p q ps qs f t ih=>
  unfold jR AR
  by_cases e:p.1=k
  ·have e':q.1=k:=f.1.symm.trans e
   rw[YI (by simp[e]),YI (by simp[e'])]
   exact ih
  ·have e':¬q.1=k:=λz=>e (f.1.trans z)
   rw[W5 (by simp[e]),W5 (by simp[e'])]
   exact .cons f ih
theorem KG{kvs more:List (List Key×V)}{Q:Qqq}(hu:A.units+1<cLine)(I:Inv X ak Z H s)(ha:H a=some (.dT kvs))(hb:Rd H b (.dT more))(ne:a≠b)(h0:kvs≠[])(hz:kvs.length+more.length<=sizeLine)
  (h:∀s',Inv X ak Z (upd H a (.dT (putAll kvs more))) s'->Q .none s'):wpAny (model X.prog X.w) A (call (.builtin "dict.update") [.ref a,.ref b]) Q E s:=by
 obtain⟨z,lo,xs,rel,dd⟩:=E1 I.gX ha
 obtain⟨z2,RO,ys,GJ,PO⟩:=uJ I.gX hb
 have l1:=aaj rel
 have l2:=aaj GJ
 have x0:xs≠[]:=λe=>h0 (aao.mp (by rw[l1,e];rfl))
 refine Fv (abn hu) ne RO x0 dd PO (by omega) λh' m hs=>h _ ?_
 obtain⟨q,es,ep,hq,h2,h3,h4,_,h5⟩:=m
 refine sr (t':=s.toks) I (by rw[ha];exact True.intro) hs ⟨q,hq⟩ ⟨aag (oy _ _) hz,lo,_,(kt_merged GJ rel).keeps λc ys ec=>?_,q,es,ep,hq,h2,h3,h4,h5⟩
 rw[c_ (iz ec ha (λz=>nomatch z))]
 exact ec
theorem KH{kvs more:List (Key×V)}{Q:Qqq}(I:Inv X ak Z H s)(ha:H a=some (.dK kvs))(hb:Rd H b (.dK more))(ne:a≠b)(hz:kvs.length+more.length<=sizeLine)
  (h:∀s',Inv X ak Z (upd H a (.dK (putAll kvs more))) s'->Q .none s'):wpAny (model X.prog X.w) A (call (.builtin "dict.update") [.ref a,.ref b]) Q E s:=by
 obtain⟨z,lo,xs,rel,dd⟩:=Jg I.gX ha
 obtain⟨z2,RO,ys,GJ,PO⟩:=uI I.gX hb
 have l1:=rel.length
 have l2:=GJ.length
 refine call_meetsIn abO dd.typeIs PySem.F.entry_dict_update (PySem.F.args_dict_update_2 _ _) (meets_dict_update (iy X.prog X.w) a b ne RO) ⟨xs,ys,dd,PO,by omega,λh' LB _ hs=>h _ ?_⟩
 have he:∃q,h'.get? a=some q:=let ⟨q,_,_,hq,_⟩:=LB;⟨q,hq⟩
 exact sr (t':=s.toks) I (by rw[ha];exact True.intro) hs he (E2 (aag (oy _ _) hz) lo (DY GJ rel) LB)
theorem KI{kvs:List (List Key×V)}{k:List Key}{v:V}{Q:Qqq}(hu:A.units+1<cLine)(I:Inv X ak Z H s)(ha:H a=some (.dT kvs))(hb:H b=some (.tup (k.map kV)))(l:hZ kvs k=some v)
  (h:∀w' s',Inv X ak Z (upd H a (.dT (jR kvs k))) s'->RelV v w'->Q w' s'):wpAny (model X.prog X.w) A (call (.builtin "dict.pop") [.ref a,.ref b]) Q E s:=by
 obtain⟨z,lo,xs,rel,dd⟩:=E1 I.gX ha
 have l1:=aaj rel
 obtain⟨w',hw,BI⟩:=oa.some_of (v:=v) (o:=(atKey xs k).map (·.2)) (by rw[<-l];exact rel.val k)
 obtain⟨p,hp,zS⟩:=Option.map_eq_some_iff.mp hw
 obtain⟨od,PU,XC,PV,yG,PX,RN,LG,LJ⟩:=id dd
 refine abb PySem.F.slot_dict_pop dd.typeIs PySem.F.entry_dict_pop ?_ (PySem.F.args_dict_pop_2 _ _)
 unfold Builtin.«dict.pop» Builtin.Dict.keyAndDefault
 refine M9 (M9 (wpAny_notOrdered_dict dd.typeIs (show wpAny _ _ (pure (a,Value.ref b,none)) _ _ s from Oz ?_)))
 have part:(keyPart (Value.ref b)).isSome=false:=rfl
 simp only [part,aaN,acf]
 refine M9 (aa1 PV PX (M9 (Oz ?_)))
 have ne:PU.isEmpty=false:=by
  rw[abv]
  intro e
  have e:PU=#[]:=Array.isEmpty_iff.mp e
  have sz:=ab6 RN
  rw[e] at sz
  have:xs=[]:=aao.mp sz.symm
  rw[this] at hp
  cases hp
 simp only [ne,aaN,acf]
 refine M9 (Fu (abn hu) (rE I.gX hb) dd (by omega) hp λh' m hs=>?_)
 simp only [Option.isNone_some,aaN,acf]
 refine M9 (wpAny_letGo (Oz ⟨p.2,rfl,?_⟩))
 rw[zS]
 refine h w' _ ?_ BI
 obtain⟨q,es,ep,hq,h2,h3,h4,_,h5⟩:=m
 refine sr I (by rw[ha];exact True.intro) hs ⟨q,hq⟩ ⟨aag (EZ _ _) z,lo,_,(HH rel k).keeps λc ys ec=>?_,q,es,ep,hq,h2,h3,h4,h5⟩
 rw[c_ (iz ec ha (λz=>nomatch z))]
 exact ec
theorem HI{d:Addr}{es:Array DictEntry}{ep:Nat}{Q:Qqq}{P:Program}{w:World}(lo:(d ==sysModules)=false)(r:tW s.heap d es ep)(fit:(es.size:Int)<2 ^ 63)
  (h:Q (.int es.size (s.toks+1)) {s with toks:=s.toks+1+1}):wpAny (model P w) A (Builtin.«len» ⟨[.ref d],[]⟩) (λfin s'=>∃r,fin=.done (.ret r)/\Q r s') E s:=by
 obtain⟨o,ho,hc,hd⟩:=id r
 unfold Builtin.«len»
 refine M9 (m:=oneArg "len" _) (Oz (M9 (m:=callSpecial? (.ref d) (Str.ofString "__len__")) (wpAny_callSpecial?_slot (name:=Str.ofString "__len__") r.ty F.slot_dict_len (abb F.slot_dict_len r.ty F.entry_dict_len ?_ (F.args_dict_len_1 _)))))
 show wpAny _ _ (dictSize d >>= _) _ _ s
 unfold dictSize
 refine M9 (M9 (aa1 ho hd (Oz ?_)))
 show wpAny _ _ (Builtin.Dict.pendingCount d >>= _) _ _ s
 refine M9 (wpAny_pendingCount_other lo (wpAny_ret_mkInt ?_))
 show wpAny _ _ _ _ _ {s with toks:=s.toks+1}
 refine M9 (aa0 (Oz (M9 (wpAny_letGo ?_))))
 show wpAny _ _ (if((es.size+0:Nat):Int)<0 then _ else _) _ _ _
 rw[aab (by omega),Nat.add_zero]
 show wpAny _ _ (if((es.size:Nat):Int)>=2 ^ 63 then _ else _) _ _ _
 rw[aab (by omega)]
 exact M9 (wpAny_mkInt (Oz ⟨_,rfl,h⟩))
theorem Cm{d:Addr}{es:Array DictEntry}{ep:Nat}{Q:Bool->Shared->Prop}{P:Program}{w:World}(lo:(d ==sysModules)=false)(r:tW s.heap d es ep)(fit:(es.size:Int)<2 ^ 63)
  (h:Q ((es.size:Int) != 0) {s with toks:=s.toks+1+1}):wpAny (model P w) A (truthy (.ref d)) Q E s:=by
 have key:wpAny (model P w) A (runValue (.builtin "len" ⟨[.ref d],[]⟩)) (λr s'=>r=.int es.size (s.toks+1)/\Q ((es.size:Int) != 0) s') E s:=by
  refine wpAny_runValue (abP entry_len ?_)
  rw[abt plain_len _]
  refine abg (HI (Q:=λr s'=>r=.int es.size (s.toks+1)/\Q ((es.size:Int) != 0) s') lo r fit ⟨rfl,h⟩) (λfin s' h'=>?_) λ_ _ e=>e
  obtain⟨r,rfl,hq⟩:=h'
  exact hq
 unfold truthy
 first
  | refine M9 (wpAny_callSpecial?_none (name:=Str.ofString "__bool__") r.ty noBool_dict ?_)
  | refine M9 (Oz (M9 (wpAny_callSpecial?_none (name:=Str.ofString "__bool__") r.ty noBool_dict ?_)))
 first
  | refine M9 (abN (name:=Str.ofString "__len__") r.ty F.slot_dict_len.lookup ?_)
  | refine M9 (Oz (M9 (abN (name:=Str.ofString "__len__") r.ty F.slot_dict_len.lookup ?_)))
 first
  | exact M9 (abg key (λr s' h'=>by obtain⟨rfl,hq⟩:=h';exact Oz hq) λ_ _ e=>e)
  | exact M9 (Oz (M9 (abg key (λr s' h'=>by obtain⟨rfl,hq⟩:=h';exact Oz hq) λ_ _ e=>e)))
end
def KJ(td ty:TE):TE:=λZ H Q=>td Z H λx H1=>∃a,x=.ref a/\MW H1 a/\ty Z H1 λy H2=>∃b kvs more,y=.ref b/\H2 a=some (.dT kvs)/\Rd H2 b (.dT more)/\a≠b/\kvs≠[]/\kvs.length+more.length<=sizeLine/\Q .iQ (upd H2 a (.dT (putAll kvs more)))
def KL(td ty:TE):TE:=λZ H Q=>td Z H λx H1=>∃a,x=.ref a/\MW H1 a/\ty Z H1 λy H2=>∃b kvs more,y=.ref b/\H2 a=some (.dK kvs)/\Rd H2 b (.dK more)/\a≠b/\kvs.length+more.length<=sizeLine/\Q .iQ (upd H2 a (.dK (putAll kvs more)))
def KN(td ty:TE):TE:=λZ H Q=>td Z H λx H1=>∃a,x=.ref a/\MW H1 a/\ty Z H1 λy H2=>∃b kvs k v,y=.ref b/\H2 a=some (.dT kvs)/\H2 b=some (.tup (k.map kV))/\hZ kvs k=some v/\Q v (upd H2 a (.dT (jR kvs k)))
section
variable{X:Cx}{o e f:Expr}{apos j2:Pos}{td ty tx:TE}
theorem Fw(hu:X.A.units+1<cLine)(ho:PE X o td)(he:PE X e ty)(m:M1 X o "update" apos e j2):PE X (.Call (.Attribute o "update" apos) [e] [] j2) (KJ td ty):=by
 intro ak s Z H Q I h
 refine wpAny_Call_method m.base m.lU m.line abT abO PySem.F.type_dict_update (il (ho ak s Z H _ I h) λu s1 g9=>?_)
 obtain⟨x,H1,I1,rx,a,ex,d,q1⟩:=g9
 subst ex
 obtain rfl:u=Value.ref a:=rx
 obtain⟨t1,t2,_⟩:=yU I1 d
 refine⟨t1,t2,?_⟩
 rw[m.trees]
 refine abi rfl (abr (aa3 (il (he ak s1 Z H1 _ I1 q1) λiv s2 g9=>?_)))
 obtain⟨y,H2,I2,ry,b,kvs,more,ey,ha,hb,ne,h0,hz,q2⟩:=g9
 refine abk ?_
 subst ey
 obtain rfl:iv=Value.ref b:=ry
 exact KG hu I2 ha hb ne h0 hz λs3 I3=>⟨.iQ,_,I3,rfl,q2⟩
theorem Fx(ho:PE X o td)(he:PE X e ty)(m:M1 X o "update" apos e j2):PE X (.Call (.Attribute o "update" apos) [e] [] j2) (KL td ty):=by
 intro ak s Z H Q I h
 refine wpAny_Call_method m.base m.lU m.line abT abO PySem.F.type_dict_update (il (ho ak s Z H _ I h) λu s1 g9=>?_)
 obtain⟨x,H1,I1,rx,a,ex,d,q1⟩:=g9
 subst ex
 obtain rfl:u=Value.ref a:=rx
 obtain⟨t1,t2,_⟩:=yU I1 d
 refine⟨t1,t2,?_⟩
 rw[m.trees]
 refine abi rfl (abr (aa3 (il (he ak s1 Z H1 _ I1 q1) λiv s2 g9=>?_)))
 obtain⟨y,H2,I2,ry,b,kvs,more,ey,ha,hb,ne,hz,q2⟩:=g9
 refine abk ?_
 subst ey
 obtain rfl:iv=Value.ref b:=ry
 exact KH I2 ha hb ne hz λs3 I3=>⟨.iQ,_,I3,rfl,q2⟩
theorem Fy(hu:X.A.units+1<cLine)(ho:PE X o td)(he:PE X e ty)(m:M1 X o "pop" apos e j2):PE X (.Call (.Attribute o "pop" apos) [e] [] j2) (KN td ty):=by
 intro ak s Z H Q I h
 refine wpAny_Call_method m.base m.lU m.line abT PySem.F.slot_dict_pop PySem.F.type_dict_pop (il (ho ak s Z H _ I h) λu s1 g9=>?_)
 obtain⟨x,H1,I1,rx,a,ex,d,q1⟩:=g9
 subst ex
 obtain rfl:u=Value.ref a:=rx
 obtain⟨t1,t2,_⟩:=yU I1 d
 refine⟨t1,t2,?_⟩
 rw[m.trees]
 refine abi rfl (abr (aa3 (il (he ak s1 Z H1 _ I1 q1) λiv s2 g9=>?_)))
 obtain⟨y,H2,I2,ry,b,kvs,k,v,ey,ha,hb,l,q2⟩:=g9
 refine abk ?_
 subst ey
 obtain rfl:iv=Value.ref b:=ry
 exact KI hu I2 ha hb l λw' s3 I3 BI=>⟨v,_,I3,BI,q2⟩
theorem DZ{a:Expr}{ta:TE}(ha:PE X a ta)(he:∀whole,isTrue a X.env whole=(do let v <-whole;standAt a.pos;holding [v] (truthy v))) :
  PT X a (λZ H Q=>ta Z H λx H'=>∃p kvs,x=.ref p/\H' p=some (.dT kvs)/\Q (!kvs.isEmpty) H'):=by
 intro ak s Z H Q I h
 refine isTrue_plain (il (ha ak s Z H _ I h) λv s1 g9=>?_) (he _)
 obtain⟨x,H1,I1,r1,p,kvs,ex,hp,q⟩:=g9
 subst ex
 obtain rfl:v=Value.ref p:=r1
 obtain⟨lo,hz,es,ep,raw,sz,_⟩:=wb (I1.gX p _ hp)
 have hs:sizeLine=16777216:=ach
 refine Cm lo raw (by omega) ?_
 have e:((es.size:Int) != 0)=!kvs.isEmpty:=by rw[sz];cases kvs<;>simp<;>omega
 rw[e]
 exact⟨H1,I1.tok _,q⟩
end
theorem D1:bootBuiltins "enumerate"=some (.type "enumerate"):=by decide+kernel
section
variable{X:Cx}{ak:Qqz}{Z:St}{H:Hp}{s:Shared}{h':Heap}
theorem Inv.HJ{t':Nat}{a b:Addr}(I:Inv X ak Z H s)(k:∀c o,c≠a->c≠b->s.heap.get? c=some o->h'.get? c=some o)(fa:rB X ak H a)(fb:rB X ak H b)
  (ha:∃o,h'.get? a=some o) (hb:∃o,h'.get? b=some o):Inv X ak Z H {s with heap:=h',toks:=t'}:=by
 obtain⟨a0,a1,a2,a3,a4,a5⟩:=fa
 obtain⟨b0,b1,b2,b3,b4,b5⟩:=fb
 have na:∀c u,H c=some u->c≠a:=λc u e z=>by rw[z,a0] at e;cases e
 have nb:∀c u,H c=some u->c≠b:=λc u e z=>by rw[z,b0] at e;cases e
 have out:∀c,c∉[a,b]->c≠a/\c≠b:=λc hc=>⟨λz=>hc (by simp[z]),λz=>hc (by simp[z])⟩
 refine I.step (g':=s.gens) (d':=s.drawn) (ch:=[a,b]) (λc hc=>?_) (λc o _ _ hc e _=>k c o (out c hc).1 (out c hc).2 e) (λc o _ _ hc e _=>⟨o.slots,k c o (out c hc).1 (out c hc).2 e⟩) (λ_ _ _ _ n=>n)
  (λc o hc e=>⟨o,k c o (out c hc).1 (out c hc).2 e⟩) (λ_ _ e=>e) (λ_ _ _ e=>e) (λc ps e=>⟨#[],by rw[e];simp⟩) (λm hm=>?_) (λc u e=>?_) I.bare
 ·rcases RT.mp hc with z|z
  ·rw[z];exact⟨a3,a1,a4,a5⟩
  ·rw[Oy.mp z];exact⟨b3,b1,b4,b5⟩
 ·obtain⟨o,es,ep,ho,r⟩:=hm
  exact⟨o,es,ep,k _ o (abz a1) (abz b1) ho,r⟩
 ·refine(I.gX c u e).rZ (λd v hd q=>k d v ?_ ?_ q) (λ_ q=>q) λ_ _ q=>q
  ·rcases hd with z|z
   ·rw[z];exact na c u e
   ·exact na d _ z
  ·rcases hd with z|z
   ·rw[z];exact nb c u e
   ·exact nb d _ z
end
def M_(K:Qqy)(a:Addr):It:=
 ⟨λi H=>∃xs x,gP K H a xs/\xs[i]?=some x,λi H x H'=>∃t y,H t=none/\x=.ref t/\H'=upd H t (.tup [.int i,y])/\∀xs,gP K H a xs->xs[i]?=some y,λi H=>∃xs,gP K H a xs/\xs.length<=i⟩
theorem D2{P:Program}{w:World}{K:Qqy}{elts:List Expr}{x1}{pos:Pos}(a e it:Addr)(n9:e≠it):Turn P w K (.Tuple elts x1 pos) (M_ K a) [e,it] e (λi h=>(∃old,IsEnum h e it ((i:Nat):Int) old)/\h.IsListIter it a i) where
 mem:=by simp
 obj:=λi h ⟨⟨old,Ew⟩,xU⟩ b hb=>by
  rcases RT.mp hb with z|z
  ·subst z;exact⟨_,Ew,λv z=>by have z':Data.fields _=Data.cell v:=z;cases z'⟩
  ·rw[Oy.mp z]
   obtain⟨o,ho,c,d⟩:=xU
   exact⟨o,ho,λv z=>by rw[d] at z;cases z⟩
 keep:=λi h h' ⟨⟨old,Ew⟩,xU⟩ k=>⟨⟨old,k e (by simp) _ Ew⟩,xU.at λo ho=>k it (by simp) o ho⟩
 item:=by
  intro X hP hw hK hc i ak s Z H E I hf ⟨⟨old,Ew⟩,xU⟩ hg
  subst hP hw hK
  obtain⟨xs,x,hq,hx⟩:=hg
  obtain⟨fW,rv,p,hz⟩:=I.list hq
  obtain⟨u,hu,ru⟩:=rv.get hx
  have fe:=hf e (by simp)
  have fi:=hf it (by simp)
  have RP:e<s.heap.objs.size:=aac Ew
  refine wpAny_pyNext_enum_item Ew xU p.isList (x:=u) (by simpa using hu) n9 λh₁ Gx RQ XG hz1 XH=>?_
  refine⟨_,rfl,?_⟩
  refine wpAny_letOwnedTupleGo_enum Gx λh₂ UJ Oo=>?_
  replace Oo:Heap.SameBut e h₁ h₂:=Oo
  have XI:h₂.get? s.heap.objs.size=some {cls:=.type "tuple",data:=.seq #[.int i s.toks,u]}:=(Oo.2 _ (abQ RP)).trans XG
  have Oq:h₂.IsListIter it a (i+1):=RQ.extBut Oo.extBut (abz n9)
  have Oc:H s.heap.objs.size=none:=I.gX.fresh (Q2 _)
  have rT:Vals [.int i,x] [.int i s.toks,u]:=.cons ⟨s.toks,rfl⟩ (.cons ru .nil)
  have I1:Inv X ak Z (upd H s.heap.objs.size (.tup [.int i,x])) {s with heap:=s.heap.push {cls:=.type "tuple",data:=.seq #[.int i s.toks,u]},toks:=s.toks}:=
   I.laid (t':=s.toks) (λb u e=>QY _ e) (Q2 _) ⟨L2.lU,_,rT,⟨_,WO _ rfl,rfl,_,rfl⟩⟩
  have up:∀b,rB X ak H b->b<s.heap.objs.size->rB X ak (upd H s.heap.objs.size (.tup [.int i,x])) b:=λb f hb=>by
   obtain⟨f0,r⟩:=f
   exact⟨by rw[c_ (aar hb)];exact f0,r⟩
  have Ot:it<s.heap.objs.size:=by obtain⟨o,ho,_⟩:=id xU;exact aac ho
  obtain⟨oi,PZ,_⟩:=id Oq
  have I2:=I1.HJ (h':=h₂) (t':=s.toks+1) (a:=e) (b:=it) (λc o h1 h2 hc=>?_) (up e fe RP) (up it fi Ot) ⟨_,UJ⟩ ⟨oi,PZ⟩
  ·refine⟨.ref s.heap.objs.size,_,I2,rfl,⟨_,x,Oc,rfl,rfl,λys hy=>by rw[I.ni hy hq];exact hx⟩,⟨⟨u,?_⟩,Oq⟩,λb hb=>?_⟩
   ·have:((i+1:Nat):Int)=(i:Int)+1:=by push_cast;rfl
    rw[this];exact UJ
   ·rcases RT.mp hb with z|z
    ·subst z;exact(up _ fe RP).1
    ·rw[Oy.mp z];exact(up it fi Ot).1
  ·by_cases UK:c=s.heap.objs.size
   ·subst UK
    have:(s.heap.push {cls:=.type "tuple",data:=.seq #[.int i s.toks,u]}).get? s.heap.objs.size=some {cls:=.type "tuple",data:=.seq #[.int i s.toks,u]}:=WO _ rfl
    rw[this] at hc;cases hc
    exact XI
   ·have yF:s.heap.get? c=some o:=(Heap.get?_push_cases hc).elim (λz=>absurd z.1 UK) id
    exact(Oo.2 c h1).trans (XH c o h1 h2 yF)
 done:=by
  intro X hP hw hK hc i ak s Z H E I hf ⟨⟨old,Ew⟩,xU⟩ hg
  subst hP hw hK
  obtain⟨xs,hq,hx⟩:=hg
  obtain⟨fW,rv,p,hz⟩:=I.list hq
  obtain⟨f0,f1,f2,f3,f4,f5⟩:=hf it (by simp)
  have hl:=rv.length
  exact wpAny_pyNext_enum_end (I.ok.hd hc) Ew xU p.isList (Array.getElem?_eq_none (by simp;omega)) λh' eb=>⟨rfl,I.turned (t':=s.toks) (λb o hb e=>eb b o hb e) f0 f1 f3 f4 f5⟩
 self:=λ_ _ _ _ _ ⟨⟨old,Ew⟩,xU⟩ h=>wpAny_pyIter_enum Ew h
def Na(K:Qqy)(ta:TA):TI:=λZ H R=>ta Z H λvs H1=>∃a,vs=[.ref a]/\(∃xs,gP K H1 a xs)/\R (M_ K a) H1
section
variable{X:Cx}
theorem HK{a:Expr}{ta:TA}{p pos:Pos}{elts:List Expr}{x1}{Lz:Pos}(hg:Gl X "enumerate")(hm:X.mg "enumerate"=none)(ha:PA X [a] ta)(hs:starEach [a] X.env=[(false,eval a X.env)]:=by rfl):PI X (.Tuple elts x1 Lz) (.Call (.Name "enumerate" p) [a] [] pos) (Na X.K ta):=by
 intro ak s Z H R I h
 refine Call_ (lr I hg hm D1 (aaG (il (ha pos ak s Z H _ I h) λus s1 g9=>?_) hs rfl))
 obtain⟨vs,H1,I1,r1,q1⟩:=g9
 obtain⟨l,rfl,⟨xs,hq⟩,q⟩:=q1
 obtain⟨u,rfl,ru⟩:=vals1 r1
 cases (show u=Value.ref l from ru)
 obtain⟨fW,rv,pp,hz⟩:=I1.list hq
 refine call_enumerate_list pp.isList λh' he hit hsz hk=>?_
 have I2:Inv X ak Z H1 {s1 with heap:=h'}:=I1.kept (t':=s1.toks) hk
 refine wpAny_pyIter_enum he ?_
 refine⟨s1.heap.objs.size+1,[s1.heap.objs.size+1,s1.heap.objs.size],_,_,H1,rfl,I2,D2 l (s1.heap.objs.size+1) s1.heap.objs.size (Nat.succ_ne_self _),⟨⟨_,he⟩,hit⟩,λb hb=>?_,q⟩
 rcases RT.mp hb with z|z
 ·subst z;exact I1.vH (by omega) (I1.gX.fresh (by omega))
 ·rw[Oy.mp z];exact I1.vH (Q2 _) (I1.gX.fresh (Q2 _))
theorem Fz{K:PySem.W.Frag}{a:Addr}{xs:List V}{g:TG}{tb:TS}{D:Ends}{Z:St}{H:Hp}(Pv:Nat->St->Hp->Prop)(h0:Pv 0 Z H)(hl:∀i Z H,i<=xs.length->Pv i Z H->gP K H a xs)
  (hs:∀i x t Z H,xs[i]?=some x->Pv i Z H->H t=none->g (.ref t) Z (upd H t (.tup [.int i,x])) λZ2 H2=>tb {D with nx:=Pv (i+1),ct:=Pv (i+1),bk:=D.nx} Z2 H2) (hd:∀Z H,Pv xs.length Z H->D.nx Z H) :
  ∃W:Nat->Nat->St->Hp->Prop,(∃m,W 0 m Z H)/\∀i m Z H,W i m Z H->
   ((M_ K a).stop i H/\D.nx Z H)\/((M_ K a).go i H/\∃N:St->Hp->Prop,(∀Z' H',N Z' H'->∃m',m'<m/\W (i+1) m' Z' H')/\∀x H',(M_ K a).G6 i H x H'->g x Z H' λZ2 H2=>tb {D with nx:=N,ct:=N,bk:=D.nx} Z2 H2):=by
 refine⟨λi m Z H=>m=xs.length-i/\i<=xs.length/\Pv i Z H,⟨xs.length,by simp,aaD _,h0⟩,?_⟩
 rintro i m Z H ⟨rfl,hi,p⟩
 have q:=hl i Z H hi p
 by_cases jI:i<xs.length
 ·refine .inr ⟨⟨xs,xs[i],q,QU jI⟩,Pv (i+1),λZ' H' p'=>⟨xs.length-(i+1),by omega,rfl,jI,p'⟩,λx H' y=>?_⟩
  obtain⟨t,z,ht,rfl,rfl,y⟩:=y
  exact hs i z t Z _ (y xs q) p ht
 ·have e:i=xs.length:=by omega
  subst e
  exact .inl ⟨⟨xs,q,Q2 _⟩,hd Z H p⟩
end
structure DF(K:Qqy)(mg:Qqx)(x:Str)(st:Stmt)(a:Addr)(d:FuncData)(ps:List Str):Prop where
 f:uK K x x st a d
 b:Binds K d ps []
 m:mg x=some (.ref a)
structure DM(K:Qqy)(C:Addr)(x q:Str)(st:Stmt)(a:Addr)(d:FuncData)(ps:List Str):Prop where
 f:uK K x q st a d
 b:Binds K d ps []
 t:Meth K C x a
def FI(K:Qqy)(x:Str)(st:Stmt)(f:Addr):Prop:=W.nsIn K mainGlobals x=some (some (.ref f))/\∃d,uK K x x st f d
def MI(K:Qqy)(C:Addr)(x q:Str)(st:Stmt)(f:Addr):Prop:=Meth K C x f/\∃d,uK K x q st f d
section
variable{K:Qqy}{x q:Str}{st:Stmt}{f C:Addr}{oc kV doc pm jm ct:Value}{od an:Option Addr}{EC:Array (Option Value)}
theorem Nb(a:W.nsIn K mainGlobals x=some (some (.ref f)))(l:K.lookup f=some ⟨oc,od,.func (W.fnOf x x (mx st) (jX st) (e_ st) .none kV doc pm an jm ct),EC⟩)(c:W.codeIn K jm x=true)(k:W.keepIn K (.ref f)=true):FI K x st f:=⟨a,_,E7 l c k⟩
theorem Nc(a:W.findIn K (.ref C) x=some (some (.ref f)))(i:W.isFn K (.ref f)=true)(l:K.lookup f=some ⟨oc,od,.func (W.fnOf x q (mx st) (jX st) (e_ st) .none kV doc pm an jm ct),EC⟩)(c:W.codeIn K jm q=true)(k:W.keepIn K (.ref f)=true):MI K C x q st f:=⟨⟨a,i,k⟩,_,E7 l c k⟩
end
noncomputable def Ui(N P:List Str)(sc:Scope):Bool:=decide (sc.kind=.function)&&!sc.isCoroutine&&!sc.isGenerator&&decide N.Nodup&&decide (N.take P.length=P)&&P.all (λx=>decide (sc.names.lookup x=some .local)||decide (sc.names.lookup x=some .cell))&&sc.names.all (λy=>decide (y.2≠.free))
theorem pA{N P:List Str}{sc:Scope}(h:Ui N P sc=true:=by decide+kernel):fN N P sc:=by
 unfold Ui at h
 simp only [aaH,abw,Bool.not_eq_true',abX,acj] at h
 obtain⟨⟨⟨⟨⟨⟨a,b⟩,c⟩,d⟩,e⟩,f⟩,g⟩:=h
 exact⟨a,b,c,d,e,f,g⟩
section
variable{X:Cx}{x q m:Str}{st:Stmt}{f C:Addr}{fd:FuncData}{ps:List Str}{sp:Sp}{k j:Nat}{e o:Expr}{es:List Expr}{t:TA}{ta:TE}{p pos apos:Pos}{E:XK}
theorem sy(D:DF X.K X.mg x st f fd ps)(F:gS X.prog X.w X.K X.mg X.base lR k f fd ps sp)(hr:jw j X.A)(ha:PA X (e::es) t)(hk:k<=j:=by decide)(hg:Gl X x:=by rfl)(BH:(x ==("__debug__":Str))=false:=by decide)(he:starEach (e::es) X.env=(false,eval e X.env)::starEach es X.env:=by rfl)(n_:(backTo pos (starEach es X.env)).any (·.1)=false:=by rfl):PE X (.Call (.Name x p) (e::es) [] pos) (ES sp [] E0 t):=so F (hr.mono hk) hg D.m D.f.kp D.b .nil pe ha BH he n_
theorem Uj(b:Bx X E)(D:DF X.K X.mg x st f fd ps)(F:gS X.prog X.w X.K X.mg X.base (vt X.prog X.w) k f fd ps sp)(hr:jw j X.A)(ha:PA X (e::es) t)(hk:k<=j:=by decide)(hg:Gl X x:=by rfl)(BH:(x ==("__debug__":Str))=false:=by decide)(he:starEach (e::es) X.env=(false,eval e X.env)::starEach es X.env:=by rfl)(n_:(backTo pos (starEach es X.env)).any (·.1)=false:=by rfl):PE X (.Call (.Name x p) (e::es) [] pos) (ES sp [] E t):=so F (hr.mono hk) hg D.m D.f.kp D.b .nil (Jk b) ha BH he n_
theorem HL{pl:Sem Bool}(h:PE X o ta)(c:Ax X.K C)(D:DM X.K C m q st f fd ps)(F:gS X.prog X.w X.K X.mg X.base lR k f fd ps sp)(hr:jw j X.A)(ha:PA X (e::es) t)(hk:k<=j:=by decide)(yH:starEach (e::es) X.env=(false,eval e X.env)::starEach es X.env:=by rfl)(n_:(backTo pos (starEach es X.env)).any (·.1)=false:=by rfl)
 (ht:eval (.Call (.Attribute o m apos) (e::es) [] pos) X.env=(do
  let ov <-eval o X.env
  standAt apos.atName
  let (f,first) <-holding [ov] (getMethod ov m pl)
  callWith pos f first (backTo pos (starEach (e::es) X.env)) (backToKw pos (keywordEach [] X.env))):=by rfl):PE X (.Call (.Attribute o m apos) (e::es) [] pos) (Az C m sp [] E0 ta t):=C3 h c D.t F (hr.mono hk) D.b .nil pe ha yH n_ ht
theorem KO(b:Bx X E){pl:Sem Bool}(h:PE X o ta)(c:Ax X.K C)(D:DM X.K C m q st f fd ps)(F:gS X.prog X.w X.K X.mg X.base (vt X.prog X.w) k f fd ps sp)(hr:jw j X.A)(ha:PA X (e::es) t)(hk:k<=j:=by decide)(yH:starEach (e::es) X.env=(false,eval e X.env)::starEach es X.env:=by rfl)(n_:(backTo pos (starEach es X.env)).any (·.1)=false:=by rfl)
 (ht:eval (.Call (.Attribute o m apos) (e::es) [] pos) X.env=(do
  let ov <-eval o X.env
  standAt apos.atName
  let (f,first) <-holding [ov] (getMethod ov m pl)
  callWith pos f first (backTo pos (starEach (e::es) X.env)) (backToKw pos (keywordEach [] X.env))):=by rfl):PE X (.Call (.Attribute o m apos) (e::es) [] pos) (Az C m sp [] E ta t):=C3 h c D.t F (hr.mono hk) D.b .nil (Jk b) ha yH n_ ht
end
section
variable{P:Program}{w:World}{K:Qqy}{mg:Qqx}{base:Heap}
theorem uK.qW{x qual:Str}{st:Stmt}{f:Addr}{fd:FuncData}{N ps:List Str}{k:Nat}{sp:Sp}(F:uK K x qual st f fd)(S:fN N ps (e_ st))(tG:∀(jm:Value)(A:Around)(outer:List Env)(s:Shared)(H:Hp)(vs:List V)(Q:VK)(E:XK),jw k (A.deeper (envOfC qual (e_ st) s.heap.objs.size f jm))->sp vs H Q E->∃t,Am (tP lR P w K mg base N qual (e_ st) f jm A outer s H E).I_ (jX st) t/\t {nx:=λ_ H'=>Q .iQ H',rt:=Q} (start N vs) H)(len:∀vs H Q E,sp vs H Q E->vs.length=ps.length:=by intro _ _ _ _ h;repeat (first|(obtain⟨rfl,_⟩:=h;rfl)|obtain⟨_,h⟩:=h)):gS P w K mg base lR (k+1) f fd ps sp:=F.ok S len tG
theorem uK.y9{x qual:Str}{st:Stmt}{f:Addr}{fd:FuncData}{N ps:List Str}{k:Nat}{sp:Sp}(F:uK K x qual st f fd)(S:fN N ps (e_ st))(tG:∀(jm:Value)(A:Around)(outer:List Env)(s:Shared)(H:Hp)(vs:List V)(Q:VK)(E:XK),jw k (A.deeper (envOfC qual (e_ st) s.heap.objs.size f jm))->sp vs H Q E->∃t,Am (tP (vt P w) P w K mg base N qual (e_ st) f jm A outer s H E) (jX st) t/\t {nx:=λ_ H'=>Q .iQ H',rt:=Q} (start N vs) H)(len:∀vs H Q E,sp vs H Q E->vs.length=ps.length:=by intro _ _ _ _ h;repeat (first|(obtain⟨rfl,_⟩:=h;rfl)|obtain⟨_,h⟩:=h)):gS P w K mg base (vt P w) (k+1) f fd ps sp:=F.WQ S len tG
end
section
variable{X:Cx}{pos:Pos}
theorem nA(i:Nat){x:Str}{e:Expr}{te:TE}{pos':Pos}{N ps:List Str}{sc:Scope}(S:fN N ps sc)(he:PE X e te)(hN:X.N=N:=by rfl)(hi:X.N[i]?=some x:=by rfl)(hx:X.env.scope.names.lookup x=some .local:=by rfl)(hs:swapsWith e (some (.Name x pos')) pos.line X.env=pure false:=by rfl):PS X (.Assign [.Name x pos'] e pos) (EK te (nj i)):=mR (hN▸S.nd) hi (.inl hx) he hs (.inr hx)
theorem vv(i:Nat){x:Str}{N ps:List Str}{sc:Scope}(S:fN N ps sc)(hN:X.N=N:=by rfl)(hi:X.N[i]?=some x:=by rfl)(hx:X.env.scope.names.lookup x=some .local:=by rfl):PG X (.Name x pos) (nj i):=iI (hN▸S.nd) hi (.inl hx) (.inr hx)
end
section
variable{K:Qqy}
theorem uK.bd{x qual:Str}{st:Stmt}{f:Addr}{fd:FuncData}{ps:List Str}(F:uK K x qual st f fd)(h:∀(kV doc pm:Value)(an:Option Addr)(jm ct:Value)(us:List Value),us.length=ps.length->bindArgs (W.fnOf x qual (mx st) (jX st) (e_ st) .none kV doc pm an jm ct) ⟨us,[]⟩=pure (ps.zip us):=by intro _ _ _ _ _ _ us hl;(repeat (rcases us with _|⟨_,us⟩<;>first|(simp at hl;done)|skip));rfl):Binds K fd ps []:=F.binds h
end
section
variable{X:Cx}{a b:Expr}{ta tb:TE}{pos:Pos}{k:Nat}
theorem G8(ha:PE X a ta)(hb:PE X b tb)(hs:C5 b:=by exact λ_ _=>rfl):PE X (.Subscript a b pos) (ML (MS X.K) ta tb):=k_ jK ha hb hs
theorem BO(hr:jw k X.A)(ha:PE X a ta)(hb:PE X b tb)(hs:Km b:=by exact λ_ _=>rfl):PE X (.Subscript a b pos) (Jh ta tb):=Hv (iB hr) ha hb hs
theorem EB(h:PE X a ta)(e:ta=tb:=by(try simp only [j9]);rfl):∃t,PE X a t/\t=tb:=⟨_,h,e⟩
end
end L2
namespace K01
section
variable{Z:Type}[DecidableEq Z]
def lcs:List Z->List Z->Nat
 | [],_=>0
 | _::_,[]=>0
 | a::as,b::bs=>if b=a then lcs as bs+1 else max (lcs as (b::bs)) (lcs (a::as) bs)
termination_by x y=>x.length+y.length
def l0(x y:List Z)(n:Nat):Prop:=(∀s:List Z,s.Sublist x->s.Sublist y->s.length<=n)/\∃s:List Z,s.Sublist x/\s.Sublist y/\s.length=n
theorem l0.uniq{x y:List Z}{n m:Nat}(h:l0 x y n)(g:l0 x y m):n=m:=by
 obtain⟨h1,s,a,b,e⟩:=h
 obtain⟨g1,t,c,d,f⟩:=g
 have:=g1 s a b
 have:=h1 t c d
 omega
theorem l0.AV(y:List Z):l0 [] y 0:=⟨λs a _=>by have:=a.length_le;simpa using this,[],aaL _,List.nil_sublist _,rfl⟩
theorem l0.yo(x:List Z):l0 x [] 0:=⟨λs _ b=>by have:=b.length_le;simpa using this,[],List.nil_sublist _,aaL _,rfl⟩
theorem j_{s as:List Z}{a:Z}(h:s.Sublist (a::as)):s.Sublist as\/∃t,s=a::t/\t.Sublist as:=by
 cases h with
 | cons _ h=>exact .inl h
 | cons_cons _ h=>exact .inr ⟨_,rfl,h⟩
theorem l0.eq{as bs:List Z}{a:Z}{n:Nat}(h:l0 as bs n):l0 (a::as) (a::bs) (n+1):=by
 obtain⟨h1,s,x,y,e⟩:=h
 refine⟨λt c d=>?_,a::s,x.cons_cons a,y.cons_cons a,by rw[S7,e]⟩
 rcases j_ c with c2|⟨u,e2,c2⟩
 ·rcases j_ d with d2|⟨v,e3,d2⟩
  ·have:=h1 t c2 d2;omega
  ·subst e3
   have:=h1 v ((ab0 a v).trans c2) d2
   rw[S7];omega
 ·have d':u.Sublist bs:=by
   subst e2
   rcases j_ d with d2|⟨v,e',d2⟩
   ·exact(ab0 a u).trans d2
   ·cases e';exact d2
  have:=h1 u c2 d'
  subst e2
  rw[S7];omega
theorem l0.ne{as bs:List Z}{a b:Z}{n m:Nat}(zU:a≠b)(h:l0 as (b::bs) n)(g:l0 (a::as) bs m):l0 (a::as) (b::bs) (max n m):=by
 obtain⟨h1,s,x,y,e⟩:=h
 obtain⟨g1,s',x',y',e'⟩:=g
 refine⟨λt c d=>?_,?_⟩
 ·rcases j_ c with c'|⟨u,rfl,_⟩
  ·have:=h1 t c' d;omega
  ·rcases j_ d with d'|⟨v,e,_⟩
   ·have:=g1 _ c d';omega
   ·cases e;exact absurd rfl zU
 ·by_cases LK:m<=n
  ·exact⟨s,x.cons a,y,by omega⟩
  ·exact⟨s',x',y'.cons b,by omega⟩
theorem jy:∀x y:List Z,l0 x y (lcs x y)
 | [],y=>by rw[lcs];exact .AV y
 | a::as,[]=>by rw[lcs];exact .yo _
 | a::as,b::bs=>by
  rw[lcs]
  by_cases h:b=a
  ·rw[aah h];subst h;exact(jy as bs).eq
  ·rw[aab h];exact .ne (λe=>h e.symm) (jy as (b::bs)) (jy (a::as) bs)
termination_by x y=>x.length+y.length
theorem HM(x:List Z):lcs x []=0:=(jy x []).uniq (.yo x)
theorem C9(y:List Z):lcs [] y=0:=(jy [] y).uniq (.AV y)
theorem we{x x' y y':List Z}(h:x.Sublist x')(g:y.Sublist y'):lcs x y<=lcs x' y':=by
 obtain⟨_,s,a,b,e⟩:=jy x y
 rw[<-e]
 exact(jy x' y').1 s (a.trans h) (b.trans g)
theorem AW(x y:List Z):lcs x y<=x.length:=by
 obtain⟨_,s,a,b,e⟩:=jy x y
 rw[<-e];exact a.length_le
def iq(a:Z)(new:List Z)(j:Nat):Option Nat:=((new.drop j).findIdx? (·=a)).map (j+·)
def nB(new:List Z):Nat->List Z->Nat->List (Nat×Nat)
 | _,[],_=>[]
 | i,a::as,j=>match iq a new j with
  | none=>nB new (i+1) as j
  | some k=>if lcs as (new.drop (k+1))+1=lcs (a::as) (new.drop j) then(i,k)::nB new (i+1) as (k+1) else nB new (i+1) as j
def kept(old new:List Z):List (Nat×Nat):=nB new 0 old 0
theorem jE{a:Z}{new:List Z}{j k:Nat}(h:iq a new j=some k):j<=k/\new[k]?=some a/\∀l,j<=l->l<k->new[l]?≠some a:=by
 unfold iq at h
 cases e:(new.drop j).findIdx? (·=a) with
 | none=>rw[e] at h;cases h
 | some d=>
  rw[e] at h
  have h:j+d=k:=aaf h
  subst h
  obtain⟨hd,h1,h2⟩:=List.findIdx?_eq_some_iff_getElem.mp e
  have h1:(new.drop j)[d]=a:=by simpa using h1
  refine⟨Nat.le_add_right _ _,?_,λl hl hk q=>?_⟩
  ·rw[<-ab3,QU hd,h1]
  ·have:=h2 (l-j) (by omega)
   have hq:(new.drop j)[l-j]?=some a:=by rw[ab3,show j+(l-j)=l by omega];exact q
   obtain⟨hh,he⟩:=List.getElem?_eq_some_iff.mp hq
   simp[he] at this
theorem l4{a:Z}{new:List Z}{j:Nat}(h:iq a new j=none):∀l,j<=l->new[l]?≠some a:=by
 unfold iq at h
 cases e:(new.drop j).findIdx? (·=a) with
 | some d=>rw[e] at h;cases h
 | none=>
  intro l hl q
  have hq:(new.drop j)[l-j]?=some a:=by rw[ab3,show j+(l-j)=l by omega];exact q
  have:=List.findIdx?_eq_none_iff.mp e a (Um hq)
  simp at this
theorem FA{a:Z}{as y:List Z}(h:a∉y):lcs (a::as) y=lcs as y:=by
 refine(jy (a::as) y).uniq ⟨λs c d=>?_,?_⟩
 ·rcases j_ c with c|⟨t,rfl,c⟩
  ·exact(jy as y).1 s c d
  ·exact absurd (d.subset aae) h
 ·obtain⟨_,s,c,d,e⟩:=jy as y
  exact⟨s,c.cons a,d,e⟩
theorem oz{new:List Z}{k:Nat}{a:Z}(h:new[k]?=some a):new.drop k=a::new.drop (k+1):=by
 obtain⟨hk,e⟩:=List.getElem?_eq_some_iff.mp h
 rw[aa_ hk,e]
theorem AX{new:List Z}{j k:Nat}(h:j<=k):(new.drop k).Sublist (new.drop j):=by
 have:new.drop k=(new.drop j).drop (k-j):=by rw[List.drop_drop];congr 1;omega
 rw[this];exact List.drop_sublist _ _
theorem y_{a:Z}{as new:List Z}{j l:Nat}(hl:j<=l)(h:new[l]?=some a):lcs as (new.drop (l+1))+1<=lcs (a::as) (new.drop j):=by
 have:lcs (a::as) (new.drop l)<=lcs (a::as) (new.drop j):=we (aaL _) (AX hl)
 rw[oz h,lcs,aah rfl] at this
 exact this
theorem wg{a:Z}{as new:List Z}{j k:Nat}(h:iq a new j=some k)(n9:lcs as (new.drop (k+1))+1≠lcs (a::as) (new.drop j)):lcs (a::as) (new.drop j)=lcs as (new.drop j):=by
 obtain⟨Ov,hk,IM⟩:=jE h
 have h1:=y_ (as:=as) Ov hk
 have h2:lcs as (new.drop j)<=lcs (a::as) (new.drop j):=we (ab0 a as) (aaL _)
 obtain⟨hs,s,c,d,e⟩:=jy (a::as) (new.drop j)
 rcases j_ c with c2|⟨t,es,c2⟩
 ·have:=(jy as (new.drop j)).1 s c2 d;omega
 ·exfalso
  subst es
  have key:∀(n:Nat)(j:Nat),k-j=n->j<=k->(∀l,j<=l->l<k->new[l]?≠some a)->(a::t).Sublist (new.drop j)->t.Sublist (new.drop (k+1)):=by
   intro n
   induction n with
   | zero=>
    intro j e1 e2 _ d
    have:j=k:=by omega
    subst this
    rw[oz hk] at d
    rcases j_ d with d|⟨u,e,d⟩
    ·exact(ab0 a t).trans d
    ·cases e;exact d
   | succ n ih=>
    intro j e1 e2 hm d
    have hj:j<new.length:=by
     have:=(List.getElem?_eq_some_iff.mp hk).1;omega
    rw[aa_ hj] at d
    rcases j_ d with d|⟨u,e,_⟩
    ·exact ih (j+1) (by omega) (by omega) (λl hl=>hm l (by omega)) d
    ·exfalso
     have e0:a=new[j]:=(List.cons.inj e).1
     exact hm j (Q2 _) (by omega) (by rw[QU hj,<-e0])
  have ht:=key _ j rfl Ov IM d
  have:=(jy as (new.drop (k+1))).1 t c2 ht
  rw[S7] at e
  omega
theorem D3{a:Z}{as new:List Z}{j:Nat}(h:iq a new j=none):lcs (a::as) (new.drop j)=lcs as (new.drop j):=by
 refine FA λm=>?_
 obtain⟨l,hl⟩:=aaK.mp m
 rw[ab3] at hl
 exact l4 h (j+l) (Nat.le_add_right _ _) hl
theorem kc(new:List Z):∀(old:List Z)(i j:Nat),(nB new i old j).length=lcs old (new.drop j)
 | [],i,j=>by rw[nB,C9];rfl
 | a::as,i,j=>by
  unfold nB
  cases h:iq a new j with
  | none=>simp only;rw[kc new as,D3 h]
  | some k=>
   simp only
   by_cases hc:lcs as (new.drop (k+1))+1=lcs (a::as) (new.drop j)
   ·rw[aah hc,S7,kc new as];exact hc
   ·rw[aab hc,kc new as,wg h hc]
inductive Good(old new:List Z):Nat->Nat->List (Nat×Nat)->Prop
 | nil (i j):Good old new i j []
 | cons {i j p q r} (h1:i<=p) (h2:j<=q) (a:Z) (e1:old[p]?=some a) (e2:new[q]?=some a)
  (h3:∀l m,i<=l->l<=p->j<=m->(l<p\/m<q)->∀b,old[l]?=some b->new[m]?=some b->¬r.length<=lcs (old.drop (l+1)) (new.drop (m+1)))
  (t:Good old new (p+1) (q+1) r):Good old new i j ((p,q)::r)
theorem Good.back{old new:List Z}{i j:Nat}{a:Z}{r:List (Nat×Nat)}(ha:old[i]?=some a)(hl:r.length=lcs (old.drop (i+1)) (new.drop j))(hn:∀m,j<=m->new[m]?=some a->lcs (old.drop (i+1)) (new.drop (m+1))+1≠r.length/\lcs (old.drop (i+1)) (new.drop (m+1))+1<=r.length)
  (h:Good old new (i+1) j r):Good old new i j r:=by
 cases h with
 | nil=>exact .nil _ _
 | @cons _ _ p q r h1 h2 b e1 e2 h3 t=>
  refine .cons (by omega) h2 b e1 e2 (λl m Ml IH hm jI c c1 c2 hle=>?_) t
  by_cases e:l=i
  ·subst e
   rw[ha] at c1
   cases c1
   have z:=hn m hm c2
   rw[S7] at z
   omega
  ·exact h3 l m (by omega) IH hm jI c c1 c2 hle
theorem oA{old new:List Z}:∀(rest:List Z)(i j:Nat),old.drop i=rest->Good old new i j (nB new i rest j)
 | [],i,j,_=>by rw[nB];exact .nil _ _
 | a::as,i,j,e=>by
  have ha:old[i]?=some a:=by
   have:(old.drop i)[0]?=some a:=by rw[e];rfl
   rwa [ab3,Nat.add_zero] at this
  have e':old.drop (i+1)=as:=by
   have:=oz ha;rw[e] at this;exact(List.cons.inj this).2.symm
  have L:=kc new as (i+1) j
  unfold nB
  cases h:iq a new j with
  | none=>
   simp only
   refine Good.back ha (by rw[L,e']) (λm hm q=>absurd q (l4 h m hm)) (oA as (i+1) j e')
  | some k=>
   obtain⟨Ov,hk,IM⟩:=jE h
   simp only
   by_cases hc:lcs as (new.drop (k+1))+1=lcs (a::as) (new.drop j)
   ·rw[aah hc]
    refine .cons (Q2 _) Ov a ha hk (λl m Ml IH hm jI b c1 c2 _=>?_) (oA as (i+1) (k+1) e')
    have:l=i:=by omega
    subst this
    rw[ha] at c1
    cases c1
    exact IM m hm (by omega) c2
   ·rw[aab hc]
    have S:=wg h hc
    refine Good.back ha (by rw[L,e']) (λm hm q=>?_) (oA as (i+1) j e')
    rw[L,e',<-S]
    have h1:=y_ (as:=as) hm q
    refine⟨λz=>?_,h1⟩
    have hkm:k<=m:=by
     rcases Nat.lt_or_ge m k with z'|z'
     ·exact absurd q (IM m hm z')
     ·exact z'
    have h2:lcs as (new.drop (m+1))<=lcs as (new.drop (k+1)):=we (aaL _) (AX (by omega))
    have h3:=y_ (as:=as) Ov hk
    omega
theorem yp(old new:List Z):Good old new 0 0 (kept old new):=oA old 0 0 rfl
theorem AY(old new:List Z):(kept old new).length=lcs old new:=kc new old 0 0
def pre(old new:List Z)(i k:Nat):Nat:=lcs (old.take i) (new.take k)
def tX(old new:List Z)(i j:Nat):Nat:=lcs (old.drop i) (new.drop j)
theorem vw{old new:List Z}{i j:Nat}(h:old.length<=i\/new.length<=j):tX old new i j=0:=by
 unfold tX
 rcases h with h|h
 ·rw[List.drop_eq_nil_of_le h,C9]
 ·rw[List.drop_eq_nil_of_le h,HM]
theorem HN{old new:List Z}{i j:Nat}{a b:Z}(ha:old[i]?=some a)(hb:new[j]?=some b) :
  tX old new i j=if b=a then tX old new (i+1) (j+1)+1 else max (tX old new (i+1) j) (tX old new i (j+1)):=by
 unfold tX
 rw[oz ha,oz hb,lcs,<-oz ha,<-oz hb]
end
end K01
namespace PM
open PySem
abbrev Nm:=Str×Nat
structure Ln where
 nm:Nm
 tx:Str
 up:Option Nm
 lo:Option Nm
 deriving DecidableEq
structure Pt where
 nm:Str
 file:Option Str
 gW:List Ln
 iU:List Nm
 other:Option Str
 deriving DecidableEq
noncomputable def lJ:List Pt->List Str->List Pt
 | [],_=>[]
 | p::r,t=>if p.nm∈t then lJ r t else p::lJ r (match p.other with|some o=>o::t|none=>t)
noncomputable def live(ps:List Pt):List Pt:=(lJ ps.reverse []).reverse
def fA(ps:List Pt)(f:Str):List Ln:=(ps.filter λp=>p.file=some f).flatMap (·.gW)
def gone(ps:List Pt):List Nm:=ps.flatMap (·.iU)
noncomputable def ik(ps:List Pt)(f:Str):List Ln:=(fA (live ps) f).filter λl=>l.nm∉gone (live ps)
theorem tY:∀(ps:List Pt)(t:List Str),(lJ ps t).Sublist ps
 | [],_=>aaL _
 | p::r,t=>by
  unfold lJ
  split
  ·exact(tY r t).cons p
  ·exact(tY r _).cons_cons p
theorem sA(ps:List Pt):(live ps).Sublist ps:=by
 have:=(tY ps.reverse []).reverse
 rwa [List.reverse_reverse] at this
theorem sC{ps qs:List Pt}(h:ps.Sublist qs)(f:Str):(fA ps f).Sublist (fA qs f):=by
 unfold fA
 have h:=h.filter (λp=>decide (p.file=some f))
 generalize ps.filter _=a at h
 generalize qs.filter _=b at h
 induction h with
 | slnil=>exact aaL _
 | cons x _ ih=>rw[aav];exact ih.trans (List.sublist_append_right _ _)
 | cons_cons x _ ih=>rw[aav,aav];exact(aaL _).append ih
theorem i5(ps:List Pt)(f:Str):(ik ps f).Sublist (fA ps f):=
 aaP.trans (sC (sA ps) f)
def Sa(ls:List Ln)(m n:Nm):Prop:=∃l∈ls,(l.nm=n/\l.up=some m)\/(l.nm=m/\l.lo=some n)
inductive Ah(ls:List Ln):Nm->Nm->Prop
 | one {m n}:Sa ls m n->Ah ls m n
 | HP {m k n}:Ah ls m k->Sa ls k n->Ah ls m n
theorem Ah.trans{ls:List Ln}{m k n:Nm}(a:Ah ls m k)(b:Ah ls k n):Ah ls m n:=by
 induction b with
 | one h=>exact .HP a h
 | HP _ h ih=>exact .HP ih h
theorem Sa.mono{l1 l2:List Ln}(h:∀l∈l1,l∈l2){m n:Nm}(a:Sa l1 m n):Sa l2 m n:=by
 obtain⟨l,hl,q⟩:=a
 exact⟨l,h l hl,q⟩
theorem Ah.mono{l1 l2:List Ln}(h:∀l∈l1,l∈l2){m n:Nm}(a:Ah l1 m n):Ah l2 m n:=by
 induction a with
 | one x=>exact .one (x.mono h)
 | HP _ x ih=>exact .HP ih (x.mono h)
theorem Ah.last{ls:List Ln}{m n:Nm}:Ah ls m n↔Sa ls m n\/∃k,Ah ls m k/\Sa ls k n:=by
 constructor
 ·intro h
  cases h with
  | one x=>exact .inl x
  | HP a x=>exact .inr ⟨_,a,x⟩
 ·rintro(x|⟨k,a,x⟩)
  ·exact .one x
  ·exact .HP a x
def Rk(ls:List Ln)(rk:Nm->Nat):Prop:=∀l∈ls,(∀m,l.up=some m->rk m<rk l.nm)/\(∀m,l.lo=some m->rk l.nm<rk m)
def FC(ls:List Ln):Prop:=∃rk,Rk ls rk
theorem Rk.sa{ls:List Ln}{rk:Nm->Nat}(r:Rk ls rk){m n:Nm}(h:Sa ls m n):rk m<rk n:=by
 obtain⟨l,hl,⟨rfl,e⟩|⟨rfl,e⟩⟩:=h
 ·exact(r l hl).1 m e
 ·exact(r l hl).2 n e
theorem Rk.ah{ls:List Ln}{rk:Nm->Nat}(r:Rk ls rk){m n:Nm}(h:Ah ls m n):rk m<rk n:=by
 induction h with
 | one x=>exact r.sa x
 | HP _ x ih=>exact Nat.lt_trans ih (r.sa x)
def oB(ls:List Ln):Prop:=∀l∈ls,(∀m,l.up=some m->m∈ls.map (·.nm))/\(∀m,l.lo=some m->m∈ls.map (·.nm))
theorem oB.sa{ls:List Ln}(c:oB ls){m n:Nm}(h:Sa ls m n):m∈ls.map (·.nm)/\n∈ls.map (·.nm):=by
 obtain⟨l,hl,⟨rfl,e⟩|⟨rfl,e⟩⟩:=h
 ·exact⟨(c l hl).1 m e,Q3 hl⟩
 ·exact⟨Q3 hl,(c l hl).2 n e⟩
theorem oB.ah{ls:List Ln}(c:oB ls){m n:Nm}(h:Ah ls m n):m∈ls.map (·.nm)/\n∈ls.map (·.nm):=by
 induction h with
 | one x=>exact c.sa x
 | HP _ x ih=>exact⟨ih.1,(c.sa x).2⟩
section
open Classical
variable(lt:Nm->Nm->Prop)
noncomputable def free(ls:List Ln)(l:Ln):Bool:=decide (∀o∈ls,¬lt o.nm l.nm)
noncomputable def ph:Nat->List Ln->List Ln
 | 0,_=>[]
 | n+1,ls=>match ls.find? (free lt ls) with
  | none=>[]
  | some l=>l::ph n (ls.filter λo=>o.nm≠l.nm)
noncomputable def rowOf(ls:List Ln):List Ln:=ph lt ls.length ls
def ltAt(row:List Ln)(i j:Nat):Prop:=∃a b,row[i]?=some a/\row[j]?=some b/\lt a.nm b.nm
noncomputable def ju(row:List Ln):List (Nat×Nat):=
 (List.range row.length).flatMap λi=>((List.range' (i+1) (row.length-(i+1))).filter λj=>decide (¬ltAt lt row i j)).map λj=>(i,j)
variable{lt}
theorem pK{rk:Nm->Nat}(hr:∀m n,lt m n->rk m<rk n):∀(ls:List Ln),ls≠[]->∃l,ls.find? (free lt ls)=some l:=by
 intro ls hn
 have least:∀(xs:List Ln),xs≠[]->∃l∈xs,∀o∈xs,rk l.nm<=rk o.nm:=by
  intro xs
  induction xs with
  | nil=>intro h;exact absurd rfl h
  | cons x r ih=>
   intro _
   by_cases h:r=[]
   ·subst h;exact⟨x,by simp,λo ho=>by simp at ho;rw[ho];exact Q2 _⟩
   ·obtain⟨l,hl,hm⟩:=ih h
    by_cases hx:rk x.nm<=rk l.nm
    ·refine⟨x,by simp,λo ho=>?_⟩
     rcases RT.mp ho with rfl|ho
     ·exact Q2 _
     ·exact aag hx (hm o ho)
    ·refine⟨l,Uk _ hl,λo ho=>?_⟩
     rcases RT.mp ho with rfl|ho
     ·omega
     ·exact hm o ho
 obtain⟨l,hl,hm⟩:=least ls hn
 have hf:free lt ls l=true:=Ug λo ho jI=>by have:=hr _ _ jI;have:=hm o ho;omega
 cases e:ls.find? (free lt ls) with
 | some x=>exact⟨x,rfl⟩
 | none=>exact absurd hf (by have:=List.find?_eq_none.mp e l hl;simpa using this)
theorem kE{ls:List Ln}(nd:(ls.map (·.nm)).Nodup){l:Ln}(hl:l∈ls):(ls.filter λo=>o.nm≠l.nm).length+1=ls.length:=by
 induction ls with
 | nil=>cases hl
 | cons x r ih=>
  rw[aam,aaM] at nd
  rcases RT.mp hl with rfl|hl
  ·have e:r.filter (λo=>decide (o.nm≠l.nm))=r:=List.filter_eq_self.mpr λo ho=>Ug λz=>nd.1 (z▸Q3 ho)
   rw[YI (by simp),e,S7]
  ·have hx:x.nm≠l.nm:=λz=>nd.1 (z▸Q3 hl)
   rw[W5 (by simpa using hx),S7,S7,ih nd.2 hl]
theorem lu{ls:List Ln}(nd:(ls.map (·.nm)).Nodup)(p:Ln->Bool):((ls.filter p).map (·.nm)).Nodup:=(aaP.map _).nodup nd
theorem rJ{rk:Nm->Nat}(hr:∀m n,lt m n->rk m<rk n):∀(n:Nat)(ls:List Ln),n=ls.length->(ls.map (·.nm)).Nodup->(ph lt n ls).Perm ls
 | 0,ls,e,_=>by
  have:ls=[]:=aao.mp e.symm
  subst this;exact List.Perm.refl _
 | n+1,ls,e,nd=>by
  have hn:ls≠[]:=λz=>by subst z;cases e
  obtain⟨l,hf⟩:=pK hr ls hn
  have hl:l∈ls:=List.mem_of_find?_eq_some hf
  unfold ph
  rw[hf]
  have hlen:=kE nd hl
  have ih:=rJ hr n (ls.filter λo=>o.nm≠l.nm) (by omega) (lu nd _)
  refine(ih.cons l).trans ?_
  clear ih hf hlen e hn
  induction ls with
  | nil=>cases hl
  | cons x r ih=>
   rw[aam,aaM] at nd
   rcases RT.mp hl with rfl|hl
   ·have e:r.filter (λo=>decide (o.nm≠l.nm))=r:=List.filter_eq_self.mpr λo ho=>Ug λz=>nd.1 (z▸Q3 ho)
    rw[YI (by simp),e]
   ·have hx:x.nm≠l.nm:=λz=>nd.1 (z▸Q3 hl)
    rw[W5 (by simpa using hx)]
    exact(List.Perm.swap _ _ _).trans ((ih nd.2 hl).cons x)
theorem wj{rk:Nm->Nat}(hr:∀m n,lt m n->rk m<rk n){ls:List Ln}(nd:(ls.map (·.nm)).Nodup):(rowOf lt ls).Perm ls:=rJ hr _ ls rfl nd
theorem sD{rk:Nm->Nat}(hr:∀m n,lt m n->rk m<rk n):∀(n:Nat)(ls:List Ln),n=ls.length->(ls.map (·.nm)).Nodup->(ph lt n ls).Pairwise λa b=>¬lt b.nm a.nm
 | 0,ls,_,_=>List.Pairwise.nil
 | n+1,ls,e,nd=>by
  have hn:ls≠[]:=λz=>by subst z;cases e
  obtain⟨l,hf⟩:=pK hr ls hn
  have hl:l∈ls:=List.mem_of_find?_eq_some hf
  have hlen:=kE nd hl
  unfold ph
  rw[hf]
  refine List.Pairwise.cons (λb hb=>?_) (sD hr n _ (by omega) (lu nd _))
  have hb:=(rJ hr n (ls.filter λo=>o.nm≠l.nm) (by omega) (lu nd _)).subset hb
  have hp:=List.find?_some hf
  exact aaz hp b (Yj.mp hb).1
theorem za{rk:Nm->Nat}(hr:∀m n,lt m n->rk m<rk n){ls:List Ln}(nd:(ls.map (·.nm)).Nodup):(rowOf lt ls).Pairwise λa b=>¬lt b.nm a.nm:=sD hr _ ls rfl nd
end
def AZ(sf:Nm->List Nm)(S:List Nm)(x:Nm):List Nm:=(sf x).filter λy=>y∉S
inductive Run(sf:Nm->List Nm)(B:Nat):Nat->List Nm->List Nm->Prop
 | nil {S}:Run sf B 0 [] S
 | skip {n x st S}:x∈S->(x::st).length<=B->Run sf B n st S->Run sf B (n+1) (x::st) S
 | fin {n x st S}:x∉S->AZ sf S x=[]->(x::st).length<=B->Run sf B n st (S++[x])->Run sf B (n+1) (x::st) S
 | push {n x st S}:x∉S->AZ sf S x≠[]->(x::st).length<=B->Run sf B n ((AZ sf S x).reverse++x::st) S->Run sf B (n+1) (x::st) S
theorem zb{sf:Nm->List Nm}{S:List Nm}{x:Nm}:AZ sf S x=[]↔∀y∈sf x,y∈S:=by
 unfold AZ
 rw[ab1]
 exact⟨λh y hy=>by simpa using h y hy,λh y hy=>by simpa using h y hy⟩
theorem HQ{sf:Nm->List Nm}{B N:Nat}(cr:Nm->Nat)(hN:∀x,(sf x).length<=N)(hc:∀x y,y∈sf x->cr y<cr x):∀(k:Nat)(x:Nm),cr x<=k->∀(st S:List Nm),st.length+1+N*cr x<=B->
  (∀S',(∀y∈S,y∈S')->x∈S'->∃n,Run sf B n st S')->∃n,Run sf B n (x::st) S:=by
 intro k
 induction k with
 | zero=>
  intro x hx st S hB go
  by_cases hm:x∈S
  ·obtain⟨n,r⟩:=go S (λ_ h=>h) hm
   exact⟨n+1,.skip hm (by rw[S7];omega) r⟩
  ·have e:AZ sf S x=[]:=zb.mpr λy hy=>by have:=hc x y hy;omega
   obtain⟨n,r⟩:=go (S++[x]) (λ_ h=>aad _ h) (by simp)
   exact⟨n+1,.fin hm e (by rw[S7];omega) r⟩
 | succ k ih=>
  intro x hx st S hB go
  have hlen:(x::st).length<=B:=by rw[S7];omega
  by_cases hm:x∈S
  ·obtain⟨n,r⟩:=go S (λ_ h=>h) hm
   exact⟨n+1,.skip hm hlen r⟩
  ·by_cases e:AZ sf S x=[]
   ·obtain⟨n,r⟩:=go (S++[x]) (λ_ h=>aad _ h) (by simp)
    exact⟨n+1,.fin hm e hlen r⟩
   ·
    have many:∀(ms:List Nm)(S0:List Nm),(∀y∈ms,y∈sf x)->ms.length<=N->(∀S',(∀y∈S0,y∈S')->(∀y∈ms,y∈S')->∃n,Run sf B n (x::st) S')->∃n,Run sf B n (ms++x::st) S0:=by
     intro ms
     induction ms with
     | nil=>intro S0 _ _ h;exact h S0 (λ_ z=>z) (λy hy=>by cases hy)
     | cons m r XJ=>
      intro S0 hs hl h
      have XM:=hc x m (hs m aae)
      rw[S7] at hl
      refine ih m (by omega) (r++x::st) S0 ?_ λS1 h1 Oh=>XJ S1 (λy hy=>hs y (Uk _ hy)) (by omega) λS2 h2 h3=>h S2 (λy hy=>h2 y (h1 y hy)) λy hy=>?_
      ·rw[RX,S7]
       have:N*cr m+N<=N*cr x:=by rw[<-Nat.mul_succ];exact Nat.mul_le_mul_left N XM
       omega
      ·rcases RT.mp hy with z|z
       ·rw[z];exact h2 m Oh
       ·exact h3 y z
    have tI:(AZ sf S x).length<=N:=aag (aaJ _ _) (hN x)
    have cont:∀S',(∀y∈S,y∈S')->(∀y∈(AZ sf S x).reverse,y∈S')->∃n,Run sf B n (x::st) S':=λS' h1 h2=>by
     by_cases Hc:x∈S'
     ·obtain⟨n,r⟩:=go S' h1 Hc
      exact⟨n+1,.skip Hc hlen r⟩
     ·have e':AZ sf S' x=[]:=zb.mpr λy hy=>by
       by_cases PL:y∈S
       ·exact h1 y PL
       ·exact h2 y (List.mem_reverse.mpr (Yj.mpr ⟨hy,by simpa using PL⟩))
      obtain⟨n,r⟩:=go (S'++[x]) (λy hy=>aad _ (h1 y hy)) (by simp)
      exact⟨n+1,.fin Hc e' hlen r⟩
    obtain⟨n,r⟩:=many (AZ sf S x).reverse S (λy hy=>(Yj.mp (List.mem_reverse.mp hy)).1) (by rw[abc];exact tI) cont
    exact⟨n+1,.push hm e hlen r⟩
def Ma(ls:List Ln)(rk:Nm->Nat)(n:Nm):Nat:=(ls.filter λl=>rk l.nm<rk n).length
theorem KP(ls:List Ln)(rk:Nm->Nat)(n:Nm):Ma ls rk n<=ls.length:=aaJ _ _
theorem KQ{ls:List Ln}{rk:Nm->Nat}{m n:Nm}(hm:m∈ls.map (·.nm))(h:rk m<rk n):Ma ls rk m<Ma ls rk n:=by
 unfold Ma
 have mono:∀{a b:Ln->Bool} {xs:List Ln},(∀x∈xs,a x=true->b x=true)->(xs.filter a).length<=(xs.filter b).length:=by
  intro a b xs zU
  induction xs with
  | nil=>exact Q2 _
  | cons x r ih=>
   have ih:=ih λy hy=>zU y (Uk _ hy)
   by_cases ha:a x=true
   ·rw[W5 ha,W5 (zU x aae ha),S7,S7];omega
   ·rw[YI ha]
    by_cases hb:b x=true
    ·rw[W5 hb,S7];omega
    ·rw[YI hb];exact ih
 obtain⟨l,hl,rfl⟩:=aak.mp hm
 obtain⟨a,b,rfl⟩:=List.append_of_mem hl
 rw[aay,aay,RX,RX]
 rw[YI (by simp),W5 (by simpa using h),S7]
 have h1:=mono (a:=λx:Ln=>decide (rk x.nm<rk l.nm)) (b:=λx=>decide (rk x.nm<rk n)) (xs:=a) λx _ hx=>by simp at hx ⊢;omega
 have h2:=mono (a:=λx:Ln=>decide (rk x.nm<rk l.nm)) (b:=λx=>decide (rk x.nm<rk n)) (xs:=b) λx _ hx=>by simp at hx ⊢;omega
 omega
theorem len_sub{xs ys:List Nm}(nd:xs.Nodup)(h:∀x∈xs,x∈ys):xs.length<=ys.length:=by
 induction xs generalizing ys with
 | nil=>exact aaD _
 | cons a r ih=>
  rw[aaM] at nd
  obtain⟨p,q,rfl⟩:=List.append_of_mem (h a aae)
  have:=ih (ys:=p++q) nd.2 λz hz=>by
   have:=h z (Uk _ hz)
   rcases Ue.mp this with w|w
   ·exact aad _ w
   ·rcases RT.mp w with w|w
    ·exact absurd (w▸hz) nd.1
    ·exact aas _ w
  rw[RX] at this
  rw[S7,RX,S7]
  omega
theorem FD{ls:List Ln}(cl:oB ls)(tp:FC ls){sf:Nm->List Nm}(hs:∀n,(sf n).Nodup/\∀m,m∈sf n↔Sa ls m n)(x:Nm)(S:List Nm):∃n,Run sf (1+ls.length*ls.length) n [x] S:=by
 obtain⟨rk,hr⟩:=tp
 have RS:∀n,(sf n).length<=ls.length:=λn=>by
  have:=len_sub (ys:=ls.map (·.nm)) (hs n).1 λy hy=>(cl.sa (((hs n).2 y).mp hy)).1
  rw[Ou] at this
  exact this
 refine HQ (N:=ls.length) (Ma ls rk) RS (λx y hy=>?_) _ x (Q2 _) [] S ?_ λS' _ _=>⟨0,.nil⟩
 ·have h:=((hs x).2 y).mp hy
  exact KQ (cl.sa h).1 (hr.sa h)
 ·have:=Nat.mul_le_mul_left ls.length (KP ls rk x)
  show 0+1+ls.length*Ma ls rk x<=1+ls.length*ls.length
  omega
def A1(n m:Nat)(qs:List (Nat×Nat)):Prop:=qs.Pairwise (λa b=>a.1<b.1/\a.2<b.2)/\∀q∈qs,q.1<n/\q.2<m
theorem D5{Z:Type}[DecidableEq Z]{old new:List Z}{i j:Nat}{qs:List (Nat×Nat)}(g:K01.Good old new i j qs):A1 old.length new.length qs/\∀q∈qs,i<=q.1/\j<=q.2:=by
 induction g with
 | nil=>exact⟨⟨List.Pairwise.nil,λq hq=>by cases hq⟩,λq hq=>by cases hq⟩
 | @cons i j p q r h1 h2 a e1 e2 h3 t ih=>
  obtain⟨⟨h4,h5⟩,h6⟩:=ih
  refine⟨⟨List.Pairwise.cons (λb hb=>?_) h4,λb hb=>?_⟩,λb hb=>?_⟩
  ·have:=h6 b hb
   exact⟨by show p<b.1;omega,by show q<b.2;omega⟩
  ·rcases RT.mp hb with rfl|hb
   ·exact⟨(List.getElem?_eq_some_iff.mp e1).1,(List.getElem?_eq_some_iff.mp e2).1⟩
   ·exact h5 b hb
  ·rcases RT.mp hb with rfl|hb
   ·exact⟨h1,h2⟩
   ·have:=h6 b hb
    omega
theorem qx{Z:Type}[DecidableEq Z](old new:List Z):A1 old.length new.length (K01.kept old new):=(D5 (K01.yp old new)).1
noncomputable def kA(row:List Ln):List (Nat×Nat)->Nat->Option Nm
 | [],_=>none
 | q::r,s=>if q.2=s then(row[q.1]?).map (·.nm) else kA row r s
def oC(row:List Ln)(qs:List (Nat×Nat)):List Nm:=qs.filterMap λq=>(row[q.1]?).map (·.nm)
theorem zc{row:List Ln}{qs:List (Nat×Nat)}{s:Nat}{m:Nm}(h:kA row qs s=some m):∃q∈qs,q.2=s/\∃l,row[q.1]?=some l/\l.nm=m:=by
 induction qs with
 | nil=>cases h
 | cons q r ih=>
  unfold kA at h
  by_cases e:q.2=s
  ·rw[aah e] at h
   obtain⟨l,hl,e2⟩:=Option.map_eq_some_iff.mp h
   exact⟨q,aae,e,l,hl,e2⟩
  ·rw[aab e] at h
   obtain⟨q',hq,z⟩:=ih h
   exact⟨q',Uk _ hq,z⟩
theorem zd{row:List Ln}{m:Nat}:∀{qs:List (Nat×Nat)},A1 row.length m qs->∀s,(kA row qs s).isSome=decide (s∈qs.map (·.2))
 | [],_,s=>rfl
 | q::r,h,s=>by
  have hr:A1 row.length m r:=⟨(List.pairwise_cons.mp h.1).2,λx hx=>h.2 x (Uk _ hx)⟩
  unfold kA
  by_cases e:q.2=s
  ·rw[aah e,QU (h.2 q aae).1,Ug (by rw[aam,e];exact aae)];rfl
  ·rw[aab e,zd hr s,aam]
   by_cases z:s∈r.map (·.2)
   ·rw[Ug z,Ug (Uk _ z)]
   ·rw[aaa z,aaa (λw=>(RT.mp w).elim (λw=>e w.symm) z)]
theorem HR{row:List Ln}{qs:List (Nat×Nat)}{m:Nat}{rk:Nm->Nat}(h:A1 row.length m qs)(hr:row.Pairwise λa b=>rk a.nm<rk b.nm){s t:Nat}{a b:Nm}(hs:kA row qs s=some a)(ht:kA row qs t=some b)(yH:s<t):rk a<rk b:=by
 obtain⟨q1,h1,e1,l1,r1,rfl⟩:=zc hs
 obtain⟨q2,h2,e2,l2,r2,rfl⟩:=zc ht
 have jI:q1.1<q2.1:=by
  obtain⟨i,hi,ei⟩:=List.mem_iff_getElem.mp h1
  obtain⟨j,hj,ej⟩:=List.mem_iff_getElem.mp h2
  have hp:=aaQ.mp h.1
  rcases Nat.lt_trichotomy i j with z|z|z
  ·have:=hp i j hi hj z;rw[ei,ej] at this;exact this.1
  ·subst z;rw[ei] at ej;subst ej;omega
  ·have:=hp j i hj hi z;rw[ei,ej] at this;omega
 obtain⟨g1,w1⟩:=List.getElem?_eq_some_iff.mp r1
 obtain⟨g2,w2⟩:=List.getElem?_eq_some_iff.mp r2
 have:=aaQ.mp hr _ _ g1 g2 jI
 rw[w1,w2] at this
 exact this
def C_(kn:Nat->Option Nm):Nat->Nat->Option Nm
 | 0,_=>none
 | k+1,i=>match kn (i+1) with|some m=>some m|none=>C_ kn k (i+1)
noncomputable def oE(p:Str)(kn:Nat->Option Nm):Nat->Nat->Option Nm->List Str->List Ln
 | _,_,_,[]=>[]
 | i,j,u,t::r=>match kn i with
  | some m=>oE p kn (i+1) j (some m) r
  | none=>⟨(p,j),t,u,C_ kn r.length i⟩::oE p kn (i+1) (j+1) (some (p,j)) r
noncomputable def jF(p:Str)(texts:List Str)(kn:Nat->Option Nm):List Ln:=oE p kn 0 0 none texts
noncomputable def jk(p f:Str)(row:List Ln)(texts:List Str):Pt:=
 ⟨p,some f,jF p texts (kA row (K01.kept (row.map (·.tx)) texts)),(row.filter λl=>l.nm∉oC row (K01.kept (row.map (·.tx)) texts)).map (·.nm),none⟩
theorem sE(p:Str)(kn:Nat->Option Nm):∀(r:List Str)(i j:Nat)(u:Option Nm),(oE p kn i j u r).map (·.nm)=(List.range' j (oE p kn i j u r).length).map λk=>(p,k)
 | [],_,_,_=>rfl
 | t::r,i,j,u=>by
  unfold oE
  cases h:kn i with
  | some m=>exact sE p kn r (i+1) j (some m)
  | none=>
   simp only [aam,S7,acg]
   rw[sE p kn r (i+1) (j+1) (some (p,j))]
theorem wk(p:Str)(kn:Nat->Option Nm):∀(r:List Str)(i j:Nat)(u:Option Nm),(oE p kn i j u r).length=((List.range' i r.length).filter λk=>(kn k).isNone).length
 | [],_,_,_=>rfl
 | t::r,i,j,u=>by
  unfold oE
  rw[S7,acg]
  cases h:kn i with
  | some m=>rw[YI (by simp[h])];exact wk p kn r (i+1) j (some m)
  | none=>rw[W5 (by simp[h]),S7];simp only [S7];rw[wk p kn r (i+1) (j+1) (some (p,j))]
theorem ze{kn:Nat->Option Nm}{m:Nm}:∀{k i:Nat},C_ kn k i=some m->∃t,i<t/\t<=i+k/\kn t=some m
 | 0,_,h=>by cases h
 | k+1,i,h=>by
  unfold C_ at h
  cases e:kn (i+1) with
  | some m'=>
   rw[e] at h
   cases h
   exact⟨i+1,by omega,by omega,e⟩
  | none=>
   rw[e] at h
   obtain⟨t,h1,h2,h3⟩:=ze (k:=k) (i:=i+1) h
   exact⟨t,by omega,by omega,h3⟩
theorem vy{p:Str}{kn:Nat->Option Nm}:∀(r:List Str)(i j:Nat)(u:Option Nm),∀l∈oE p kn i j u r,∀m,l.up=some m\/l.lo=some m->(u=some m\/∃t,kn t=some m)\/m∈(oE p kn i j u r).map (·.nm)
 | [],_,_,_,l,hl,_,_=>by cases hl
 | t::r,i,j,u,l,hl,m,hm=>by
  unfold oE at hl ⊢
  cases h:kn i with
  | some m'=>
   rw[h] at hl
   rcases vy r (i+1) j (some m') l hl m hm with(z|z)|z
   ·exact .inl (.inr ⟨i,by rw[h];exact z⟩)
   ·exact .inl (.inr z)
   ·exact .inr z
  | none=>
   rw[h] at hl
   rcases RT.mp hl with rfl|hl
   ·rcases hm with hm|hm
    ·exact .inl (.inl hm)
    ·obtain⟨t,_,_,e⟩:=ze hm
     exact .inl (.inr ⟨t,e⟩)
   ·rcases vy r (i+1) (j+1) (some (p,j)) l hl m hm with(z|z)|z
    ·cases z
     exact .inr (by rw[aam];exact aae)
    ·exact .inl (.inr z)
    ·exact .inr (Uk _ z)
noncomputable def FE(rk:Nm->Nat)(kn:Nat->Option Nm):Nat->Nat
 | 0=>0
 | i+1=>match kn i with|some m=>rk m+1|none=>FE rk kn i
def Q4(kn:Nat->Option Nm)(n j:Nat):Nat:=(((List.range n).filter λk=>(kn k).isNone)[j]?).getD 0
noncomputable def Cn(rk:Nm->Nat)(kn:Nat->Option Nm)(p:Str)(n:Nat)(x:Nm):Nat:=if x.1=p then FE rk kn (Q4 kn n x.2)*(n+1)+x.2+1 else(rk x+1)*(n+1)
theorem FF{rk:Nm->Nat}{kn:Nat->Option Nm}(hk:∀s t a b,kn s=some a->kn t=some b->s<t->rk a<rk b):∀i t b,kn t=some b->i<=t->FE rk kn i<=rk b
 | 0,_,_,_,_=>aaD _
 | i+1,t,b,h,hi=>by
  unfold FE
  cases e:kn i with
  | some m=>exact hk i t m b e h (by omega)
  | none=>exact FF hk i t b h (by omega)
theorem KR{kn:Nat->Option Nm}{n i:Nat}(hi:i<n)(h:kn i=none):Q4 kn n ((List.range i).filter λk=>(kn k).isNone).length=i:=by
 unfold Q4
 have e:List.range n=List.range i++i::List.range' (i+1) (n-(i+1)):=by
  have h1:List.range n=List.range i++(List.range' i (n-i)):=by
   have:=List.range'_append_1 (s:=0) (m:=i) (n:=n-i)
   rw[Nat.zero_add,show i+(n-i)=n by omega] at this
   rw[List.range_eq_range',List.range_eq_range',this]
  rw[h1,show n-i=(n-(i+1))+1 by omega,acg]
 rw[e,aay,W5 (by simp[h]),abh (Q2 _),Nat.sub_self]
 rfl
theorem zf{rk:Nm->Nat}{kn:Nat->Option Nm}{p:Str}{n:Nat}(hk:∀s t a b,kn s=some a->kn t=some b->s<t->rk a<rk b)(hp:∀s a,kn s=some a->a.1≠p) :
  ∀(r:List Str)(i j:Nat)(u:Option Nm),i+r.length=n->j=((List.range i).filter λk=>(kn k).isNone).length->(∀m,u=some m->Cn rk kn p n m<=FE rk kn i*(n+1)+j)->
   Rk (oE p kn i j u r) (Cn rk kn p n)
 | [],_,_,_,_,_,_=>λl hl=>by cases hl
 | t::r,i,j,u,hn,hj,hu=>by
  rw[S7] at hn
  have Ha:i<n:=by omega
  have IP:j<=i:=by rw[hj];exact aag (aaJ _ _) (by rw[aa2];exact Q2 _)
  have e1:(List.range (i+1)).filter (λk=>(kn k).isNone)=(List.range i).filter (λk=>(kn k).isNone)++if(kn i).isNone then[i] else[]:=by
   rw[ack,aay]
   congr 1
   cases h:(kn i).isNone<;>simp[h]
  unfold oE
  cases h:kn i with
  | some m=>
   refine zf hk hp r (i+1) j (some m) (by omega) (by rw[e1,h];simpa using hj) λm' e=>?_
   cases e
   unfold Cn
   rw[aab (hp i m h),FE.eq_2,h]
   show(rk m+1)*(n+1)<=(rk m+1)*(n+1)+j
   omega
  | none=>
   have GK:Cn rk kn p n (p,j)=FE rk kn i*(n+1)+j+1:=by
    unfold Cn
    rw[aah rfl,hj,KR Ha h]
   have hb:FE rk kn (i+1)=FE rk kn i:=by rw[FE.eq_2,h]
   intro l hl
   rcases RT.mp hl with rfl|hl
   ·refine⟨λm hm=>?_,λm hm=>?_⟩
    ·have:=hu m hm
     show Cn rk kn p n m<Cn rk kn p n (p,j)
     omega
    ·obtain⟨t',ht1,RU,e⟩:=ze hm
     show Cn rk kn p n (p,j)<Cn rk kn p n m
     have hle:=FF hk i t' m e (by omega)
     rw[GK]
     unfold Cn
     rw[aab (hp t' m e)]
     have h1:FE rk kn i*(n+1)<=rk m*(n+1):=Nat.mul_le_mul_right _ hle
     have h2:(rk m+1)*(n+1)=rk m*(n+1)+(n+1):=Nat.succ_mul _ _
     omega
   ·refine zf hk hp r (i+1) (j+1) (some (p,j)) (by omega) (by rw[e1,h,hj];simp) (λm' e=>?_) l hl
    cases e
    rw[GK,hb]
    omega
theorem FG{rk:Nm->Nat}{kn:Nat->Option Nm}{p:Str}(hk:∀s t a b,kn s=some a->kn t=some b->s<t->rk a<rk b)(hp:∀s a,kn s=some a->a.1≠p)(texts:List Str):Rk (jF p texts kn) (Cn rk kn p texts.length):=
 zf hk hp texts 0 0 none (by omega) rfl λm e=>by cases e
theorem FH{rk:Nm->Nat}{kn:Nat->Option Nm}{p:Str}{n:Nat}{ls:List Ln}(r:Rk ls rk)(h:∀l∈ls,l.nm.1≠p/\∀m,l.up=some m\/l.lo=some m->m.1≠p):Rk ls (Cn rk kn p n):=by
 intro l hl
 obtain⟨h1,h2⟩:=h l hl
 have e:∀x:Nm,x.1≠p->Cn rk kn p n x=(rk x+1)*(n+1):=λx hx=>by unfold Cn;rw[aab hx]
 refine⟨λm hm=>?_,λm hm=>?_⟩
 ·rw[e _ h1,e _ (h2 m (.inl hm))]
  exact Nat.mul_lt_mul_of_pos_right (Nat.succ_lt_succ ((r l hl).1 m hm)) (Nat.succ_pos _)
 ·rw[e _ h1,e _ (h2 m (.inr hm))]
  exact Nat.mul_lt_mul_of_pos_right (Nat.succ_lt_succ ((r l hl).2 m hm)) (Nat.succ_pos _)
theorem A2{xs ys:List Nat}(nd:xs.Nodup)(h:∀x∈xs,x∈ys):xs.length<=ys.length:=by
 have:=len_sub (xs:=xs.map λk=>((Str.empty,k):Nm)) (ys:=ys.map λk=>(Str.empty,k)) (abx.mpr (nd.imp λh z=>h (aaT Prod.snd z))) λx hx=>by
  obtain⟨k,hk,rfl⟩:=aak.mp hx
  exact Q3 (h k hk)
 rwa [Ou,Ou] at this
theorem wo{Z:Type}(p:Z->Bool):∀xs:List Z,(xs.filter p).length+(xs.filter λx=>!p x).length=xs.length
 | []=>rfl
 | x::r=>by
  have:=wo p r
  cases h:p x<;>simp[h]<;>omega
theorem HS{row:List Ln}{texts:List Str}{qs:List (Nat×Nat)}(h:A1 row.length texts.length qs)(p:Str):(jF p texts (kA row qs)).length+qs.length=texts.length:=by
 unfold jF
 rw[wk,<-List.range_eq_range']
 have h2:=wo (λk=>(kA row qs k).isNone) (List.range texts.length)
 rw[aa2] at h2
 have h3:((List.range texts.length).filter λx=>!(kA row qs x).isNone).length=qs.length:=by
  have nd:(qs.map (·.2)).Nodup:=abx.mpr (h.1.imp λz e=>by omega)
  refine Nat.le_antisymm ?_ ?_
  ·have:=A2 (xs:=(List.range texts.length).filter λx=>!(kA row qs x).isNone) (ys:=qs.map (·.2)) (List.nodup_range.sublist aaP) λx hx=>by
    have h4:=(Yj.mp hx).2
    have h5:(kA row qs x).isSome=true:=by cases e:kA row qs x<;>simp[e] at h4 ⊢
    rw[zd h] at h5
    exact aaz h5
   rwa [Ou] at this
  ·have:=A2 (xs:=qs.map (·.2)) (ys:=(List.range texts.length).filter λx=>!(kA row qs x).isNone) nd λx hx=>by
    refine Yj.mpr ⟨List.mem_range.mpr ?_,?_⟩
    ·obtain⟨q,hq,rfl⟩:=aak.mp hx
     exact(h.2 q hq).2
    ·have h5:=zd h x
     rw[Ug hx] at h5
     cases e:kA row qs x<;>simp[e] at h5 ⊢
   rwa [Ou] at this
 omega
structure Dk where
 made:List Pt
 ic:Str->List Str
 stores:List Str
 held:Str->List Str
def named(p:Pt):List Nm:=p.iU++p.gW.flatMap λl=>l.up.toList++l.lo.toList
def gT(p:Pt):List Str:=((named p).filter λn=>n.1≠p.nm).map (·.1)++p.other.toList
def oF(nd:Str->List Str)(p:Pt):List Str:=(gT p).flatMap λy=>y::nd y
namespace Dk
def names(D:Dk):List Str:=D.made.map (·.nm)
noncomputable def keep(D:Dk)(s:Str)(p:Pt):Dk:=⟨D.made++[p],λx=>if x=p.nm then oF D.ic p else D.ic x,D.stores,λt=>if t=s then D.held s++[p.nm] else D.held t⟩
noncomputable def begin(D:Dk)(s:Str):Dk:=⟨D.made,D.ic,D.stores++[s],λt=>if t=s then[] else D.held t⟩
def jx(D:Dk)(s:Str):List Pt:=D.made.filter λp=>p.nm∈D.held s
def has(D:Dk)(s:Str):List Str:=D.names.filter λx=>x∈D.held s
def Nd(D:Dk)(x:Str):List Str:=D.names.filter λy=>y∈D.ic x
def D6(D:Dk)(s x:Str):List Str:=(D.Nd x++[x]).filter λy=>y∉D.held s
def take(D:Dk)(s x:Str):Dk:=⟨D.made,D.ic,D.stores,λt=>if t=s then D.held s++D.D6 s x else D.held t⟩
def drop(D:Dk)(s x:Str):Dk:=⟨D.made,D.ic,D.stores,λt=>if t=s then(D.held s).filter (λy=>y≠x) else D.held t⟩
noncomputable def row(D:Dk)(s f:Str):List Ln:=rowOf (Ah (fA (D.jx s) f)) (ik (D.jx s) f)
noncomputable def pL(D:Dk)(s f:Str):List (Nat×Nat):=ju (Ah (fA (D.jx s) f)) (D.row s f)
theorem HU(D:Dk)(s:Str):D.has s=(D.jx s).map (·.nm):=by
 unfold has jx names
 rw[List.filter_map];rfl
end Dk
structure Inv(D:Dk):Prop where
 nd:D.names.Nodup
 xA:∀p∈D.made,p.gW.map (·.nm)=(List.range p.gW.length).map λj=>(p.nm,j)
 refs:∀p∈D.made,∀l∈p.gW,∀m,l.up=some m\/l.lo=some m->∃q∈D.made,q.file=p.file/\m∈q.gW.map (·.nm)/\(q.nm=p.nm\/q.nm∈D.ic p.nm)
 rank:∃rk,∀p∈D.made,Rk p.gW rk
 before:∀i p,D.made[i]?=some p->∀x∈D.ic p.nm,x∈(D.made.take i).map (·.nm)
 trans:∀x∈D.names,∀y∈D.ic x,∀z∈D.ic y,z∈D.ic x
 stN:D.stores.Nodup
 mB:∀s∈D.stores,∀x∈D.held s,x∈D.names/\∀y∈D.ic x,y∈D.held s
 uN:∀s∈D.stores,(D.held s).Nodup
 FJ:∀p∈D.made,∀n∈p.iU,n.1≠p.nm
 need:∀p∈D.made,∀y,y∈D.ic p.nm↔∃z∈gT p,y=z\/y∈D.ic z
theorem lx{p:Pt}(h:p.gW.map (·.nm)=(List.range p.gW.length).map λj=>(p.nm,j)){m:Nm}(hm:m∈p.gW.map (·.nm)):m.1=p.nm:=by
 rw[h] at hm
 obtain⟨j,_,rfl⟩:=aak.mp hm
 rfl
theorem HV{ps:List Pt}(nd:(ps.map (·.nm)).Nodup){p q:Pt}(hp:p∈ps)(hq:q∈ps)(e:p.nm=q.nm):p=q:=by
 induction ps with
 | nil=>cases hp
 | cons x r ih=>
  rw[aam,aaM] at nd
  rcases RT.mp hp with h1|h1
  ·rcases RT.mp hq with h2|h2
   ·rw[h1,h2]
   ·exact absurd (by rw[<-h1,e];exact Q3 h2) nd.1
  ·rcases RT.mp hq with h2|h2
   ·exact absurd (by rw[<-h2,<-e];exact Q3 h1) nd.1
   ·exact ih nd.2 h1 h2
theorem Co{ps:List Pt}(nd:(ps.map (·.nm)).Nodup)(h:∀p∈ps,p.gW.map (·.nm)=(List.range p.gW.length).map λj=>(p.nm,j)):((ps.flatMap (·.gW)).map (·.nm)).Nodup:=by
 induction ps with
 | nil=>exact aa8
 | cons x r ih=>
  rw[aam,aaM] at nd
  rw[aav,aai,aaV]
  refine⟨?_,ih nd.2 λp hp=>h p (Uk _ hp),λa ha b hb e=>?_⟩
  ·rw[h x aae]
   exact abx.mpr (List.nodup_range.imp λz e=>z (aaT Prod.snd e))
  ·have e1:=lx (h x aae) ha
   obtain⟨l,hl,rfl⟩:=aak.mp hb
   obtain⟨q,hq,XN⟩:=aaU.mp hl
   have e2:=lx (h q (Uk _ hq)) (Q3 XN)
   exact nd.1 (by rw[<-e1,e,e2];exact Q3 hq)
theorem i6{ps:List Pt}{f:Str}{l:Ln}:l∈fA ps f↔∃p∈ps,p.file=some f/\l∈p.gW:=by
 unfold fA
 rw[aaU]
 constructor
 ·rintro⟨p,hp,hl⟩
  obtain⟨h1,h2⟩:=Yj.mp hp
  exact⟨p,h1,aaz h2,hl⟩
 ·rintro⟨p,h1,h2,hl⟩
  exact⟨p,Yj.mpr ⟨h1,Ug h2⟩,hl⟩
theorem sF(ps:List Pt)(f:Str):(fA ps f).Sublist (ps.flatMap (·.gW)):=by
 unfold fA
 have h:=aaP (p:=λp:Pt=>decide (p.file=some f)) (l:=ps)
 generalize ps.filter _=qs at h
 induction h with
 | slnil=>exact aaL _
 | cons x _ ih=>rw[aav];exact ih.trans (List.sublist_append_right _ _)
 | cons_cons x _ ih=>rw[aav,aav];exact(aaL _).append ih
namespace Inv
variable{D:Dk}
theorem ke{s:Str}{p:Pt}:p∈D.jx s↔p∈D.made/\p.nm∈D.held s:=by
 unfold Dk.jx
 rw[Yj,aa4]
theorem qy(s:Str):(D.jx s).Sublist D.made:=aaP
theorem nodup(I:Inv D)(s f:Str):((fA (D.jx s) f).map (·.nm)).Nodup:=
 ((sF _ f).map _).nodup (Co (((qy s).map _).nodup I.nd) λp hp=>I.xA p (qy s |>.subset hp))
theorem Cp(I:Inv D)(s f:Str):((ik (D.jx s) f).map (·.nm)).Nodup:=((i5 _ f).map _).nodup (I.nodup s f)
theorem closed(I:Inv D){s:Str}(hs:s∈D.stores)(f:Str):oB (fA (D.jx s) f):=by
 have key:∀l∈fA (D.jx s) f,∀m,l.up=some m\/l.lo=some m->m∈(fA (D.jx s) f).map (·.nm):=λl hl m hm=>by
  obtain⟨p,hp,hf,hl⟩:=i6.mp hl
  obtain⟨hp,hh⟩:=ke.mp hp
  obtain⟨q,hq,e,RV,hn⟩:=I.refs p hp l hl m hm
  obtain⟨l',ED,rfl⟩:=aak.mp RV
  refine Q3 (i6.mpr ⟨q,ke.mpr ⟨hq,?_⟩,by rw[e];exact hf,ED⟩)
  rcases hn with hn|hn
  ·rw[hn];exact hh
  ·exact(I.mB s hs _ hh).2 _ hn
 exact λl hl=>⟨λm hm=>key l hl m (.inl hm),λm hm=>key l hl m (.inr hm)⟩
theorem KS(I:Inv D)(s f:Str):FC (fA (D.jx s) f):=by
 obtain⟨rk,h⟩:=I.rank
 refine⟨rk,λl hl=>?_⟩
 obtain⟨p,hp,_,hl⟩:=i6.mp hl
 exact h p (ke.mp hp).1 l hl
theorem lh(I:Inv D)(s f:Str):(D.row s f).Perm (ik (D.jx s) f):=by
 obtain⟨rk,r⟩:=I.KS s f
 exact wj (rk:=rk) (λm n z=>r.ah z) (I.Cp s f)
theorem qz(I:Inv D){s f:Str}{l:Ln}(h:l∈D.row s f):∃p∈D.jx s,p.file=some f/\l∈p.gW:=
 i6.mp ((i5 _ f).subset ((I.lh s f).subset h))
theorem Dc(I:Inv D)(s f:Str):(D.row s f).length<=(D.made.flatMap (·.gW)).length:=by
 rw[(I.lh s f).length_eq]
 refine aag (i5 _ f).length_le (aag (sF _ f).length_le ?_)
 have h:=qy (D:=D) s
 generalize D.jx s=qs at h
 generalize D.made=ms at h
 clear I
 induction h with
 | slnil=>exact Q2 _
 | cons x _ ih=>rw[aav,RX];omega
 | cons_cons x _ ih=>rw[aav,aav,RX,RX];omega
open Classical in
theorem chain{lt:Nm->Nm->Prop}{row:List Ln}(hq:ju lt row=[]):row.Pairwise λa b=>lt a.nm b.nm:=by
 rw[aaQ]
 intro i j hi hj RW
 by_cases c:ltAt lt row i j
 ·obtain⟨a,b,ha,hb,z⟩:=c
  rw[QU hi] at ha
  rw[QU hj] at hb
  cases ha;cases hb
  exact z
 ·exfalso
  have:(i,j)∈ju lt row:=by
   unfold ju
   refine aaU.mpr ⟨i,List.mem_range.mpr hi,aak.mpr ⟨j,Yj.mpr ⟨List.mem_range'.mpr ⟨j-(i+1),by omega,by omega⟩,Ug c⟩,rfl⟩⟩
  rw[hq] at this
  cases this
theorem keep(I:Inv D){s:Str}{p:Pt}(hs:s∈D.stores)(fresh:p.nm∉D.names)(xA:p.gW.map (·.nm)=(List.range p.gW.length).map λj=>(p.nm,j))
  (refs:∀l∈p.gW,∀m,l.up=some m\/l.lo=some m->m∈p.gW.map (·.nm)\/∃q∈D.jx s,q.file=p.file/\m∈q.gW.map (·.nm))
  (iU:∀m∈p.iU,∃q∈D.jx s,m∈q.gW.map (·.nm)) (other:∀o,p.other=some o->o∈D.held s)
  (rank:∃rk,(∀q∈D.made,Rk q.gW rk)/\Rk p.gW rk):Inv (D.keep s p):=by
 have n9:∀x∈D.names,x≠p.nm:=λx hx e=>fresh (e▸hx)
 have LK:∀q∈D.made,q.nm∈D.names:=λq hq=>Q3 hq
 have GL:∀x,x≠p.nm->(D.keep s p).ic x=D.ic x:=λx hx=>aab hx
 have Ow:(D.keep s p).ic p.nm=oF D.ic p:=aah rfl
 have P0:∀x∈gT p,x∈D.held s:=λx hx=>by
  unfold gT at hx
  rcases Ue.mp hx with hx|hx
  ·obtain⟨m,hm,rfl⟩:=aak.mp hx
   obtain⟨hm,hn⟩:=Yj.mp hm
   have hn:m.1≠p.nm:=aaz hn
   have fin:(∃q∈D.jx s,m∈q.gW.map (·.nm))->m.1∈D.held s:=λ⟨q,hq,RV⟩=>by
    obtain⟨h1,h2⟩:=ke.mp hq
    rw[lx (I.xA q h1) RV];exact h2
   rcases Ue.mp hm with hm|hm
   ·exact fin (iU m hm)
   ·obtain⟨l,hl,hm⟩:=aaU.mp hm
    have Hc:l.up=some m\/l.lo=some m:=by
     rcases Ue.mp hm with hm|hm
     ·exact .inl (by simpa using hm)
     ·exact .inr (by simpa using hm)
    rcases refs l hl m Hc with z|⟨q,hq,_,z⟩
    ·exact absurd (lx xA z) hn
    ·exact fin ⟨q,hq,z⟩
  ·exact other x (by simpa using hx)
 have nh:∀x∈oF D.ic p,x∈D.held s:=λx hx=>by
  obtain⟨y,hy,hx⟩:=aaU.mp hx
  rcases RT.mp hx with rfl|hx
  ·exact P0 _ hy
  ·exact(I.mB s hs y (P0 y hy)).2 x hx
 have nn:∀x∈oF D.ic p,x∈D.names:=λx hx=>(I.mB s hs x (nh x hx)).1
 have JE:∀x∈D.names,∀y∈D.ic x,y∈D.names:=λx hx y hy=>by
  obtain⟨q,hq,rfl⟩:=aak.mp hx
  obtain⟨i,hi⟩:=aaK.mp hq
  have:=I.before i q hi y hy
  exact(ab8 i D.made).map _ |>.subset this
 refine⟨?_,λq hq=>?_,λq hq l hl m hm=>?_,?_,λi q hq x hx=>?_,λx hx y hy z hz=>?_,I.stN,λt ht x hx=>?_,λt ht=>?_,λq hq n hn=>?_,λq hq y=>?_⟩
 ·show((D.made++[p]).map (·.nm)).Nodup
  rw[aai,aaV]
  exact⟨I.nd,by simp,λa ha b hb e=>fresh (by simp at hb;rw[<-hb,<-e];exact ha)⟩
 ·rcases Ue.mp hq with hq|hq
  ·exact I.xA q hq
  ·rw[Oy.mp hq];exact xA
 ·rcases Ue.mp hq with hq|hq
  ·obtain⟨q',h1,h2,h3,h4⟩:=I.refs q hq l hl m hm
   refine⟨q',aad _ h1,h2,h3,h4.imp id λz=>?_⟩
   rw[GL _ (n9 _ (LK q hq))];exact z
  ·rw[Oy.mp hq] at hl ⊢
   rcases refs l hl m hm with z|⟨q',h1,h2,h3⟩
   ·exact⟨p,by show p∈D.made++[p];simp,rfl,z,.inl rfl⟩
   ·obtain⟨h4,h5⟩:=ke.mp h1
    refine⟨q',aad _ h4,h2,h3,.inr ?_⟩
    rw[Ow]
    have e:=lx (I.xA q' h4) h3
    refine aaU.mpr ⟨q'.nm,?_,aae⟩
    unfold gT
    refine aad _ (aak.mpr ⟨m,Yj.mpr ⟨?_,Ug ?_⟩,e⟩)
    ·unfold named
     refine aas _ (aaU.mpr ⟨l,hl,?_⟩)
     rcases hm with hm|hm
     ·exact aad _ (by rw[hm];simp)
     ·exact aas _ (by rw[hm];simp)
    ·rw[e];exact n9 _ (LK q' h4)
 ·obtain⟨rk,h1,h2⟩:=rank
  refine⟨rk,λq hq=>?_⟩
  rcases Ue.mp hq with hq|hq
  ·exact h1 q hq
  ·rw[Oy.mp hq];exact h2
 ·show x∈((D.made++[p]).take i).map (·.nm)
  have hq:(D.made++[p])[i]?=some q:=hq
  by_cases hi:i<D.made.length
  ·rw[abH hi] at hq
   rw[List.take_append_of_le_length (by omega)]
   rw[GL _ (n9 _ (LK q (Um hq)))] at hx
   exact I.before i q hq x hx
  ·have hl:=(List.getElem?_eq_some_iff.mp hq).1
   rw[RX] at hl
   have hi:i=D.made.length:=by have:[p].length=1:=rfl;omega
   subst hi
   rw[abh (Q2 _),Nat.sub_self] at hq
   cases hq
   rw[List.take_append_of_le_length (Q2 _),aaq]
   rw[Ow] at hx
   exact nn x hx
 ·have hx:x∈(D.made++[p]).map (·.nm):=hx
  rw[aai] at hx
  rcases Ue.mp hx with hx|hx
  ·rw[GL _ (n9 x hx)] at hy ⊢
   rw[GL _ (n9 y (JE x hx y hy))] at hz
   exact I.trans x hx y hy z hz
  ·have hx:x=p.nm:=by simpa using hx
   rw[hx,Ow] at hy ⊢
   rw[GL _ (n9 y (nn y hy))] at hz
   obtain⟨w,hw,hy⟩:=aaU.mp hy
   refine aaU.mpr ⟨w,hw,Uk _ ?_⟩
   rcases RT.mp hy with rfl|hy
   ·exact hz
   ·exact I.trans w (I.mB s hs w (P0 w hw)).1 y hy z hz
 ·have old:∀u∈D.stores,∀x∈D.held u,x∈(D.keep s p).names/\∀y∈(D.keep s p).ic x,y∈D.held u:=λu hu x hx=>by
   obtain⟨h1,h2⟩:=I.mB u hu x hx
   refine⟨?_,λy hy=>?_⟩
   ·show x∈(D.made++[p]).map (·.nm)
    rw[aai];exact aad _ h1
   ·rw[GL _ (n9 x h1)] at hy
    exact h2 y hy
  have hx:x∈(if t=s then D.held s++[p.nm] else D.held t):=hx
  show x∈(D.keep s p).names/\∀y∈(D.keep s p).ic x,y∈(if t=s then D.held s++[p.nm] else D.held t)
  by_cases e:t=s
  ·rw[aah e] at hx ⊢
   rcases Ue.mp hx with hx|hx
   ·obtain⟨h1,h2⟩:=old s hs x hx
    exact⟨h1,λy hy=>aad _ (h2 y hy)⟩
   ·have hx:x=p.nm:=by simpa using hx
    rw[hx]
    refine⟨?_,λy hy=>?_⟩
    ·show p.nm∈(D.made++[p]).map (·.nm)
     simp
    ·rw[Ow] at hy
     exact aad _ (nh y hy)
  ·rw[aab e] at hx ⊢
   exact old t ht x hx
 ·show(if t=s then D.held s++[p.nm] else D.held t).Nodup
  by_cases e:t=s
  ·rw[aah e,aaV]
   exact⟨I.uN s hs,by simp,λa ha b hb z=>fresh (by simp at hb;rw[<-hb,<-z];exact(I.mB s hs a ha).1)⟩
  ·rw[aab e];exact I.uN t ht
 ·rcases Ue.mp hq with hq|hq
  ·exact I.FJ q hq n hn
  ·rw[Oy.mp hq] at hn ⊢
   obtain⟨q',h1,h2⟩:=iU n hn
   rw[lx (I.xA q' (ke.mp h1).1) h2]
   exact n9 _ (LK q' (ke.mp h1).1)
 ·rcases Ue.mp hq with hq|hq
  ·rw[GL _ (n9 _ (LK q hq)),I.need q hq y]
   have e:∀z∈gT q,(D.keep s p).ic z=D.ic z:=λz hz=>GL z (n9 z (JE q.nm (LK q hq) z ((I.need q hq z).mpr ⟨z,hz,.inl rfl⟩)))
   exact⟨λ⟨z,h1,h2⟩=>⟨z,h1,by rw[e z h1];exact h2⟩,λ⟨z,h1,h2⟩=>⟨z,h1,by rw[e z h1] at h2;exact h2⟩⟩
  ·rw[Oy.mp hq,Ow]
   have e:∀z∈gT p,(D.keep s p).ic z=D.ic z:=λz hz=>GL z (n9 z (I.mB s hs z (P0 z hz)).1)
   unfold oF
   rw[aaU]
   exact⟨λ⟨z,h1,h2⟩=>⟨z,h1,by rw[e z h1];exact RT.mp h2⟩,λ⟨z,h1,h2⟩=>⟨z,h1,by rw[e z h1] at h2;exact RT.mpr h2⟩⟩
theorem record(I:Inv D){s f x:Str}(hs:s∈D.stores)(fresh:x∉D.names)(hq:D.pL s f=[])(texts:List Str):Inv (D.keep s (jk x f (D.row s f) texts)):=by
 obtain⟨rk,GK⟩:=I.rank
 have rise:=qx ((D.row s f).map (·.tx)) texts
 rw[Ou] at rise
 have Ox:∀t m,kA (D.row s f) (K01.kept ((D.row s f).map (·.tx)) texts) t=some m->∃q∈D.jx s,q.file=some f/\m∈q.gW.map (·.nm):=λt m h=>by
  obtain⟨q,_,_,l,hl,rfl⟩:=zc h
  obtain⟨p,h1,h2,h3⟩:=I.qz (Um hl)
  exact⟨p,h1,h2,Q3 h3⟩
 have own:∀q∈D.made,∀m∈q.gW.map (·.nm),m.1≠x:=λq hq m hm e=>fresh (by rw[<-e,lx (I.xA q hq) hm];exact Q3 hq)
 have ch:(D.row s f).Pairwise λa b=>rk a.nm<rk b.nm:=by
  have tr:Rk (fA (D.jx s) f) rk:=λl hl=>by
   obtain⟨p,hp,_,hl⟩:=i6.mp hl
   exact GK p (ke.mp hp).1 l hl
  exact(chain hq).imp λz=>tr.ah z
 refine I.keep hs fresh ?_ (λl hl m hm=>?_) (λm hm=>?_) (λo ho=>by cases ho) ⟨Cn rk (kA (D.row s f) (K01.kept ((D.row s f).map (·.tx)) texts)) x texts.length,λq hq=>?_,?_⟩
 ·show(jF x texts _).map (·.nm)=(List.range (jF x texts _).length).map λj=>(x,j)
  unfold jF
  rw[sE,<-List.range_eq_range']
 ·rcases vy texts 0 0 none l hl m hm with(z|⟨t,z⟩)|z
  ·cases z
  ·exact .inr (Ox t m z)
  ·exact .inl z
 ·obtain⟨l,hl,rfl⟩:=aak.mp hm
  obtain⟨p,h1,_,h3⟩:=I.qz (Yj.mp hl).1
  exact⟨p,h1,Q3 h3⟩
 ·refine FH (GK q hq) λl hl=>⟨own q hq _ (Q3 hl),λm hm=>?_⟩
  obtain⟨q',h1,_,h3,_⟩:=I.refs q hq l hl m hm
  exact own q' h1 m h3
 ·refine FG (λa b c d h1 h2 h3=>HR rise ch h1 h2 h3) (λt m h=>?_) texts
  obtain⟨q,h1,_,h3⟩:=Ox t m h
  exact own q (ke.mp h1).1 m h3
theorem cut(I:Inv D){s f x:Str}(hs:s∈D.stores)(fresh:x∉D.names){ms:List Nm}(hm:∀m∈ms,m∈(D.row s f).map (·.nm)):Inv (D.keep s ⟨x,some f,[],ms,none⟩):=by
 refine I.keep hs fresh rfl (λl hl=>by cases hl) (λm h=>?_) (λo ho=>by cases ho) ?_
 ·obtain⟨l,hl,rfl⟩:=aak.mp (hm m h)
  obtain⟨p,h1,_,h3⟩:=I.qz hl
  exact⟨p,h1,Q3 h3⟩
 ·obtain⟨rk,h⟩:=I.rank
  exact⟨rk,h,λl hl=>by cases hl⟩
theorem back(I:Inv D){s x o:Str}(hs:s∈D.stores)(fresh:x∉D.names)(ho:o∈D.held s):Inv (D.keep s ⟨x,none,[],[],some o⟩):=by
 refine I.keep hs fresh rfl (λl hl=>by cases hl) (λm h=>by cases h) (λo' h=>by cases h;exact ho) ?_
 obtain⟨rk,h⟩:=I.rank
 exact⟨rk,h,λl hl=>by cases hl⟩
theorem D7(I:Inv D){x:Str}(hx:x∈D.names):x∉D.ic x:=λh=>by
 obtain⟨q,hq,rfl⟩:=aak.mp hx
 obtain⟨i,hi⟩:=aaK.mp hq
 have h1:=I.before i q hi _ h
 rw[List.map_take] at h1
 obtain⟨j,hj⟩:=aaK.mp h1
 have IP:j<i:=by have:=(List.getElem?_eq_some_iff.mp hj).1;rw[aaE] at this;omega
 rw[List.getElem?_take,aah IP] at hj
 have e3:(D.made.map (·.nm))[i]?=some q.nm:=by rw[W3,hi];rfl
 have:=(List.getElem?_inj (List.getElem?_eq_some_iff.mp hj).1 I.nd).mp (hj.trans e3.symm)
 omega
theorem vz(I:Inv D){x y:Str}(hx:x∈D.names)(hy:y∈D.ic x):y∈D.names:=by
 obtain⟨q,hq,rfl⟩:=aak.mp hx
 obtain⟨i,hi⟩:=aaK.mp hq
 exact(ab8 i D.made).map _ |>.subset (I.before i q hi y hy)
theorem take(I:Inv D){s x:Str}(hs:s∈D.stores)(hx:x∈D.names):Inv (D.take s x):=by
 have cm:∀y∈D.D6 s x,(y=x\/y∈D.ic x)/\y∉D.held s:=λy hy=>by
  obtain⟨h1,h2⟩:=Yj.mp hy
  refine⟨?_,aaz h2⟩
  rcases Ue.mp h1 with h|h
  ·exact .inr (aaz (Yj.mp h).2)
  ·exact .inl (by simpa using h)
 have UL:∀y,y=x\/y∈D.ic x->y∈D.held s++D.D6 s x:=λy hy=>by
  by_cases h:y∈D.held s
  ·exact aad _ h
  ·refine aas _ (Yj.mpr ⟨?_,Ug h⟩)
   rcases hy with rfl|hy
   ·simp
   ·exact aad _ (Yj.mpr ⟨I.vz hx hy,Ug hy⟩)
 refine⟨I.nd,I.xA,I.refs,I.rank,I.before,I.trans,I.stN,λt ht z hz=>?_,λt ht=>?_,I.FJ,I.need⟩
 ·have hz:z∈(if t=s then D.held s++D.D6 s x else D.held t):=hz
  show z∈D.names/\∀y∈D.ic z,y∈(if t=s then D.held s++D.D6 s x else D.held t)
  by_cases e:t=s
  ·rw[aah e] at hz ⊢
   rcases Ue.mp hz with hz|hz
   ·obtain⟨h1,h2⟩:=I.mB s hs z hz
    exact⟨h1,λy hy=>aad _ (h2 y hy)⟩
   ·obtain⟨h1,_⟩:=cm z hz
    rcases h1 with rfl|h1
    ·exact⟨hx,λy hy=>UL y (.inr hy)⟩
    ·exact⟨I.vz hx h1,λy hy=>UL y (.inr (I.trans x hx z h1 y hy))⟩
  ·rw[aab e] at hz ⊢
   exact I.mB t ht z hz
 ·show(if t=s then D.held s++D.D6 s x else D.held t).Nodup
  by_cases e:t=s
  ·rw[aah e,aaV]
   refine⟨I.uN s hs,?_,λa ha b hb z=>(cm b hb).2 (z▸ha)⟩
   refine List.Nodup.sublist aaP ?_
   rw[aaV]
   refine⟨List.Nodup.sublist aaP I.nd,by simp,λa ha b hb z=>?_⟩
   rw[Oy.mp hb] at z
   subst z
   exact I.D7 hx (aaz (Yj.mp ha).2)
  ·rw[aab e];exact I.uN t ht
theorem drop(I:Inv D){s x:Str}(hs:s∈D.stores)(hx:∀z∈D.held s,x∉D.ic z):Inv (D.drop s x):=by
 refine⟨I.nd,I.xA,I.refs,I.rank,I.before,I.trans,I.stN,λt ht z hz=>?_,λt ht=>?_,I.FJ,I.need⟩
 ·have hz:z∈(if t=s then(D.held s).filter (λy=>y≠x) else D.held t):=hz
  show z∈D.names/\∀y∈D.ic z,y∈(if t=s then(D.held s).filter (λy=>y≠x) else D.held t)
  by_cases e:t=s
  ·rw[aah e] at hz ⊢
   have hz:=(Yj.mp hz).1
   obtain⟨h1,h2⟩:=I.mB s hs z hz
   exact⟨h1,λy hy=>Yj.mpr ⟨h2 y hy,Ug λe=>hx z hz (e▸hy)⟩⟩
  ·rw[aab e] at hz ⊢
   exact I.mB t ht z hz
 ·show(if t=s then(D.held s).filter (λy=>y≠x) else D.held t).Nodup
  by_cases e:t=s
  ·rw[aah e];exact List.Nodup.sublist aaP (I.uN s hs)
  ·rw[aab e];exact I.uN t ht
theorem begin(I:Inv D){s:Str}(hs:s∉D.stores):Inv (D.begin s):=by
 refine⟨I.nd,I.xA,I.refs,I.rank,I.before,I.trans,?_,λt ht z hz=>?_,λt ht=>?_,I.FJ,I.need⟩
 ·show(D.stores++[s]).Nodup
  rw[aaV]
  exact⟨I.stN,by simp,λa ha b hb e=>hs (by rw[<-Oy.mp hb,<-e];exact ha)⟩
 ·have hz:z∈(if t=s then[] else D.held t):=hz
  show z∈D.names/\∀y∈D.ic z,y∈(if t=s then[] else D.held t)
  by_cases e:t=s
  ·rw[aah e] at hz;cases hz
  ·rw[aab e] at hz ⊢
   rcases Ue.mp ht with ht|ht
   ·exact I.mB t ht z hz
   ·exact absurd (Oy.mp ht) e
 ·show(if t=s then[] else D.held t).Nodup
  by_cases e:t=s
  ·rw[aah e];exact aa8
  ·rw[aab e]
   rcases Ue.mp ht with ht|ht
   ·exact I.uN t ht
   ·exact absurd (Oy.mp ht) e
end Inv
end PM
namespace PK
open PySem L2
set_option genInjectivity false
set_option genSizeOf false
set_option genSizeOfSpec false
noncomputable def top(i:Nat):Stmt:=PySem.Challenge.pw_patchkin_k16_rooms_of_names.main.body.getD i (.Pass ⟨0,0,0,0⟩)
noncomputable section
noncomputable abbrev nL(l:List Str):List Str:=l
abbrev mT:=top 2
abbrev oG:=top 3
abbrev oH:=top 4
abbrev Cq:=top 5
abbrev ly:=inClass (top 14) 0
abbrev kF:=inClass (top 15) 0
abbrev jM:=top 16
abbrev jd:=top 17
abbrev l5:=top 18
abbrev pM:=top 19
abbrev jN:=top 20
abbrev iV:=top 21
abbrev kG:=top 22
abbrev wq:=top 23
abbrev mD:=top 24
abbrev oI:=top 25
abbrev sG:=top 26
abbrev kI:=inClass (top 27) 0
abbrev kJ:=inClass (top 27) 1
abbrev jT:=inClass (top 27) 2
abbrev oJ:=top 31
abbrev mU:=top 32
abbrev pN:=top 33
abbrev jl:=top 34
abbrev lA:=inClass (top 35) 0
abbrev oK:=inClass (top 35) 1
abbrev mV:=inClass (top 35) 2
abbrev l6:=inClass (top 35) 3
abbrev oM:=inClass (top 35) 4
abbrev k7:=inClass (top 35) 5
abbrev oN:=inClass (top 35) 12
abbrev wu:=inClass (top 35) 13
abbrev jz:=inClass (top 35) 16
abbrev lB:=inClass (top 35) 17
abbrev j0:=inClass (top 35) 18
abbrev kK:=inClass (top 35) 21
abbrev pO:=inClass (top 35) 22
abbrev l7:=top 37
abbrev pP:=top 38
abbrev kL:=top 39
abbrev oO:=top 40
abbrev FK:=top 41
abbrev u4:=nL ["self","name","text","upper_name","lower_name"]
theorem tZ:fN u4 ["self","name","text","upper_name","lower_name"] (e_ ly):=pA
abbrev t9:=nL ["self","name","file","puts","cuts","other"]
theorem sH:fN t9 ["self","name","file","puts","cuts","other"] (e_ kF):=pA
abbrev nE:=nL ["patch","names","line","name"]
theorem jA:fN nE ["patch"] (e_ jM):=pA
abbrev lL:=nL ["patch","leant","name"]
theorem jG:fN lL ["patch"] (e_ jd):=pA
noncomputable abbrev wx:=nL ["patches","taken_back","live","patch"]
theorem jY:fN wx ["patches"] (e_ l5):=pA
abbrev A3:=nL ["patches","file","lines","patch"]
theorem oP:fN A3 ["patches","file"] (e_ pM):=pA
noncomputable abbrev nF:=nL ["patches","file","live","gone","patch","name","line"]
theorem iE:fN nF ["patches","file"] (e_ jN):=pA
abbrev j1:=nL ["patches","files","patch","file"]
theorem je:fN j1 ["patches"] (e_ iV):=pA
abbrev t_:=nL ["lines","straight","line"]
theorem jB:fN t_ ["lines"] (e_ kG):=pA
abbrev FL:=nL ["names","ahead","found","name"]
theorem ua:fN FL ["names","ahead"] (e_ wq):=pA
abbrev uO:=nL ["lines","straight","ahead","line","climb","name","missing","other"]
theorem i7:fN uO ["lines"] (e_ mD):=pA
abbrev zg:=nL ["waiting","name"]
theorem qX:fN zg ["waiting"] (e_ oI):=pA
abbrev A4:=nL ["lines","ahead","by_name","waiting","line","row","name","other"]
theorem j4:fN A4 ["lines","ahead"] (e_ sG):=pA
abbrev ub:=nL ["self","patches","file"]
theorem sI:fN ub ["self","patches","file"] (e_ kI):=pA
abbrev uc:=nL ["self","first","second"]
theorem sJ:fN uc ["self","first","second"] (e_ kJ):=pA
abbrev qK:=nL ["self","pairs","first","second"]
theorem i8:fN qK ["self"] (e_ jT):=pA
abbrev zh:=nL ["name","sign"]
theorem qY:fN zh ["name"] (e_ oJ):=pA
abbrev xH:=nL ["kept_names","size","behind","place"]
theorem l8:fN xH ["kept_names","size"] (e_ mU):=pA
abbrev A5:=nL ["patch","texts","kept_names","behind","lines","upper_name","place","text"]
theorem i9:fN A5 ["patch","texts","kept_names"] (e_ pN):=pA
abbrev kO:=nL ["patch","file","row","texts","kept_names","left","first","second","cuts","line"]
theorem g_:fN kO ["patch","file","row","texts"] (e_ jl):=pA
abbrev u5:=nL ["self"]
theorem ud:fN u5 ["self"] (e_ lA):=pA
abbrev zi:=nL ["self","store"]
theorem xI:fN zi ["self","store"] (e_ oK):=pA
abbrev xJ:=nL ["self"]
theorem wy:fN xJ ["self"] (e_ mV):=pA
abbrev wz:=nL ["self"]
theorem u9:fN wz ["self"] (e_ l6):=pA
abbrev wA:=nL ["self","store","name"]
theorem uP:fN wA ["self","store"] (e_ oM):=pA
abbrev qZ:=nL ["self","store","patch","file","texts","sight","line"]
theorem l9:fN qZ ["self","store","patch","file","texts"] (e_ k7):=pA
abbrev zj:=nL ["self","store"]
theorem xK:fN zj ["self","store"] (e_ oN):=pA
abbrev mE:=nL ["self","store","name"]
theorem l_:fN mE ["self","store"] (e_ jz):=pA
abbrev u_:=nL ["self","store","file"]
theorem ue:fN u_ ["self","store","file"] (e_ lB):=pA
abbrev rK:=nL ["self","store"]
theorem qL:fN rK ["self","store"] (e_ j0):=pA
abbrev uf:=nL ["self","patch","files","name"]
theorem mF:fN uf ["self","patch","files"] (e_ kK):=pA
abbrev A6:=nL ["self","store","patch","needs","name"]
theorem oQ:fN A6 ["self","store","patch"] (e_ pO):=pA
abbrev wB:=nL ["script","k"]
theorem va:fN wB ["script","k"] (e_ l7):=pA
abbrev A7:=nL ["cell","k","signs","size","base","far","found","j"]
theorem iJ:fN A7 ["cell","k"] (e_ pP):=pA
abbrev ug:=nL ["found","due","name"]
theorem mG:fN ug ["found","due"] (e_ kL):=pA
abbrev zm:=nL ["desk","store","patch","file","count"]
theorem k8:fN zm ["desk","store","patch","file"] (e_ oO):=pA
abbrev Nf:=nL ["script","desk","first","stores","patches","files","k","name","way"]
theorem oR:fN Nf ["script"] (e_ FK):=pA
structure Txt(mg:Qqx):Prop where
 q0:mg "len"=none
 qA:mg "range"=none
 Ng:mg "max"=none
 sL:mg "isinstance"=none
 uh:mg "list"=none
 Nh:mg "str"=none
 wC:mg "reversed"=none
 A8:mg "sorted"=none
 Ni:mg "set"=none
 A9:mg "enumerate"=none
 HW:mg "ValueError"=none
structure Ad where
 xM:Addr
 xN:FuncData
 zo:Addr
 zp:FuncData
 zq:Addr
 zr:FuncData
 FN:Addr
 FO:FuncData
 lC:Addr
 pj:FuncData
 kP:Addr
 nG:FuncData
 nH:Addr
 nI:FuncData
 lM:Addr
 lN:FuncData
 pQ:Addr
 pR:FuncData
 uQ:Addr
 uR:FuncData
 nJ:Addr
 nK:FuncData
 ma:Addr
 me:FuncData
 nM:Addr
 nN:FuncData
 A_:Addr
 Ba:FuncData
 uS:Addr
 uT:FuncData
 sM:Addr
 sN:FuncData
 Bb:Addr
 Bc:FuncData
 kQ:Addr
 nO:FuncData
 nP:Addr
 nQ:FuncData
 lO:Addr
 lP:FuncData
 sO:Addr
 sP:FuncData
 q8:Addr
 q9:FuncData
 uU:Addr
 uV:FuncData
 nR:Addr
 nS:FuncData
 lD:Addr
 pk:FuncData
 sQ:Addr
 sR:FuncData
 q_:Addr
 ra:FuncData
 pS:Addr
 pT:FuncData
 wD:Addr
 wF:FuncData
 rb:Addr
 rg:FuncData
 sS:Addr
 sT:FuncData
 Cr:Addr
 Cs:FuncData
 mH:Addr
 mI:FuncData
 pq:Addr
 pw:FuncData
 mf:Addr
 mi:FuncData
 nU:Addr
 nV:FuncData
 uW:Addr
 uX:FuncData
 pU:Addr
 pV:FuncData
 uY:Addr
 uZ:FuncData
 nX:Addr
 nY:FuncData
 sU:Addr
 sV:FuncData
 fT:Addr
 fR:Addr
 fY:Addr
 fI:Addr
 iK:Addr
 i3:Addr
 fE:Addr
 iP:Addr
 jn:Addr
 pW:Addr
 lS:Tok
 kj:Tok
 z:Unit
structure Ok(K:Qqy)(mg:Qqx)(A:Ad):Prop where
 pX:DF K mg "counts_with" mT A.xM A.xN ["text","new","below"]
 rL:DF K mg "most_pairs" oG A.zo A.zp ["old","new"]
 rM:DF K mg "place_from" oH A.zq A.zr ["texts","text","start"]
 kept:DF K mg "kept" Cq A.FN A.FO ["old","new"]
 rh:DM K A.fT "__init__" "Line.__init__" ly A.lC A.pj ["self","name","text","upper_name","lower_name"]
 pY:DM K A.fR "__init__" "Patch.__init__" kF A.kP A.nG ["self","name","file","puts","cuts","other"]
 pZ:DF K mg "lines_named_by" jM A.nH A.nI ["patch"]
 mJ:DF K mg "leans_straight_on" jd A.lM A.lN ["patch"]
 sW:DF K mg "live_patches" l5 A.pQ A.pR ["patches"]
 ui:DF K mg "lines_put" pM A.uQ A.uR ["patches","file"]
 mj:DF K mg "standing_lines" jN A.nJ A.nK ["patches","file"]
 nZ:DF K mg "files_with_lines" iV A.ma A.me ["patches"]
 p0:DF K mg "straight_ahead" kG A.nM A.nN ["lines"]
 joined:DF K mg "joined" wq A.A_ A.Ba ["names","ahead"]
 yq:DF K mg "all_ahead" mD A.uS A.uT ["lines"]
 wG:DF K mg "first_free" oI A.sM A.sN ["waiting"]
 FP:DF K mg "row_of" sG A.Bb A.Bc ["lines","ahead"]
 p7:DM K A.fY "__init__" "Sight.__init__" kI A.kQ A.nO ["self","patches","file"]
 p8:DM K A.fY "is_ahead" "Sight.is_ahead" kJ A.nP A.nQ ["self","first","second"]
 kl:DM K A.fY "quarrelling" "Sight.quarrelling" jT A.lO A.lP ["self"]
 rN:DF K mg "check_name" oJ A.sO A.sP ["name"]
 u0:DF K mg "kept_behind" mU A.q8 A.q9 ["kept_names","size"]
 yr:DF K mg "new_lines" pN A.uU A.uV ["patch","texts","kept_names"]
 p9:DF K mg "changing_patch" jl A.nR A.nS ["patch","file","row","texts"]
 rj:DM K A.fI "__init__" "Desk.__init__" lA A.lD A.pk ["self"]
 kR:DM K A.fI "begin" "Desk.begin" oK A.sQ A.sR ["self","store"]
 p_:DM K A.fI "stores" "Desk.stores" mV A.q_ A.ra ["self"]
 oS:DM K A.fI "patches" "Desk.patches" l6 A.pS A.pT ["self"]
 Be:DM K A.fI "has" "Desk.has" oM A.wD A.wF ["self","store"]
 lj:DM K A.fI "record" "Desk.record" k7 A.rb A.rg ["self","store","patch","file","texts"]
 rO:DM K A.fI "files" "Desk.files" oN A.sS A.sT ["self","store"]
 Nj:DM K A.fI "row" "Desk.row" wu A.Cr A.Cs ["self","store","file"]
 lE:DM K A.fI "patches_of" "Desk.patches_of" jz A.mH A.mI ["self","store"]
 rm:DM K A.fI "sight_of" "Desk.sight_of" lB A.pq A.pw ["self","store","file"]
 kS:DM K A.fI "check_store" "Desk.check_store" j0 A.mf A.mi ["self","store"]
 qa:DM K A.fI "check_new" "Desk.check_new" kK A.nU A.nV ["self","patch","files"]
 yt:DM K A.fI "keep" "Desk.keep" pO A.uW A.uX ["self","store","patch"]
 jO:DF K mg "_law_cell_at" l7 A.pU A.pV ["script","k"]
 qB:DF K mg "_law_name" pP A.uY A.uZ ["cell","k"]
 ko:DF K mg "_law_names_are" kL A.nX A.nY ["found","due"]
 wH:DF K mg "_law_taken" oO A.sU A.sV ["desk","store","patch","file"]
 ij:Ax K A.fT
 KU:Mk K A.fT A.lC
 KW:mg "Line"=some (.ref A.fT)
 fV:ji K A.fT "name"
 jr:ji K A.fT "text"
 gZ:ji K A.fT "upper_name"
 g0:ji K A.fT "lower_name"
 ir:Ax K A.fR
 HX:Mk K A.fR A.kP
 HY:mg "Patch"=some (.ref A.fR)
 h_:ji K A.fR "name"
 iO:ji K A.fR "file"
 ja:ji K A.fR "puts"
 jb:ji K A.fR "cuts"
 ie:ji K A.fR "other"
 jZ:Ax K A.fY
 HZ:Mk K A.fY A.kQ
 H_:mg "Sight"=some (.ref A.fY)
 iW:ji K A.fY "ahead"
 g6:ji K A.fY "lines"
 g7:Ax K A.fI
 KY:Mk K A.fI A.lD
 KZ:mg "Desk"=some (.ref A.fI)
 iu:ji K A.fI "made"
 jc:ji K A.fI "needs"
 ig:ji K A.fI "held"
 Ia:Exc K mg "PatchError" A.iK
 yu:Exc K mg "BadName" A.i3
 mL:Exc K mg "NameTaken" A.fE
 D8:Exc K mg "NoStore" A.iP
 Bf:Exc K mg "Unsettled" A.jn
 K0:Exc K mg "Same" A.pW
 zt:mg "NAME_SIGNS"=some (.str (Str.ofString "abcdefghijklmnopqrstuvwxyz0123456789") A.lS)
 qb:mg "LONGEST_NAME"=some (.int 12 A.kj)
 Jl:QZ K A.fE
 iL:W.kitOne K (.ref A.fE) (.ref A.iK)=some true
 jf:W.kitOne K (.ref A.fE) (.ref A.i3)=some false
 iX:W.kitOne K (.ref A.fE) (.ref A.fE)=some true
 jg:W.kitOne K (.ref A.fE) (.ref A.iP)=some false
 iY:W.kitOne K (.ref A.fE) (.ref A.jn)=some false
 jP:W.kitOne K (.ref A.fE) (.ref A.pW)=some false
 zu:W.kitOne K (.ref A.fE) (.type "ValueError")=some true
 mO:Cd K A.fE A.iK=true
 jQ:Cd K A.fE A.fE=true
 z:True
end
open PySem L2 PM
noncomputable def nk(n:Nm):List Key:=[Sum.inr n.1,Sum.inl (n.2:Int)]
theorem mW{a b:Nm}(h:nk a=nk b):a=b:=by
 unfold nk at h
 injection h with h1 h2
 injection h2 with h2 _
 exact Prod.ext (acm h1) (by have:=Sum.inl.inj h2;omega)
noncomputable abbrev nT(n:Nm):HO:=.tup ((nk n).map kV)
def kq(H:Hp)(v:V)(n:Nm):Prop:=∃t,v=.ref t/\H t=some (nT n)
def Ct(H:Hp)(v:V):Option Nm->Prop
 | none=>v=.iQ
 | some n=>kq H v n
def Pu(v:V):Option Str->Prop
 | none=>v=.iQ
 | some x=>v=.str x
noncomputable def Ib(a b c d:V):List (Str×V):=[("name",a),("text",b),("upper_name",c),("lower_name",d)]
theorem iH{a b c d:V}:(Ib a b c d).lookup ("name":Str)=some a:=by kernel_rfl
theorem Bg{a b c d:V}:(Ib a b c d).lookup ("text":Str)=some b:=by kernel_rfl
theorem Cu{a b c d:V}:(Ib a b c d).lookup ("upper_name":Str)=some c:=by kernel_rfl
theorem Cv{a b c d:V}:(Ib a b c d).lookup ("lower_name":Str)=some d:=by kernel_rfl
noncomputable def Ic(a b c d e:V):List (Str×V):=[("name",a),("file",b),("puts",c),("cuts",d),("other",e)]
theorem qc{a b c d e:V}:(Ic a b c d e).lookup ("name":Str)=some a:=by kernel_rfl
theorem wI{a b c d e:V}:(Ic a b c d e).lookup ("file":Str)=some b:=by kernel_rfl
theorem Bh{a b c d e:V}:(Ic a b c d e).lookup ("puts":Str)=some c:=by kernel_rfl
theorem Bi{a b c d e:V}:(Ic a b c d e).lookup ("cuts":Str)=some d:=by kernel_rfl
theorem qC{a b c d e:V}:(Ic a b c d e).lookup ("other":Str)=some e:=by kernel_rfl
def lF(A:Ad)(H:Hp)(a:Addr)(l:Ln):Prop:=∃dx vn vu vl,H a=some (.ins A.fT dx (Ib vn (.str l.tx) vu vl))/\kq H vn l.nm/\Ct H vu l.up/\Ct H vl l.lo
def oT(A:Ad)(H:Hp)(a:Addr)(ls:List Ln):Prop:=∃as:List Addr,H a=some (.lst (as.map V.ref))/\Paired (lF A H) as ls
def wJ(H:Hp)(a:Addr)(ns:List Nm):Prop:=∃vs,H a=some (.lst vs)/\Paired (kq H) vs ns
def n4(A:Ad)(H:Hp)(a:Addr)(p:Pt):Prop:=∃dx vf pu cu vo,H a=some (.ins A.fR dx (Ic (.str p.nm) vf (.ref pu) (.ref cu) vo))/\Pu vf p.file/\oT A H pu p.gW/\wJ H cu p.iU/\Pu vo p.other
def uj(A:Ad)(H:Hp)(a:Addr)(ps:List Pt):Prop:=∃as:List Addr,H a=some (.lst (as.map V.ref))/\Paired (n4 A H) as ps
section
variable{A:Ad}{H H':Hp}{a:Addr}
theorem kq.same{v:V}{n:Nm}(x:kq H v n)(s:fG H H'):kq H' v n:=by obtain⟨t,e,h⟩:=x;exact⟨t,e,s _ _ h⟩
theorem Ct.same{v:V}{o:Option Nm}(x:Ct H v o)(s:fG H H'):Ct H' v o:=by
 cases o with
 | none=>exact x
 | some n=>exact kq.same x s
theorem lF.same{l:Ln}(x:lF A H a l)(s:fG H H'):lF A H' a l:=by
 obtain⟨dx,vn,vu,vl,h,h1,h2,h3⟩:=x
 exact⟨dx,vn,vu,vl,s _ _ h,h1.same s,h2.same s,h3.same s⟩
theorem oT.same{ls:List Ln}(x:oT A H a ls)(s:fG H H'):oT A H' a ls:=by
 obtain⟨as,h,p⟩:=x
 exact⟨as,s _ _ h,Paired.j5 p λ_ _ z=>z.same s⟩
theorem wJ.same{ns:List Nm}(x:wJ H a ns)(s:fG H H'):wJ H' a ns:=by
 obtain⟨vs,h,p⟩:=x
 exact⟨vs,s _ _ h,Paired.j5 p λ_ _ z=>z.same s⟩
theorem n4.same{p:Pt}(x:n4 A H a p)(s:fG H H'):n4 A H' a p:=by
 obtain⟨dx,vf,pu,cu,vo,h,h1,h2,h3,h4⟩:=x
 exact⟨dx,vf,pu,cu,vo,s _ _ h,h1,h2.same s,h3.same s,h4⟩
theorem uj.same{ps:List Pt}(x:uj A H a ps)(s:fG H H'):uj A H' a ps:=by
 obtain⟨as,h,p⟩:=x
 exact⟨as,s _ _ h,Paired.j5 p λ_ _ z=>z.same s⟩
end
theorem g8{Z Y:Type}{F:Z->Y->Prop}{xs:List Z}{ys:List Y}(p:Paired F xs ys):∀{i:Nat} {x:Z},xs[i]?=some x->∃y,ys[i]?=some y/\F x y:=by
 induction p with
 | nil=>intro i x h;simp at h
 | cons f t ih=>
  intro i x h
  cases i with
  | zero=>simp at h;subst h;exact⟨_,rfl,f⟩
  | succ i=>simpa using ih (by simpa using h)
theorem lq{Z Y:Type}{F:Z->Y->Prop}{xs:List Z}{ys:List Y}(p:Paired F xs ys):∀{i:Nat} {y:Y},ys[i]?=some y->∃x,xs[i]?=some x/\F x y:=by
 induction p with
 | nil=>intro i x h;simp at h
 | cons f t ih=>
  intro i x h
  cases i with
  | zero=>simp at h;subst h;exact⟨_,rfl,f⟩
  | succ i=>simpa using ih (by simpa using h)
theorem rP{Z Y:Type}{F:Z->Y->Prop}{xs zs:List Z}{ys ws:List Y}(p:Paired F xs ys)(q:Paired F zs ws):Paired F (xs++zs) (ys++ws):=by
 induction p with
 | nil=>exact q
 | cons f t ih=>exact .cons f ih
theorem hV{Z Y:Type}{F:Z->Y->Prop}{xs:List Z}{ys:List Y}{x:Z}{y:Y}(p:Paired F xs ys)(h:F x y):Paired F (xs++[x]) (ys++[y]):=rP p (.cons h .nil)
theorem wK{Z Y:Type}{F:Z->Y->Prop}{xs:List Z}{ys:List Y}(p:Paired F xs ys):Paired F xs.reverse ys.reverse:=by
 induction p with
 | nil=>exact .nil
 | cons f t ih=>rw[acd,acd];exact hV ih f
theorem js{as:List Addr}{i:Nat}{v:V}(h:(as.map V.ref)[i]?=some v):∃b,as[i]?=some b/\v=.ref b:=by
 rw[W3] at h
 obtain⟨b,e,rfl⟩:=Option.map_eq_some_iff.mp h
 exact⟨b,e,rfl⟩
theorem Pu.eq{v:V}{o:Option Str}(h:Pu v o)(f:Str):decide (v=.str f)=decide (o=some f):=by
 cases o with
 | none=>rw[show v=.iQ from h,aaa (λz=>by cases z),aaa (λz=>by cases z)]
 | some x=>
  rw[show v=.str x from h]
  by_cases e:x=f
  ·subst e;rw[Ug rfl,Ug rfl]
  ·rw[aaa (λz=>e (V.str.inj z)),aaa (λz=>e (aaf z))]
theorem Mb{Z:Type}{xs:List Z}{x:Z}{i:Nat}(h:xs.length<=i:=by assumption):(xs++[x]).length<=i+1:=by rw[RX];exact Nat.succ_le_succ h
def xB(n:Nat):Prop:=n<=4000
theorem xB.sz{n:Nat}(h:xB n):n<=sizeLine:=aag h (by decide)
section
variable{P:Program}{w:World}{K:Qqy}{mg:Qqx}{base:Heap}{A:Ad}
def K1(A:Ad):Sp:=λvs H Q _=>∃(a:Addr)(ps:List Pt),vs=[.ref a]/\uj A H a ps/\xB ps.length/\∀p H',fG H H'->H p=none->uj A H' p (live ps)->Q (.ref p) H'
def Tb(kvs:List (Key×V))(t:List Str):Prop:=∀x,(hZ kvs (Sum.inr x)).isSome=decide (x∈t)
theorem Tb.put{kvs:List (Key×V)}{t:List Str}(h:Tb kvs t)(y:Str)(v:V):Tb (putK kvs (Sum.inr y) v) (y::t):=λx=>by
 rw[jt]
 by_cases e:x=y
 ·subst e;rw[aah rfl,Ug aae];rfl
 ·rw[aab (λz=>e (acm z)),h x]
  by_cases m:x∈t
  ·rw[Ug m,Ug (Uk _ m)]
  ·rw[aaa m,aaa (λz=>(RT.mp z).elim e m)]
theorem Cw(p:Pt)(r:List Pt)(t:List Str):lJ (p::r) t=if p.nm∈t then lJ r t else p::lJ r (match p.other with|some o=>o::t|none=>t):=rfl
theorem vb(T:Txt mg)(O:Ok K mg A):gS P w K mg base lR 1 A.pQ A.pR ["patches"] (K1 A):=by
 refine O.sW.f.qW jY λjm A0 outer s H vs Q E hr h=>?_
 obtain⟨a,ps,rfl,⟨as,ha,pa⟩,lU,q⟩:=h
 have hlen:=aaj pa
 refine⟨_,(de (nA 1 jY lX)
   (de (nA 2 jY (jq eV))
   (de (ip aat rfl (HD rfl T.wC (b_ (pv 0) eV)) (vv 3 jY) (d_ (iw (iR (nu (by exact iB hr) (fS (pv 3) rfl) (pv 1))) (de (gY (lI aap aaw aax iA (pv 2) (b_ (pv 3) eV)))
   (d_ (iw (iR (j6 (fS (pv 3) rfl))) (d_ (i4 (by exact iB hr) (pv 1) (fS (pv 3) rfl) lH rfl)) gQ))) gQ)))
   (d_ (f_ (Ce rfl (by rfl) T.uh (by rfl) T.wC (b_ (pv 2) eV))))))),?_⟩
 refine L9 ?_;intro _ _ _
 intro t ht
 have s1:fG H (upd H t (.dK [])):=(fG.refl H).new ht
 refine⟨L2.lU,λl hl=>?_⟩
 have s2:fG H (upd (upd H t (.dK [])) l (.lst [])):=s1.new hl
 have Mm:t≠l:=λz=>by rw[z] at hl;rw[a_] at hl;cases hl
 refine⟨_,rfl,a,_,rfl,gP.of (s2 a _ ha),HE (K:=K) (a:=a) (xs:=as.map V.ref) (λi Z H2=>∃(v:Option V)(kvs:List (Key×V))(tb:List Str)(ls:List Addr)(lp:List Pt),Z=[rr a,rr t,rr l,v]/\fG H H2/\H2 t=some (.dK kvs)/\Tb kvs tb/\kvs.length<=i/\H2 l=some (.lst (ls.map V.ref))/\ls.length<=i/\Paired (n4 A H) ls lp/\lp++lJ (ps.reverse.drop i) tb=lJ ps.reverse [])
  ⟨none,[],[],[],[],rfl,s2,by rw[c_ Mm];exact a_,(λx=>rfl),Q2 _,a_,Q2 _,.nil,rfl⟩ (by rintro _ _ _ _ ⟨_,_,_,_,_,_,s3,_⟩;exact gP.of (s3 a _ ha)) ?_ ?_⟩
 ·rintro i v Z H2 hx ⟨v0,kvs,tb,ls,lp,rfl,s3,h1,h2,h3,h4,h5,h6,h7⟩
  rw[<-List.map_reverse] at hx
  obtain⟨b,hb,rfl⟩:=js hx
  obtain⟨p,hp,dx,vf,pu,cu,vo,g1,g2,g3,g4,g5⟩:=g8 (wK pa) hb
  have hi:i<ps.reverse.length:=(List.getElem?_eq_some_iff.mp hp).1
  have zT:i<4000:=by rw[abc] at hi;exact aal hi lU
  have hd:ps.reverse.drop i=p::ps.reverse.drop (i+1):=by rw[aa_ hi];congr 1;exact(List.getElem?_eq_some_iff.mp hp).2
  rw[hd] at h7
  refine⟨_,rfl,b,A.fR,dx,_,_,rfl,s3 _ _ g1,O.ir,O.h_,qc,_,rfl,t,_,rfl,i_.k (k:=Sum.inr p.nm) h1,_,rfl,?_⟩
  rw[h2 p.nm]
  rw[Cw] at h7
  by_cases hm:p.nm∈tb
  ·rw[aah hm] at h7
   rw[Ug hm]
   exact lY ⟨_,kvs,tb,ls,lp,rfl,s3,h1,h2,by omega,h4,by omega,h6,h7⟩
  ·rw[aab hm] at h7
   rw[aaa hm]
   refine nv ?_
   refine⟨_,rfl,.inl ⟨rfl,_,gP.of h4⟩,_,rfl,l,_,_,rfl,rfl,h4,by rw[Ou];exact abo h5 (Nat.lt_trans zT (by decide)),?_⟩
   have RY:H l=none:=s1.free hl
   have s4:fG H (upd H2 l (.lst (ls.map V.ref++[V.ref b]))):=s3.upd RY
   have IJ:upd H2 l (.lst (ls.map V.ref++[V.ref b])) t=some (.dK kvs):=by rw[c_ Mm];exact h1
   have e4:upd H2 l (.lst (ls.map V.ref++[V.ref b])) l=some (.lst ((ls++[b]).map V.ref)):=by rw[a_,aai];rfl
   have pp:Paired (n4 A H) (ls++[b]) (lp++[p]):=hV h6 ⟨dx,vf,pu,cu,vo,g1,g2,g3,g4,g5⟩
   have UM:(ls++[b]).length<=i+1:=Mb
   refine⟨_,rfl,b,A.fR,dx,_,_,rfl,s4 _ _ g1,O.ir,O.ie,qC,_,rfl,?_⟩
   cases ho:p.other with
   | none=>
    rw[ho] at g5 h7
    rw[show vo=V.iQ from g5]
    exact⟨_,kvs,tb,_,_,rfl,s4,IJ,h2,by omega,e4,UM,pp,by rw[aaY];exact h7⟩
   | some x=>
    rw[ho] at g5 h7
    rw[show vo=V.str x from g5] at g1 ⊢
    refine⟨_,rfl,_,rfl,b,A.fR,dx,_,_,rfl,s4 _ _ g1,O.ir,O.ie,qC,t,_,rfl,lW.k (k:=Sum.inr x) IJ (abo h3 (Nat.lt_trans zT (by decide))),?_⟩
    have UN:=iN kvs (Sum.inr x:Key) (V.bl true)
    have XO:H t=none:=ht
    exact⟨_,_,x::tb,_,_,rfl,s4.upd XO,a_,h2.put x _,by omega,by rw[c_ Mm.symm];exact e4,UM,pp,by rw[aaY];exact h7⟩
 ·rintro Z H2 ⟨v0,kvs,tb,ls,lp,rfl,s3,h1,h2,h3,h4,h5,h6,h7⟩
  rw[Ou] at h3 h5 h7
  rw[hlen,<-abc,List.drop_length] at h7
  have h7:lp=lJ ps.reverse []:=by rw[show lJ [] tb=[] from rfl,aaB] at h7;exact h7
  refine⟨_,rfl,l,_,rfl,gP.of h4,λp hp=>?_⟩
  have s4:=s3.new (o:=.lst (ls.map V.ref).reverse) hp
  refine q p _ s4 (s3.free hp) ⟨ls.reverse,by rw[a_,List.map_reverse],?_⟩
  unfold live
  rw[<-h7]
  exact Paired.j5 (wK h6) λ_ _ z=>z.same s4
theorem qd{Z Y:Type}{f:Z->List Y}{ps qs:List Z}(h:ps.Sublist qs):(ps.flatMap f).Sublist (qs.flatMap f):=by
 induction h with
 | slnil=>exact aaL _
 | cons x _ ih=>rw[aav];exact ih.trans (List.sublist_append_right _ _)
 | cons_cons x _ ih=>rw[aav,aav];exact(aaL _).append ih
structure Small(ps:List Pt):Prop where
 many:xB ps.length
 gW:xB (ps.flatMap (·.gW)).length
 iU:xB (ps.flatMap (·.iU)).length
theorem Small.sub{ps qs:List Pt}(h:ps.Sublist qs)(s:Small qs):Small ps:=⟨aag h.length_le s.many,aag (qd h).length_le s.gW,aag (qd h).length_le s.iU⟩
theorem oU(ps:List Pt)(f:Str):(fA ps f).length<=(ps.flatMap (·.gW)).length:=(qd aaP).length_le
theorem xO(ps:List Pt)(p:Pt)(f:Str):fA (ps++[p]) f=fA ps f++if p.file=some f then p.gW else[]:=by
 unfold fA
 rw[aay,aaR]
 by_cases h:p.file=some f
 ·rw[aah h,W5 (by simpa using h),aaW,aav,abq,aaB]
 ·rw[aab h,YI (by simpa using h),aaW,abq]
theorem take_snoc{Z:Type}{xs:List Z}{i:Nat}{x:Z}(h:xs[i]?=some x):xs.take (i+1)=xs.take i++[x]:=by rw[List.take_add_one,h];rfl
def Mc(kvs:List (List Key×V))(ns:List Nm):Prop:=∀n,(hZ kvs (nk n)).isSome=decide (n∈ns)
theorem Mc.put{kvs:List (List Key×V)}{ns:List Nm}(h:Mc kvs ns)(y:Nm)(v:V):Mc (putK kvs (nk y) v) (ns++[y]):=λx=>by
 rw[jt]
 by_cases e:x=y
 ·subst e;rw[aah rfl,Ug (by simp)];rfl
 ·rw[aab (λz=>e (mW z)),h x]
  by_cases m:x∈ns
  ·rw[Ug m,Ug (aad _ m)]
  ·rw[aaa m,aaa (λz=>(Ue.mp z).elim m λz=>e (Oy.mp z))]
def Nk(A:Ad):Sp:=λvs H Q _=>∃(a:Addr)(ps:List Pt)(f:Str),vs=[.ref a,.str f]/\uj A H a ps/\Small ps/\∀p H',fG H H'->H p=none->oT A H' p (fA ps f)->Q (.ref p) H'
theorem sX(T:Txt mg)(O:Ok K mg A):gS P w K mg base lR 1 A.uQ A.uR ["patches","file"] (Nk A):=by
 refine O.ui.f.qW oP λjm A0 outer s H vs Q E hr h=>?_
 obtain⟨a,ps,f,rfl,⟨as,ha,pa⟩,sm,q⟩:=h
 have hlen:=aaj pa
 refine⟨_,(de (nA 2 oP (jq eV))
   (de (ip aat rfl (ib (pv 0)) (vv 3 oP) (d_ (iw (jo uF (fS (pv 3) rfl) (pv 1) (jS _)) (d_ (gY (lI aap PySem.F.slot_list_extend PySem.F.type_list_extend yb (pv 2) (b_ (fS (pv 3) rfl) eV)))) gQ)))
   (d_ (f_ (pv 2))))),?_⟩
 refine Cb ?_;intro _ _
 refine⟨L2.lU,λl hl=>?_⟩
 have s1:fG H (upd H l (.lst [])):=(fG.refl H).new hl
 dsimp only [nj];refine Kz ?_;intro _
 let Jv:=λ(i:Nat) (Z:St) (H2:Hp)=>∃(v:Option V)(ls:List Addr),Z=[rr a,rs f,rr l,v]/\fG H H2/\H2 l=some (.lst (ls.map V.ref))/\Paired (lF A H) ls (fA (ps.take i) f)
 refine⟨_,rfl,a,rfl,⟨_,gP.of (s1 a _ ha)⟩,jh (K:=K) (a:=a) (xs:=as.map V.ref) Jv
  ⟨none,[],rfl,s1,a_,.nil⟩ (by rintro _ _ _ _ ⟨_,_,_,s3,_⟩;exact gP.of (s3 a _ ha)) ?_ ?_⟩
 ·rintro i v Z H2 hx ⟨v0,ls,rfl,s3,h4,h6⟩
  obtain⟨b,hb,rfl⟩:=js hx
  obtain⟨p,hp,dx,vf,pu,cu,vo,g1,g2,⟨XQ,g3,OA⟩,g4,g5⟩:=g8 pa hb
  have e:fA (ps.take (i+1)) f=fA (ps.take i) f++if p.file=some f then p.gW else[]:=by rw[take_snoc hp,xO]
  refine⟨_,rfl,b,A.fR,dx,_,_,rfl,s3 _ _ g1,O.ir,O.iO,wI,_,rfl,?_⟩
  have hf:J_ vf (V.str f)=true:=by
   cases hq:p.file with
   | none=>rw[hq] at g2;rw[show vf=V.iQ from g2];rfl
   | some x=>rw[hq] at g2;rw[show vf=V.str x from g2];rfl
  refine⟨hf,_,rfl,?_⟩
  rw[g2.eq f]
  by_cases hm:p.file=some f
  ·rw[aah hm] at e
   rw[Ug hm]
   refine nv ?_
   refine⟨_,rfl,.inl ⟨rfl,_,gP.of h4⟩,_,rfl,b,A.fR,dx,_,_,rfl,s3 _ _ g1,O.ir,O.ja,Bh,l,pu,_,_,rfl,rfl,h4,s3 _ _ g3,?_,?_⟩
   ·rw[Ou,Ou,aaj h6,aaj OA,<-RX,<-e]
    exact aag (oU _ f) (Small.sub (ab8 _ _) sm).gW.sz
   ·refine⟨_,ls++XQ,rfl,s3.upd hl,by rw[a_,aai],?_⟩
    rw[e]
    exact rP h6 OA
  ·rw[aab hm,aaB] at e
   rw[aaa hm]
   exact lY ⟨_,ls,rfl,s3,h4,by rw[e];exact h6⟩
 ·rintro Z H2 ⟨v0,ls,rfl,s3,h4,h6⟩
  rw[Ou,hlen,aaq] at h6
  exact⟨_,rfl,q l _ s3 hl ⟨ls,h4,Paired.j5 h6 λ_ _ z=>z.same s3⟩⟩
theorem D_(ps:List Pt)(p:Pt):gone (ps++[p])=gone ps++p.iU:=by
 unfold gone
 rw[aaR,aav,abq,aaB]
def Ie(A:Ad):Sp:=λvs H Q _=>∃(a:Addr)(ps:List Pt)(f:Str),vs=[.ref a,.str f]/\uj A H a ps/\Small ps/\∀p H',fG H H'->H p=none->oT A H' p (ik ps f)->Q (.ref p) H'
theorem mQ(T:Txt mg)(O:Ok K mg A):gS P w K mg base lR 2 A.nJ A.nK ["patches","file"] (Ie A):=by
 have xf:=@vb P w K mg base A T O
 have qo:=@sX P w K mg base A T O
 refine O.mj.f.qW iE λjm A0 outer s H vs Q E hr h=>?_
 obtain⟨a,ps,f,rfl,pa,sm,q⟩:=h
 refine⟨_,(de (nA 2 iE (sy O.sW xf hr (b_ (pv 0) eV)))
   (de (mR (i:=3) iE.nd rfl (Or.inr rfl) lb)
   (de (ip aat rfl (ib (pv 2)) (vv 4 iE) (d_ (ip aat rfl (ib (fS (pv 4) rfl)) (vv 5 iE) (d_ (i4 (by exact iB hr) (pv 3) (pv 5) lH rfl)))))
   (d_ (f_ (vS nF (e_ jN).names [6] rfl (ib (sy O.ui qo hr (b_ (pv 2) (b_ (pv 1) eV)))) rfl (by decide+kernel) (λ_ _ _ _=>(iI (i:=6) iE.nd rfl (Or.inl rfl))) (λ_ _ _ _=>⟨_,oq (iR (nu (by exact iB hr) (fS (pv 6) rfl) (pv 3))),by(try simp only [j9]);rfl⟩) (λ_ _ _ _=>EB (pv 6)))))))),?_⟩
 refine L9 ?_;intro _ _ _
 refine⟨_,rfl,a,ps,rfl,pa,sm.many,λl H1 s1 Mn xW=>?_⟩
 have RZ:Small (live ps):=sm.sub (sA ps)
 obtain⟨as,ha,pl⟩:=id xW
 have hlen:=aaj pl
 intro g hg
 have s2:fG H1 (upd H1 g (.dT [])):=(fG.refl H1).new hg
 dsimp only [nj];refine Kz ?_;intro _
 let Jv:=λ(i:Nat) (Z:St) (H2:Hp)=>∃(v4 v5:Option V)(kvs:List (List Key×V)),Z=[rr a,rs f,rr l,rr g,v4,v5,none]/\fG H1 H2/\H2 g=some (.dT kvs)/\Mc kvs (gone ((live ps).take i))/\kvs.length<=(gone ((live ps).take i)).length
 refine⟨_,rfl,l,rfl,⟨_,gP.of (s2 l _ ha)⟩,jh (K:=K) (a:=l) (xs:=as.map V.ref) Jv
  ⟨none,none,[],rfl,s2,a_,(λx=>rfl),Q2 _⟩ (by rintro _ _ _ _ ⟨_,_,_,_,s3,_⟩;exact gP.of (s3 l _ ha)) ?_ ?_⟩
 ·rintro i v Z H2 hx ⟨v4,v5,kvs,rfl,s3,h1,h2,h3⟩
  obtain⟨b,hb,rfl⟩:=js hx
  obtain⟨p,hp,dx,vf,pu,cu,vo,g1,g2,g3,⟨cs,g4,Mo⟩,g5⟩:=g8 pl hb
  have e:gone ((live ps).take (i+1))=gone ((live ps).take i)++p.iU:=by rw[take_snoc hp,D_]
  have hsz:(gone ((live ps).take i)++p.iU).length<=4000:=by rw[<-e];exact(RZ.sub (ab8 _ _)).iU
  rw[RX] at hsz
  have JF:=aaj Mo
  let Jv:=λ(j:Nat) (Z:St) (H3:Hp)=>∃(v5:Option V)(kvs:List (List Key×V)),Z=[rr a,rs f,rr l,rr g,rr b,v5,none]/\fG H1 H3/\H3 g=some (.dT kvs)/\Mc kvs (gone ((live ps).take i)++p.iU.take j)/\kvs.length<=(gone ((live ps).take i)).length+j
  refine⟨_,rfl,b,A.fR,dx,_,_,rfl,s3 _ _ g1,O.ir,O.jb,Bi,cu,rfl,⟨_,gP.of (s3 _ _ g4)⟩,jh (K:=K) (a:=cu) (xs:=cs) Jv
   ⟨v5,kvs,rfl,s3,h1,by rw[abJ,aaB];exact h2,by omega⟩ (by rintro _ _ _ _ ⟨_,_,_,s4,_⟩;exact gP.of (s4 cu _ g4)) ?_ ?_⟩
  ·rintro j v Z H3 hx ⟨v5,kvs,rfl,s4,h1,h2,h3⟩
   obtain⟨n,hn,t,rfl,ht⟩:=g8 Mo hx
   have hj:j<cs.length:=(List.getElem?_eq_some_iff.mp hx).1
   refine⟨_,rfl,_,rfl,g,_,rfl,lW.t (k:=nk n) h1 (s4 _ _ ht) (abo (m:=4000) (by omega) (by decide)),?_⟩
   have UN:=iN kvs (nk n) (V.bl true)
   refine⟨_,_,rfl,s4.upd hg,a_,?_,by omega⟩
   rw[take_snoc hn,<-aaY]
   exact h2.put n _
  ·rintro Z H3 ⟨v5,kvs,rfl,s4,h1,h2,h3⟩
   rw[JF,aaq] at h2
   rw[JF] at h3
   exact⟨_,v5,kvs,rfl,s4,h1,by rw[e];exact h2,by rw[e,RX];exact h3⟩
 ·rintro Z H2 ⟨v4,v5,kvs,rfl,s3,h1,h2,h3⟩
  rw[Ou,hlen,aaq] at h2
  refine⟨_,rfl,_,rfl,l,live ps,f,rfl,xW.same s3,RZ,λp H3 s4 BR ⟨R1,UO,UP⟩=>?_⟩
  have UQ:R1.length=(fA (live ps) f).length:=aaj UP
  have hbound:R1.length<=4000:=by rw[UQ];exact aag (oU _ _) RZ.gW
  refine⟨p,rfl,⟨_,gP.of UO⟩,kZ (K:=K) (a:=p) (xs:=R1.map V.ref) (by rw[Ou];exact aag hbound (by decide)) (λi ys Z H4=>∃(v6:Option V)(ls:List Addr),Z=[rr a,rs f,rr l,rr g,v4,v5,v6]/\H4=H3/\ys=ls.map V.ref/\ls.length<=i/\Paired (lF A H3) ls (((fA (live ps) f).take i).filter λl=>l.nm∉gone (live ps)))
   ⟨none,[],rfl,rfl,rfl,Q2 _,.nil⟩ (by rintro _ _ _ _ _ ⟨_,ls,_,e,e2,e3,_⟩;subst e e2;exact⟨gP.of UO,by rw[Ou];exact e3⟩) ?_ ?_⟩
  ·rintro i v ys Z H4 hx ⟨v6,ls,rfl,rfl,rfl,e3,h6⟩
   obtain⟨b,hb,rfl⟩:=js hx
   obtain⟨ln,vd,dx,vn,vu,vl,k1,⟨t,rfl,k2⟩,k3,k4⟩:=g8 UP hb
   refine⟨_,rfl,b,A.fT,dx,_,_,rfl,k1,O.ij,O.fV,iH,_,rfl,g,_,rfl,i_.t (k:=nk ln.nm) (s4 _ _ h1) k2,_,rfl,?_⟩
   rw[h2 ln.nm,take_snoc vd,aay]
   by_cases hm:ln.nm∈gone (live ps)
   ·rw[Ug hm]
    refine lY ⟨_,ls,rfl,rfl,rfl,by omega,?_⟩
    rw[YI (by simpa using hm),aaW,aaB]
    exact h6
   ·rw[aaa hm]
    refine nv ⟨_,rfl,_,ls++[b],rfl,rfl,by rw[aai];rfl,Mb,?_⟩
    rw[W5 (by simpa using hm),aaW]
    exact hV h6 ⟨dx,.ref t,vu,vl,k1,⟨t,rfl,k2⟩,k3,k4⟩
  ·rintro ys Z H4 ⟨v6,ls,rfl,rfl,rfl,e3,h6⟩ p2 zS
   rw[Ou,UQ,aaq] at h6
   have s5:=((s1.trans s3).trans s4).new (o:=.lst (ls.map V.ref)) zS
   refine q p2 _ s5 (((s1.trans s3).trans s4).free zS) ⟨ls,a_,?_⟩
   exact Paired.j5 h6 λ_ _ z=>z.same ((fG.refl H4).new zS)
theorem n5{Z:Type}[DecidableEq Z](kvs:List (Z×V))(k:Z)(v:V):(putK kvs k v).map (·.1)=if k∈kvs.map (·.1) then kvs.map (·.1) else kvs.map (·.1)++[k]:=by
 unfold putK
 by_cases h:k∈kvs.map (·.1)
 ·have h':(kvs.any λkv=>decide (kv.1=k))=true:=by
   obtain⟨p,hp,e⟩:=aak.mp h
   exact List.any_eq_true.mpr ⟨p,hp,Ug e⟩
  rw[aah h',aah h,List.map_map]
  refine abU λp _=>?_
  show(if p.1=k then(p.1,v) else p).1=p.1
  split<;>rfl
 ·have h':¬(kvs.any λkv=>decide (kv.1=k))=true:=λz=>by
   obtain⟨p,hp,e⟩:=List.any_eq_true.mp z
   exact h (aak.mpr ⟨p,hp,aaz e⟩)
  rw[aab h',aab h,aai]
  rfl
theorem qD{Z:Type}[DecidableEq Z]{kvs:List (Z×V)}{k:Z}:(hZ kvs k).isSome=true↔k∈kvs.map (·.1):=by
 induction kvs with
 | nil=>exact⟨(λz=>by cases z),(λz=>by cases z)⟩
 | cons p r ih=>
  by_cases e:p.1=k
  ·rw[iG e,aam,e];exact⟨λ_=>aae,λ_=>rfl⟩
  ·rw[ix e,ih,aam]
   exact⟨λm=>Uk _ m,λz=>(RT.mp z).elim (λz=>absurd z.symm e) id⟩
theorem Bj{Z:Type}[DecidableEq Z]{kvs:List (Z×V)}{k:Z}(h:k∉kvs.map (·.1)):hZ kvs k=none:=by
 cases e:hZ kvs k with
 | none=>rfl
 | some v=>exact absurd (qD.mp (by rw[e];rfl)) h
theorem qf{n:Nm}{l:List Nm}:nk n∈l.map nk↔n∈l:=by
 constructor
 ·intro h
  obtain⟨m,hm,e⟩:=aak.mp h
  rw[<-mW e];exact hm
 ·exact λh=>Q3 h
def xP(H:Hp)(a:Addr)(l:List Nm):Prop:=∃dk,H a=some (.dT dk)/\dk.map (·.1)=l.map nk
def mq(l:List Nm)(m:Nm):List Nm:=if m∈l then l else l++[m]
theorem qg{l:List Nm}{m x:Nm}:x∈mq l m↔x∈l\/x=m:=by
 unfold mq
 split
 ·rename_i h
  exact⟨.inl,λz=>z.elim id λz=>z▸h⟩
 ·simp
theorem vA{l:List Nm}{m:Nm}(h:l.Nodup):(mq l m).Nodup:=by
 unfold mq
 split
 ·exact h
 ·rename_i hm
  rw[aaV]
  exact⟨h,by simp,λa ha b hb z=>hm (by rw[Oy.mp hb] at z;exact z▸ha)⟩
theorem Bk{l:List Nm}{m:Nm}:(mq l m).length<=l.length+1:=by
 unfold mq
 split
 ·omega
 ·rw[RX];exact Q2 _
theorem sY{dk:List (List Key×V)}{l:List Nm}(h:dk.map (·.1)=l.map nk)(m:Nm)(v:V):(putK dk (nk m) v).map (·.1)=(mq l m).map nk:=by
 rw[n5,h]
 unfold mq
 by_cases e:m∈l
 ·rw[aah (qf.mpr e),aah e]
 ·rw[aab (λz=>e (qf.mp z)),aab e,aai];rfl
noncomputable def zk(ns:List Nm)(ds:List Addr):List (List Key×V):=List.zipWith (λn d=>(nk n,V.ref d)) ns ds
theorem Dd:∀{ns:List Nm} {ds:List Addr} (n:Nm) (d:Addr),ns.length=ds.length->zk (ns++[n]) (ds++[d])=zk ns ds++[(nk n,V.ref d)]
 | [],[],_,_,_=>rfl
 | [],_::_,_,_,h=>by simp at h
 | _::_,[],_,_,h=>by simp at h
 | x::r,y::t,n,d,h=>by
  show(nk x,V.ref y)::zk (r++[n]) (t++[d])=_
  rw[Dd n d (by simpa using h)]
  rfl
theorem zv:∀{ns:List Nm} {ds:List Addr},ns.length=ds.length->(zk ns ds).map (·.1)=ns.map nk
 | [],[],_=>rfl
 | [],_::_,h=>by simp at h
 | _::_,[],h=>by simp at h
 | x::r,y::t,h=>by
  show nk x::(zk r t).map (·.1)=nk x::r.map nk
  rw[zv (by simpa using h)]
noncomputable def qM:List Nm->List Addr->Nm->Addr
 | x::r,d::t,n=>if x=n then d else qM r t n
 | _,_,_=>0
theorem FQ:∀{ns:List Nm} {ds:List Addr} {n:Nm},ns.length=ds.length->n∈ns->hZ (zk ns ds) (nk n)=some (.ref (qM ns ds n))
 | [],_,_,_,hn=>by cases hn
 | _::_,[],_,h,_=>by simp at h
 | x::r,y::t,n,h,hn=>by
  show hZ ((nk x,V.ref y)::zk r t) (nk n)=some (.ref (if x=n then y else qM r t n))
  by_cases e:x=n
  ·subst e
   rw[iG rfl,aah rfl]
  ·have hr:n∈r:=(RT.mp hn).elim (λz=>absurd z.symm e) id
   rw[ix (λz=>e (mW z)),FQ (by simpa using h) hr,aab e]
theorem zw:∀{ns:List Nm} {ds:List Addr} {n:Nm},ns.length=ds.length->n∈ns->qM ns ds n∈ds
 | [],_,_,_,hn=>by cases hn
 | _::_,[],_,h,_=>by simp at h
 | x::r,y::t,n,h,hn=>by
  show(if x=n then y else qM r t n)∈y::t
  by_cases e:x=n
  ·rw[aah e];exact aae
  ·rw[aab e]
   exact Uk _ (zw (by simpa using h) ((RT.mp hn).elim (λz=>absurd z.symm e) id))
theorem FR:∀{ns:List Nm} {ds:List Addr} {n m:Nm},ns.length=ds.length->ds.Nodup->n∈ns->m∈ns->qM ns ds n=qM ns ds m->n=m
 | [],_,_,_,_,_,hn,_,_=>by cases hn
 | _::_,[],_,_,h,_,_,_,_=>by simp at h
 | x::r,y::t,n,m,h,nd,hn,hm,e=>by
  have hl:r.length=t.length:=by simpa using h
  rw[aaM] at nd
  have e:(if x=n then y else qM r t n)=(if x=m then y else qM r t m):=e
  by_cases e1:x=n
  ·by_cases e2:x=m
   ·exact e1.symm.trans e2
   ·rw[aah e1,aab e2] at e
    exact absurd (e▸zw hl ((RT.mp hm).elim (λz=>absurd z.symm e2) id)) nd.1
  ·have Mg:=(RT.mp hn).elim (λz=>absurd z.symm e1) id
   by_cases e2:x=m
   ·rw[aab e1,aah e2] at e
    exact absurd (e▸zw hl Mg) nd.1
   ·rw[aab e1,aab e2] at e
    exact FR hl nd.2 Mg ((RT.mp hm).elim (λz=>absurd z.symm e2) id) e
structure Q5(H:Hp)(p:Addr)(ns:List Nm)(ad:Nm->Addr)(sf:Nm->List Nm):Prop where
 at_:∃kvs,H p=some (.dT kvs)/\(∀n∈ns,hZ kvs (nk n)=some (.ref (ad n)))/\kvs.map (·.1)=ns.map nk
 inj:∀n∈ns,∀m∈ns,ad n=ad m->n=m
 ks:∀n∈ns,xP H (ad n) (sf n)
theorem Ig{ls:List Ln}{l:Ln}{m n:Nm}:Sa (ls++[l]) m n↔Sa ls m n\/(l.nm=n/\l.up=some m)\/(l.nm=m/\l.lo=some n):=by
 unfold Sa
 constructor
 ·rintro⟨x,hx,q⟩
  rcases Ue.mp hx with h|h
  ·exact .inl ⟨x,h,q⟩
  ·rw[Oy.mp h] at q;exact .inr q
 ·rintro(⟨x,hx,q⟩|q)
  ·exact⟨x,aad _ hx,q⟩
  ·exact⟨l,by simp,q⟩
def Nl(A:Ad):Sp:=λvs H Q _=>∃(a:Addr)(ls:List Ln),vs=[.ref a]/\oT A H a ls/\xB ls.length/\(ls.map (·.nm)).Nodup/\oB ls/\
 ∀p H' ad sf,fG H H'->H p=none->(∀n∈ls.map (·.nm),H (ad n)=none)->Q5 H' p (ls.map (·.nm)) ad sf->(∀n,(sf n).Nodup/\∀m,m∈sf n↔Sa ls m n)->Q (.ref p) H'
theorem sZ(T:Txt mg)(O:Ok K mg A):gS P w K mg base lR 1 A.nM A.nN ["lines"] (Nl A):=by
 refine O.p0.f.qW jB λjm A0 outer s H vs Q E hr h=>?_
 obtain⟨a,ls,rfl,⟨as,ha,pa⟩,lU,nd,cl,q⟩:=h
 have hlen:=aaj pa
 refine⟨_,(de (nA 1 jB lb)
   (de (ip aat rfl (ib (pv 0)) (vv 2 jB) (d_ (i4 (by exact iB hr) (pv 1) (fS (pv 2) rfl) lb rfl)))
   (de (ip aat rfl (ib (pv 0)) (vv 2 jB) (de (y8 (iw (iR (j6 (fS (pv 2) rfl))) (d_ (i4 (by exact iB hr) (BO hr (pv 1) (fS (pv 2) rfl)) (fS (pv 2) rfl) lH rfl)) gQ))
   (d_ (iw (iR (j6 (fS (pv 2) rfl))) (d_ (i4 (by exact iB hr) (BO hr (pv 1) (fS (pv 2) rfl)) (fS (pv 2) rfl) lH rfl)) gQ))))
   (d_ (f_ (pv 1)))))),?_⟩
 refine L9 ?_;intro _ _ _
 intro p hp
 have s1:fG H (upd H p (.dT [])):=(fG.refl H).new hp
 dsimp only [nj];refine Kz ?_;intro _
 let Jv:=λ(i:Nat) (Z:St) (H2:Hp)=>∃(v:Option V)(ds:List Addr),Z=[rr a,rr p,v]/\fG H H2/\H2 p=some (.dT (zk ((ls.take i).map (·.nm)) ds))/\ds.length=((ls.take i).map (·.nm)).length/\ds.Nodup/\(∀d∈ds,H d=none/\d≠p/\H2 d=some (.dT []))
 refine⟨_,rfl,a,rfl,⟨_,gP.of (s1 a _ ha)⟩,jh (K:=K) (a:=a) (xs:=as.map V.ref) Jv
  ⟨none,[],rfl,s1,a_,rfl,aa8,λd hd=>by cases hd⟩ (by rintro _ _ _ _ ⟨_,_,_,s3,_⟩;exact gP.of (s3 a _ ha)) ?_ ?_⟩
 ·rintro i v Z H2 hx ⟨v0,ds,rfl,s3,h1,h2,h3,h4⟩
  obtain⟨b,hb,rfl⟩:=js hx
  obtain⟨l,hl,dx,vn,vu,vl,g1,⟨t,rfl,g2⟩,g3,g4⟩:=g8 pa hb
  have hi:i<ls.length:=(List.getElem?_eq_some_iff.mp hl).1
  intro d hd
  have s4:fG H (upd H2 d (.dT [])):=s3.new hd
  have R3:d≠p:=λz=>by rw[z,h1] at hd;cases hd
  have He:d∉ds:=λz=>by rw[(h4 d z).2.2] at hd;cases hd
  have IJ:upd H2 d (.dT []) p=some (.dT (zk ((ls.take i).map (·.nm)) ds)):=by rw[c_ R3.symm];exact h1
  have xg:l.nm∉(ls.take i).map (·.nm):=λz=>by
   have e2:(ls.map (·.nm)).take i=(ls.take i).map (·.nm):=List.map_take.symm
   rw[<-e2] at z
   obtain⟨j,hj,e⟩:=aaK.mp z |>.imp λj h=>(⟨(List.getElem?_eq_some_iff.mp h).1,h⟩:j<((ls.map (·.nm)).take i).length/\((ls.map (·.nm)).take i)[j]?=some l.nm)
   have IP:j<i:=by rw[aaE] at hj;omega
   rw[List.getElem?_take,aah IP] at e
   have e3:(ls.map (·.nm))[i]?=some l.nm:=by rw[W3,hl];rfl
   have:=(List.getElem?_inj (List.getElem?_eq_some_iff.mp e).1 nd).mp (e.trans e3.symm)
   omega
  refine⟨_,rfl,_,rfl,b,A.fT,dx,_,_,rfl,s4 _ _ g1,O.ij,O.fV,iH,p,_,rfl,lW.t (k:=nk l.nm) IJ (s4 _ _ g2) ?_,?_⟩
  ·have:(zk ((ls.take i).map (·.nm)) ds).length<=ds.length:=by unfold zk;rw[List.length_zipWith];exact Nat.min_le_right _ _
   rw[h2,Ou,aaE] at this
   exact abo (m:=4000) (by have:xB ls.length:=lU;unfold xB at this;omega) (by decide)
  ·have e:putK (zk ((ls.take i).map (·.nm)) ds) (nk l.nm) (V.ref d)=zk ((ls.take (i+1)).map (·.nm)) (ds++[d]):=by
    rw[take_snoc hl,aai]
    show _=zk (_++[l.nm]) _
    rw[Dd _ _ h2.symm]
    refine AF _ ?_
    exact Bj (by rw[zv h2.symm];exact λz=>xg (qf.mp z))
   rw[e]
   refine⟨_,ds++[d],rfl,s4.upd hp,a_,?_,?_,?_⟩
   ·rw[take_snoc hl,aai,RX,RX,h2];rfl
   ·rw[aaV]
    exact⟨h3,by simp,λx hx y hy z=>He (by rw[Oy.mp hy] at z;exact z▸hx)⟩
   ·intro x hx
    rcases Ue.mp hx with hx|hx
    ·obtain⟨k1,k2,k3⟩:=h4 x hx
     refine⟨k1,k2,?_⟩
     rw[c_ k2,c_ (λz=>by rw[z] at hx;exact He hx)]
     exact k3
    ·rw[Oy.mp hx]
     exact⟨s3.free hd,R3,by rw[c_ R3];exact a_⟩
 ·rintro Z H2 ⟨v0,ds,rfl,s3,h1,h2,h3,h4⟩
  have el:(as.map V.ref).length=ls.length:=by rw[Ou];exact hlen
  rw[el,aaq] at h1 h2
  have P1:=h2.symm
  have xX:∀n∈ls.map (·.nm),hZ (zk (ls.map (·.nm)) ds) (nk n)=some (.ref (qM (ls.map (·.nm)) ds n)):=λn hn=>FQ P1 hn
  have IQ:∀n∈ls.map (·.nm),∀m∈ls.map (·.nm),qM (ls.map (·.nm)) ds n=qM (ls.map (·.nm)) ds m->n=m:=λn hn m hm e=>FR P1 h3 hn hm e
  have u1:∀n∈ls.map (·.nm),H (qM (ls.map (·.nm)) ds n)=none/\qM (ls.map (·.nm)) ds n≠p/\H2 (qM (ls.map (·.nm)) ds n)=some (.dT []):=λn hn=>h4 _ (zw P1 hn)
  generalize qM (ls.map (·.nm)) ds=ad at xX IQ u1
  have JG:=zv P1
  generalize zk (ls.map (·.nm)) ds=kvs at h1 xX JG
  dsimp only [nj];refine Kz ?_;intro _
  let Jv:=λ(i:Nat) (Z:St) (H3:Hp)=>∃(v:Option V)(sf:Nm->List Nm),Z=[rr a,rr p,v]/\fG H H3/\H3 p=some (.dT kvs)/\(∀n∈ls.map (·.nm),xP H3 (ad n) (sf n))/\∀n,(sf n).Nodup/\(sf n).length<=2*i/\∀m,m∈sf n↔Sa (ls.take i) m n
  refine⟨_,rfl,a,rfl,⟨_,gP.of (s3 a _ ha)⟩,jh (K:=K) (a:=a) (xs:=as.map V.ref) Jv
   ⟨v0,λ_=>[],rfl,s3,h1,λn hn=>⟨[],(u1 n hn).2.2,rfl⟩,λn=>⟨aa8,aaD _,λm=>⟨(λz=>by cases z),λ⟨x,hx,_⟩=>by rw[abJ] at hx;cases hx⟩⟩⟩ (by rintro _ _ _ _ ⟨_,_,_,s3,_⟩;exact gP.of (s3 a _ ha)) ?_ ?_⟩
  ·rintro i v Z H3 hx ⟨v1,sf,rfl,s4,k1,k2,k3⟩
   obtain⟨b,hb,rfl⟩:=js hx
   obtain⟨l,hl,dx,vn,vu,vl,g1,⟨t,rfl,g2⟩,g3,g4⟩:=g8 pa hb
   have hi:i<ls.length:=(List.getElem?_eq_some_iff.mp hl).1
   have hi4:i<4000:=aal hi lU
   have vd:l.nm∈ls.map (·.nm):=Q3 (Um hl)
   have step:∀{H3:Hp} {sf:Nm->List Nm} {n m:Nm},fG H H3->H3 p=some (.dT kvs)->(∀n∈ls.map (·.nm),xP H3 (ad n) (sf n))->n∈ls.map (·.nm)->∀dk,H3 (ad n)=some (.dT dk)->dk.map (·.1)=(sf n).map nk->
     fG H (upd H3 (ad n) (.dT (putK dk (nk m) (V.bl true))))/\upd H3 (ad n) (.dT (putK dk (nk m) (V.bl true))) p=some (.dT kvs)/\(∀x∈ls.map (·.nm),xP (upd H3 (ad n) (.dT (putK dk (nk m) (V.bl true)))) (ad x) (if x=n then mq (sf n) m else sf x)):=λ{H3 sf n m} s4 k1 k2 hn dk hdk OB=>by
    refine⟨s4.upd (u1 n hn).1,by rw[c_ (u1 n hn).2.1.symm];exact k1,λx hx=>?_⟩
    by_cases e:x=n
    ·subst e
     rw[aah rfl]
     exact⟨_,a_,sY OB m _⟩
    ·rw[aab e]
     obtain⟨LL,e1,e2⟩:=k2 x hx
     exact⟨LL,by rw[c_ (λz=>e (IQ x hx n hn z))];exact e1,e2⟩
   have P2:∀m n,Sa (ls.take (i+1)) m n↔Sa (ls.take i) m n\/(l.nm=n/\l.up=some m)\/(l.nm=m/\l.lo=some n):=λm n=>by rw[take_snoc hl];exact Ig
   refine⟨λZ H4=>∃sf:Nm->List Nm,Z=[rr a,rr p,rr b]/\fG H H4/\H4 p=some (.dT kvs)/\(∀n∈ls.map (·.nm),xP H4 (ad n) (sf n))/\∀n,(sf n).Nodup/\(sf n).length<=2*i+1/\∀m,m∈sf n↔Sa (ls.take i) m n\/(l.nm=n/\l.up=some m),?_,?_⟩
   ·refine⟨_,rfl,b,A.fT,dx,_,_,rfl,s4 _ _ g1,O.ij,O.gZ,Cu,_,rfl,?_⟩
    cases hu:l.up with
    | none=>
     rw[hu] at g3
     rw[show vu=V.iQ from g3]
     exact⟨sf,rfl,s4,k1,k2,λn=>⟨(k3 n).1,by have:=(k3 n).2.1;omega,λm=>by rw[(k3 n).2.2 m];exact⟨.inl,λz=>z.elim id λz=>by cases z.2⟩⟩⟩
    | some u=>
     rw[hu] at g3
     obtain⟨tu,rfl,gu⟩:=(show kq H vu u from g3)
     obtain⟨dk,e1,e2⟩:=k2 l.nm vd
     have P4:dk.length=(sf l.nm).length:=by have:=aaT List.length e2;rwa [Ou,Ou] at this
     refine⟨_,rfl,_,rfl,b,A.fT,dx,_,_,rfl,s4 _ _ g1,O.ij,O.fV,iH,p,.ref (ad l.nm),rfl,?_,_,rfl,b,A.fT,dx,_,_,rfl,s4 _ _ g1,O.ij,O.gZ,Cu,ad l.nm,_,rfl,lW.t (k:=nk u) e1 (s4 _ _ gu) (abo (m:=8000) (by have:=(k3 l.nm).2.1;omega) (by decide)),?_⟩
     ·have:=i_.t (k:=nk l.nm) k1 (s4 _ _ g2)
      rw[xX _ vd] at this
      exact this
     ·obtain⟨z1,z2,z3⟩:=step (m:=u) s4 k1 k2 vd dk e1 e2
      refine⟨λx=>if x=l.nm then mq (sf l.nm) u else sf x,rfl,z1,z2,z3,λn=>?_⟩
      obtain⟨y1,y2,y3⟩:=k3 n
      show(if n=l.nm then mq (sf l.nm) u else sf n).Nodup/\(if n=l.nm then mq (sf l.nm) u else sf n).length<=_/\∀m,m∈(if n=l.nm then mq (sf l.nm) u else sf n)↔_
      by_cases e:n=l.nm
      ·subst e
       rw[aah rfl]
       have:=Bk (l:=sf l.nm) (m:=u)
       refine⟨vA y1,by omega,λm=>?_⟩
       rw[qg,y3 m]
       exact⟨λz=>z.elim .inl λz=>.inr ⟨rfl,by rw[z]⟩,λz=>z.elim .inl λz=>.inr (aaf z.2).symm⟩
      ·rw[aab e]
       refine⟨y1,by omega,λm=>?_⟩
       rw[y3 m]
       exact⟨.inl,λz=>z.elim id λz=>absurd z.1.symm e⟩
   ·rintro Z H4 ⟨Dv,rfl,s5,k4,k5,k6⟩
    have fin:∀(LM:Nm->List Nm)(n:Nm),((LM n).Nodup/\(LM n).length<=2*i+2/\∀m,m∈LM n↔(Sa (ls.take i) m n\/(l.nm=n/\l.up=some m))\/(l.nm=m/\l.lo=some n))->(LM n).Nodup/\(LM n).length<=2*(i+1)/\∀m,m∈LM n↔Sa (ls.take (i+1)) m n:=λLM n ⟨z1,z2,z3⟩=>
     ⟨z1,by omega,λm=>by rw[z3 m,P2 m n,or_assoc]⟩
    refine⟨_,rfl,b,A.fT,dx,_,_,rfl,s5 _ _ g1,O.ij,O.g0,Cv,_,rfl,?_⟩
    cases hu:l.lo with
    | none=>
     rw[hu] at g4
     rw[show vl=V.iQ from g4]
     refine⟨_,Dv,rfl,s5,k4,k5,λn=>fin Dv n ⟨(k6 n).1,by have:=(k6 n).2.1;omega,λm=>?_⟩⟩
     rw[(k6 n).2.2 m,hu]
     exact⟨.inl,λz=>z.elim id λz=>by cases z.2⟩
    | some d=>
     have He:d∈ls.map (·.nm):=(cl l (Um hl)).2 d hu
     rw[hu] at g4
     obtain⟨td,rfl,gd⟩:=(show kq H vl d from g4)
     obtain⟨dk,e1,e2⟩:=k5 d He
     have P4:dk.length=(Dv d).length:=by have:=aaT List.length e2;rwa [Ou,Ou] at this
     refine⟨_,rfl,_,rfl,b,A.fT,dx,_,_,rfl,s5 _ _ g1,O.ij,O.g0,Cv,p,.ref (ad d),rfl,?_,_,rfl,b,A.fT,dx,_,_,rfl,s5 _ _ g1,O.ij,O.fV,iH,ad d,_,rfl,lW.t (k:=nk l.nm) e1 (s5 _ _ g2) (abo (m:=8001) (by have:=(k6 d).2.1;omega) (by decide)),?_⟩
     ·have:=i_.t (k:=nk d) k4 (s5 _ _ gd)
      rw[xX _ He] at this
      exact this
     ·obtain⟨z1,z2,z3⟩:=step (m:=l.nm) s5 k4 k5 He dk e1 e2
      refine⟨_,λx=>if x=d then mq (Dv d) l.nm else Dv x,rfl,z1,z2,z3,λn=>fin (λx=>if x=d then mq (Dv d) l.nm else Dv x) n ?_⟩
      obtain⟨y1,y2,y3⟩:=k6 n
      show(if n=d then mq (Dv d) l.nm else Dv n).Nodup/\(if n=d then mq (Dv d) l.nm else Dv n).length<=_/\∀m,m∈(if n=d then mq (Dv d) l.nm else Dv n)↔_
      by_cases e:n=d
      ·subst e
       rw[aah rfl]
       have:=Bk (l:=Dv n) (m:=l.nm)
       refine⟨vA y1,by omega,λm=>?_⟩
       rw[qg,y3 m,hu]
       exact⟨λz=>z.elim .inl λz=>.inr ⟨z.symm,rfl⟩,λz=>z.elim .inl λz=>.inr z.1.symm⟩
      ·rw[aab e]
       refine⟨y1,by omega,λm=>?_⟩
       rw[y3 m,hu]
       exact⟨.inl,λz=>z.elim id λz=>absurd (aaf z.2).symm e⟩
  ·rintro Z H3 ⟨v1,sf,rfl,s4,k1,k2,k3⟩
   rw[Ou,hlen] at k3
   exact⟨_,rfl,q p _ ad sf s4 hp (λn hn=>(u1 n hn).1) ⟨⟨kvs,k1,xX,JG⟩,IQ,k2⟩ λn=>⟨(k3 n).1,λm=>by rw[(k3 n).2.2 m,aaq]⟩⟩
theorem kq.upd{H:Hp}{v:V}{n:Nm}{x:Addr}{o o':HO}(h:kq H v n)(hx:H x=some o')(ht:∀xs,o'≠.tup xs):kq (L2.upd H x o) v n:=by
 obtain⟨t,e,RU⟩:=h
 exact⟨t,e,by rw[c_ (iz RU hx (λz=>ht _ z.symm))];exact RU⟩
theorem qh{dk:List (List Key×V)}{l:List Nm}(h:dk.map (·.1)=l.map nk):dk.length=l.length:=by
 have:=aaT List.length h
 rwa [Ou,Ou] at this
theorem Bl{dk:List (List Key×V)}{l:List Nm}(h:dk.map (·.1)=l.map nk){i:Nat}{k:List Key}{v:V}(hi:dk[i]?=some (k,v)):∃n,l[i]?=some n/\k=nk n:=by
 have h1:(dk.map (·.1))[i]?=some k:=by rw[W3,hi];rfl
 rw[h,W3] at h1
 obtain⟨n,e,e2⟩:=Option.map_eq_some_iff.mp h1
 exact⟨n,e,e2.symm⟩
theorem keys_has{dk:List (List Key×V)}{l:List Nm}(h:dk.map (·.1)=l.map nk)(n:Nm):(hZ dk (nk n)).isSome=decide (n∈l):=by
 by_cases m:n∈l
 ·rw[Ug m];exact qD.mpr (by rw[h];exact qf.mpr m)
 ·rw[aaa m,abv];exact λz=>m (qf.mp (by rw[<-h];exact qD.mp z))
theorem Bm:∀(more:List (List Key×V))(dk:List (List Key×V))(l r:List Nm),dk.map (·.1)=l.map nk->more.map (·.1)=r.map nk->l.Nodup->∃l':List Nm,(putAll dk more).map (·.1)=l'.map nk/\l'.Nodup/\∀m,m∈l'↔m∈l\/m∈r
 | [],dk,l,r,h1,h2,nd=>by
  have:r=[]:=by cases r with|nil=>rfl|cons _ _=>cases h2
  subst this
  exact⟨l,h1,nd,λm=>by simp⟩
 | p::t,dk,l,r,h1,h2,nd=>by
  cases r with
  | nil=>cases h2
  | cons x r=>
   rw[aam,aam] at h2
   injection h2 with e1 e2
   rw[pJ,e1]
   obtain⟨l',z1,z2,z3⟩:=Bm t (putK dk (nk x) p.2) (mq l x) r (sY h1 x _) e2 (vA nd)
   refine⟨l',z1,z2,λm=>?_⟩
   rw[z3 m,qg,RT,or_assoc]
def K2:Sp:=λvs H Q _=>∃(d a:Addr)(xs:List Nm)(ka:List (List Key×V))(af:Nm->List Nm),vs=[.ref d,.ref a]/\xP H d xs/\d≠a/\H a=some (.dT ka)/\(∀x∈xs,∃b,hZ ka (nk x)=some (.ref b)/\b≠d/\xP H b (af x))/\xs.length<=4000/\(∀x∈xs,(af x).length<=4000)/\
 ∀p H' rs,fG H H'->H p=none->xP H' p rs->rs.Nodup->(∀m,m∈rs↔∃x∈xs,m=x\/m∈af x)->Q (.ref p) H'
theorem Ea(T:Txt mg)(O:Ok K mg A):gS P w K mg base lR 1 A.A_ A.Ba ["names","ahead"] K2:=by
 refine O.joined.f.qW ua λjm A0 outer s H vs Q E hr h=>?_
 obtain⟨d,a,xs,ka,af,rfl,⟨kd,hd,hk⟩,XR,ha,hb,hx4,XS,q⟩:=h
 refine⟨_,(de (nA 2 ua lb)
   (de (y6 (ip aat rfl (wc (pv 0)) (vv 3 ua) (de (i4 (by exact iB hr) (pv 2) (pv 3) lH rfl)
   (d_ (gY (Fw (by exact iB hr) (pv 2) (BO hr (pv 1) (pv 3)) ⟨rfl,rfl,rfl,rfl⟩))))))
   (d_ (f_ (pv 2))))),?_⟩
 refine Cb ?_;intro _ _
 intro p hp
 have OC:p≠d:=(fz hd hp).symm
 have OD:p≠a:=(fz ha hp).symm
 refine⟨_,rfl,d,kd,rfl,by rw[c_ OC.symm];exact hd,λo uz=>?_⟩
 have JH:=qh hk
 let Jv:=λ(i:Nat) (Z:St) (H2:Hp)=>∃(v:Option V)(kf:List (List Key×V))(rs:List Nm),Z=[rr d,rr a,rr p,v]/\(∀b o,H b=some o->b≠d->H2 b=some o)/\H2 d=some (.mw o (.dT kd))/\H2 p=some (.dT kf)/\kf.map (·.1)=rs.map nk/\rs.Nodup/\kf.length<=i*4001/\∀m,m∈rs↔∃x∈xs.take i,m=x\/m∈af x
 refine yn (d:=d) (o:=o) (kvs:=kd) Jv
  ⟨none,[],[],rfl,λb o e nb=>by rw[c_ nb,c_ (fz e hp)];exact e,a_,by rw[c_ OC];exact a_,rfl,aa8,by simp,λm=>by simp⟩ (by rintro _ _ _ ⟨_,_,_,_,_,e,_⟩;exact e) ?_ ?_
 ·rintro i k v t Z H2 hi ht ⟨v0,kf,rs,rfl,h1,h2,h3,h4,h5,h6,h7⟩
  obtain⟨x,hx,rfl⟩:=Bl hk hi
  have UR:x∈xs:=Um hx
  have zT:i<xs.length:=(List.getElem?_eq_some_iff.mp hx).1
  obtain⟨b,e1,e2,kb,e3,e4⟩:=hb x UR
  have US:b≠p:=fz e3 hp
  have JD:=qh e4
  have hb4:=XS x UR
  have XT:t≠p:=λz=>by rw[z,h3] at ht;cases ht
  have hl:=iN kf (nk x) (V.bl true)
  have sz:sizeLine=16777216:=aaC
  have hmul:i*4001<=4000*4001:=Nat.mul_le_mul_right _ (by omega)
  refine⟨_,rfl,_,rfl,p,_,rfl,lW.t (k:=nk x) h3 ht (by omega),?_⟩
  have n9:putK kf (nk x) (V.bl true)≠[]:=λz=>by
   have:=sY h4 x (V.bl true)
   rw[z] at this
   have hm:x∈mq rs x:=qg.mpr (.inr rfl)
   cases hq:mq rs x with
   | nil=>rw[hq] at hm;cases hm
   | cons _ _=>rw[hq] at this;cases this
  refine⟨_,rfl,p,rfl,.inr ⟨_,.inl a_⟩,_,rfl,_,rfl,a,.ref b,rfl,?_,b,_,kb,rfl,a_,.inl (by rw[c_ US];exact h1 _ _ e3 e2),US.symm,n9,by omega,?_⟩
  ·have:=i_.t (H:=L2.upd H2 p (.dT (putK kf (nk x) (V.bl true)))) (k:=nk x) (by rw[c_ OD.symm];exact h1 a _ ha XR.symm) (b:=t) (by rw[c_ XT];exact ht)
   rw[e1] at this
   exact this
  ·obtain⟨l',z1,z2,z3⟩:=Bm kb _ (mq rs x) (af x) (sY h4 x (V.bl true)) e4 (vA h5)
   refine⟨_,_,l',rfl,λb o e nb=>?_,?_,a_,z1,z2,?_,λm=>?_⟩
   ·rw[c_ (fz e hp),c_ (fz e hp)];exact h1 b o e nb
   ·rw[c_ OC.symm,c_ OC.symm];exact h2
   ·have:=oy kb (putK kf (nk x) (V.bl true))
    have:(i+1)*4001=i*4001+4001:=Nat.succ_mul _ _
    omega
   ·rw[z3 m,qg,h7 m,take_snoc hx]
    constructor
    ·rintro((⟨y,hy,z⟩|z)|z)
     ·exact⟨y,aad _ hy,z⟩
     ·exact⟨x,by simp,.inl z⟩
     ·exact⟨x,by simp,.inr z⟩
    ·rintro⟨y,hy,z⟩
     rcases Ue.mp hy with hy|hy
     ·exact .inl (.inl ⟨y,hy,z⟩)
     ·rw[Oy.mp hy] at z
      exact z.elim (λz=>.inl (.inr z)) .inr
 ·rintro Z H2 ⟨v0,kf,rs,rfl,h1,h2,h3,h4,h5,h6,h7⟩
  rw[JH,aaq] at h7
  refine⟨d,o,_,h2,uz,_,rfl,q p _ rs (λb u e=>?_) hp ⟨kf,by rw[c_ OC];exact h3,h4⟩ h5 h7⟩
  by_cases R4:b=d
  ·subst R4;rw[a_];rw[hd] at e;exact e
  ·rw[c_ R4];exact h1 b u e R4
structure mX(ls:List Ln)(H1 H:Hp)(h:Addr)(S:List Nm)(af:Nm->List Nm):Prop where
 ex:∃kvs,H h=some (.dT kvs)/\kvs.map (·.1)=S.map nk/\∀n∈S,∃b,hZ kvs (nk n)=some (.ref b)/\b≠h/\H1 b=none/\xP H b (af n)
 nd:S.Nodup
 good:∀n∈S,n∈ls.map (·.nm)/\(af n).Nodup/\∀m,m∈af n↔Ah ls m n
theorem mX.same{ls:List Ln}{H1 H H':Hp}{h:Addr}{S:List Nm}{af:Nm->List Nm}(x:mX ls H1 H h S af)(s:fG H H'):mX ls H1 H' h S af:=by
 obtain⟨⟨kvs,e1,e2,e3⟩,nd,g⟩:=x
 refine⟨⟨kvs,s _ _ e1,e2,λn hn=>?_⟩,nd,g⟩
 obtain⟨b,z1,z2,z3,dk,z4,z5⟩:=e3 n hn
 exact⟨b,z1,z2,z3,dk,s _ _ z4,z5⟩
theorem mX.lst{ls:List Ln}{H1 H:Hp}{h c:Addr}{S:List Nm}{af:Nm->List Nm}{xs:List V}{o:HO}(x:mX ls H1 H h S af)(hc:H c=some (.lst xs)):mX ls H1 (L2.upd H c o) h S af:=by
 obtain⟨⟨kvs,e1,e2,e3⟩,nd,g⟩:=x
 refine⟨⟨kvs,by rw[c_ (iz e1 hc (λz=>by cases z))];exact e1,e2,λn hn=>?_⟩,nd,g⟩
 obtain⟨b,z1,z2,z3,dk,z4,z5⟩:=e3 n hn
 exact⟨b,z1,z2,z3,dk,by rw[c_ (iz z4 hc (λz=>by cases z))];exact z4,z5⟩
theorem De{sf:Nm->List Nm}{B n:Nat}{st S:List Nm}(r:Run sf B n st S):st.length<=B:=by
 cases r with
 | nil=>exact aaD _
 | skip _ h _=>exact h
 | fin _ _ h _=>exact h
 | push _ _ h _=>exact h
theorem Bn{Z Y:Type}{F:Z->Y->Prop}{vs:List Z}{xs:List Y}{x:Y}(p:Paired F vs (xs++[x])):∃P5 v,vs=P5++[v]/\Paired F P5 xs/\F v x:=by
 induction xs generalizing vs with
 | nil=>
  cases p with
  | cons f t=>cases t;exact⟨[],_,rfl,.nil,f⟩
 | cons y r ih=>
  cases p with
  | cons f t=>
   obtain⟨P5,v,rfl,h1,h2⟩:=ih t
   exact⟨_::P5,v,rfl,.cons f h1,h2⟩
def zx(H:Hp)(p:Addr)(ls:List Ln):Prop:=∃kvs,H p=some (.dT kvs)/\∀n∈ls.map (·.nm),∃b dk,hZ kvs (nk n)=some (.ref b)/\H b=some (.dT dk)/\∀m,(hZ dk (nk m)).isSome=true↔Ah ls m n
theorem zx.same{H H':Hp}{p:Addr}{ls:List Ln}(x:zx H p ls)(s:fG H H'):zx H' p ls:=by
 obtain⟨kvs,e1,e2⟩:=x
 refine⟨kvs,s _ _ e1,λn hn=>?_⟩
 obtain⟨b,dk,z1,z2,z3⟩:=e2 n hn
 exact⟨b,dk,z1,s _ _ z2,z3⟩
def Nn(A:Ad):Sp:=λvs H Q _=>∃(a:Addr)(ls:List Ln),vs=[.ref a]/\oT A H a ls/\xB ls.length/\(ls.map (·.nm)).Nodup/\oB ls/\FC ls/\∀p H',fG H H'->H p=none->zx H' p ls->Q (.ref p) H'
theorem zy(T:Txt mg)(O:Ok K mg A):gS P w K mg base lR 2 A.uS A.uT ["lines"] (Nn A):=by
 have ux:=@sZ P w K mg base A T O
 have GN:=@Ea P w K mg base A T O
 refine O.yq.f.qW i7 λjm A0 outer s H vs Q E hr h=>?_
 obtain⟨a,ls,rfl,la,lU,nd,cl,tp,q⟩:=h
 obtain⟨as,ha,pa⟩:=id la
 have hlen:=aaj pa
 have BJ:ls.length<=4000:=lU
 refine⟨_,(de (nA 1 i7 (sy O.p0 ux hr (b_ (pv 0) eV)))
   (de (mR (i:=2) i7.nd rfl (Or.inr rfl) lb)
   (de (ip aat rfl (ib (pv 0)) (vv 3 i7) (de (nA 4 i7 (jq (b_ (fS (pv 3) rfl) eV)))
   (d_ (Av aat (sj (pv 4) (λ_=>rfl)) (de (nA 5 i7 (Kh aap PySem.F.slot_list_pop PySem.F.type_list_pop Kj (pv 4)))
   (de (iw (iR (pH (by exact iB hr) (pv 5) (pv 2))) (d_ (Au)) gQ)
   (de (y6 (y0 (j:=6) uO (e_ mD).names [7] i7.nd rfl rfl rfl (wc (BO hr (pv 1) (pv 5))) rfl (by decide+kernel) (λ_ _ _ _=>(iI (i:=7) i7.nd rfl (Or.inl rfl))) (λ_ _ _ _=>⟨_,oq (iR (nu (by exact iB hr) (pv 7) (pv 2))),by(try simp only [j9]);rfl⟩) (λ_ _ _ _=>EB (pv 7))))
   (d_ (iw (sj (pv 6) (λ_=>rfl)) (de (gY (lI aap aaw aax iA (pv 4) (b_ (pv 5) eV)))
   (d_ (gY (lI aap PySem.F.slot_list_extend PySem.F.type_list_extend yb (pv 4) (b_ (pv 6) eV))))) (d_ (i4 (by exact iB hr) (pv 2) (pv 5) (sy O.joined GN hr (b_ (BO hr (pv 1) (pv 5)) (b_ (pv 2) eV))) rfl)))))))))))
   (d_ (f_ (pv 2)))))),?_⟩
 refine L9 ?_;intro _ _ _
 refine⟨_,rfl,a,ls,rfl,la,lU,nd,cl,λst H1 ad sf s1 hst0 had0 yH LO=>?_⟩
 obtain⟨⟨kst,OE,OF,hst3⟩,IQ,OB⟩:=yH
 have hN:(1+ls.length*ls.length)<=16000001:=by have:=Nat.mul_le_mul BJ BJ;omega
 have sz:sizeLine=16777216:=aaC
 have OG:∀n,(sf n).length<=4000:=λn=>by
  have:=len_sub (ys:=ls.map (·.nm)) (LO n).1 λy hy=>(cl.sa (((LO n).2 y).mp hy)).1
  rw[Ou] at this;omega
 intro h hh
 have s2:fG H1 (L2.upd H1 h (.dT [])):=(fG.refl H1).new hh
 dsimp only [nj];refine Kz ?_;intro _
 let Jv:=λ(i:Nat) (Z:St) (H2:Hp)=>∃(v3 v4 v5 v6:Option V)(S:List Nm)(af:Nm->List Nm),Z=[rr a,rr st,rr h,v3,v4,v5,v6,none]/\fG H1 H2/\mX ls H1 H2 h S af/\∀l∈ls.take i,l.nm∈S
 refine⟨_,rfl,a,rfl,⟨_,gP.of (s2 _ _ (s1 _ _ ha))⟩,jh (K:=K) (a:=a) (xs:=as.map V.ref) Jv
  ⟨none,none,none,none,[],λ_=>[],rfl,s2,⟨⟨[],a_,rfl,λn hn=>by cases hn⟩,aa8,λn hn=>by cases hn⟩,λl hl=>by rw[abJ] at hl;cases hl⟩ (by rintro _ _ _ _ ⟨_,_,_,_,_,_,_,s3,_⟩;exact gP.of (s3 _ _ (s1 _ _ ha))) ?_ ?_⟩
 ·rintro i v Z H2 hx ⟨v3,v4,v5,v6,S0,XU,rfl,s3,D0,XW⟩
  obtain⟨b,hb,rfl⟩:=js hx
  obtain⟨l,hl,dx,vn,vu,vl,g1,⟨t0,rfl,g2⟩,g3,g4⟩:=g8 pa hb
  have vd:l.nm∈ls.map (·.nm):=Q3 (Um hl)
  refine⟨_,rfl,b,A.fT,dx,_,_,rfl,s3 _ _ (s1 _ _ g1),O.ij,O.fV,iH,L2.lU,λc hc=>?_⟩
  have R5:H1 c=none:=s3.free hc
  have s4:fG H1 (L2.upd H2 c (.lst [.ref t0])):=s3.new hc
  obtain⟨n0,r0⟩:=FD cl tp LO l.nm S0
  refine⟨λm Z H3=>∃(v5 v6:Option V)(sk S:List Nm)(af:Nm->List Nm)(cv:List V),Z=[rr a,rr st,rr h,rr b,rr c,v5,v6,none]/\Run sf (1+ls.length*ls.length) m sk S/\fG H1 H3/\H3 c=some (.lst cv)/\Paired (kq H3) cv sk.reverse/\mX ls H1 H3 h S af/\(∀y∈sk,y∈ls.map (·.nm))/\(l.nm∈sk\/l.nm∈S)/\(∀y∈S0,y∈S),
   ⟨n0,v5,v6,[l.nm],S0,XU,[.ref t0],rfl,r0,s4,a_,.cons ⟨t0,rfl,s4 _ _ (s1 _ _ g2)⟩ .nil,D0.same ((fG.refl H2).new hc),λy hy=>by rw[Oy.mp hy];exact vd,.inl (by simp),λ_ z=>z⟩,?_⟩
  rintro m Z H3 ⟨v5,v6,sk,S,af,cv,rfl,run,s5,LP,R6,D,R7,Ha,hS⟩
  cases sk with
  | nil=>
   have:cv=[]:=by cases R6;rfl
   subst this
   refine⟨_,rfl,false,.inl ⟨_,gP.of LP,rfl⟩,lY ?_⟩
   refine⟨_,_,_,_,S,af,rfl,s5,D,λy hy=>?_⟩
   rw[take_snoc hl] at hy
   rcases Ue.mp hy with hy|hy
   ·exact hS _ (XW y hy)
   ·rw[Oy.mp hy]
    exact Ha.elim (λz=>by cases z) id
  | cons x sk=>
   rw[acd] at R6
   obtain⟨EE,vx,rfl,OH,t,rfl,ht⟩:=Bn R6
   have P6:x∈ls.map (·.nm):=R7 x aae
   have OI:∀y∈sk,y∈ls.map (·.nm):=λy hy=>R7 y (Uk _ hy)
   have JF:EE.length=sk.length:=by have:=aaj OH;rwa [abc] at this
   refine⟨_,rfl,true,.inl ⟨_,gP.of LP,by simp⟩,nv ?_⟩
   obtain⟨n,hn,run'⟩:∃n,m=n+1/\(x∈S/\Run sf (1+ls.length*ls.length) n sk S\/x∉S/\AZ sf S x=[]/\Run sf (1+ls.length*ls.length) n sk (S++[x])\/x∉S/\AZ sf S x≠[]/\Run sf (1+ls.length*ls.length) n ((AZ sf S x).reverse++x::sk) S):=by
    cases run with
    | skip z1 _ z2=>exact⟨_,rfl,.inl ⟨z1,z2⟩⟩
    | fin z1 z2 _ z3=>exact⟨_,rfl,.inr (.inl ⟨z1,z2,z3⟩)⟩
    | push z1 z2 _ z3=>exact⟨_,rfl,.inr (.inr ⟨z1,z2,z3⟩)⟩
   have RD:sk.length+1<=16000001:=by have:=De run;rw[S7] at this;omega
   subst hn
   refine⟨λZ H4=>∃(v5 v6:Option V)(sk S:List Nm)(af:Nm->List Nm)(cv:List V),Z=[rr a,rr st,rr h,rr b,rr c,v5,v6,none]/\Run sf (1+ls.length*ls.length) n sk S/\fG H1 H4/\H4 c=some (.lst cv)/\Paired (kq H4) cv sk.reverse/\mX ls H1 H4 h S af/\(∀y∈sk,y∈ls.map (·.nm))/\(l.nm∈sk\/l.nm∈S)/\(∀y∈S0,y∈S),λZ' H' z=>⟨n,abE n,z⟩,?_⟩
   refine⟨_,rfl,.inl ⟨rfl,_,gP.of LP⟩,c,_,.ref t,rfl,rfl,LP,by simp,?_⟩
   rw[List.dropLast_concat]
   have D4:mX ls H1 (L2.upd H3 c (.lst EE)) h S af:=D.lst LP
   have s6:fG H1 (L2.upd H3 c (.lst EE)):=s5.upd R5
   have p4:Paired (kq (L2.upd H3 c (.lst EE))) EE sk.reverse:=Paired.j5 OH λ_ _ z=>z.upd LP (λ_ z=>by cases z)
   have Mp:L2.upd H3 c (.lst EE) t=some (nT x):=by rw[c_ (iz ht LP (λz=>by cases z))];exact ht
   have Mq:L2.upd H3 c (.lst EE) c=some (.lst EE):=a_
   generalize L2.upd H3 c (.lst EE)=H4 at D4 s6 p4 Mp Mq ⊢
   obtain⟨⟨kvs,e1,e2,e3⟩,LQ,good⟩:=id D4
   refine⟨_,rfl,_,rfl,h,_,rfl,i_.t (k:=nk x) e1 Mp,_,rfl,?_⟩
   rw[keys_has e2 x]
   rcases run' with⟨Mr,r⟩|JI
   ·rw[Ug Mr]
    refine nv ⟨_,_,sk,S,af,EE,rfl,r,s6,Mq,p4,D4,OI,?_,hS⟩
    exact Ha.elim (λz=>(RT.mp z).elim (λz=>.inr (z▸Mr)) .inl) .inr
   ·have Mr:x∉S:=JI.elim (·.1) (·.1)
    rw[aaa Mr]
    refine lY ?_
    obtain⟨dk,R8,hd2⟩:=OB x P6
    have R_:=s6 _ _ R8
    have OJ:ad x≠h:=fz R8 hh
    refine⟨_,rfl,_,rfl,st,.ref (ad x),rfl,?_,ad x,dk,rfl,R_,λo uz=>?_⟩
    ·have:=i_.t (k:=nk x) (s6 _ _ OE) Mp
     rw[OF x P6] at this
     exact this
    have Sb:∀{y:Addr} {u:HO},y≠ad x->H4 y=some u->L2.upd H4 (ad x) (.mw o (.dT dk)) y=some u:=λny e=>by rw[c_ ny];exact e
    refine Fs (d:=ad x) (o:=o) (kvs:=dk) (by rw[qh hd2];exact aag (OG x) (by decide)) (λi ys Z H5=>∃(v7:Option V),Z=[rr a,rr st,rr h,rr b,rr c,rr t,v6,v7]/\H5=L2.upd H4 (ad x) (.mw o (.dT dk))/\ys.length<=i/\Paired (kq (L2.upd H4 (ad x) (.mw o (.dT dk)))) ys (((sf x).take i).filter λy=>y∉S))
     ⟨none,rfl,rfl,Q2 _,.nil⟩ (by rintro _ _ _ _ ⟨_,_,e,e4,_⟩;subst e;exact⟨a_,e4⟩) ?_ ?_
    ·rintro i k v tb ys Z H5 hi Sd ⟨v7,rfl,rfl,e4,e5⟩
     obtain⟨y,hy,rfl⟩:=Bl hd2 hi
     refine⟨_,rfl,_,rfl,h,_,rfl,i_.t (k:=nk y) (Sb OJ.symm e1) Sd,_,rfl,?_⟩
     rw[keys_has e2 y,take_snoc hy,aay]
     by_cases hm:y∈S
     ·rw[Ug hm]
      refine lY ⟨_,rfl,rfl,by omega,?_⟩
      rw[YI (by simpa using hm),aaW,aaB]
      exact e5
     ·rw[aaa hm]
      refine nv ⟨_,rfl,_,rfl,rfl,Mb,?_⟩
      rw[W5 (by simpa using hm),aaW]
      exact hV e5 ⟨tb,rfl,Sd⟩
    ·rintro ys Z H5 ⟨v7,rfl,rfl,e4,e5⟩ p hp
     rw[qh hd2,aaq] at e5
     have OD:p≠ad x:=λz=>by rw[z,a_] at hp;cases hp
     have JJ:H4 p=none:=by rw[c_ OD] at hp;exact hp
     refine⟨ad x,o,_,by rw[c_ OD.symm];exact a_,uz,?_⟩
     rw[C7 R_ OD]
     have pm:Paired (kq H4) ys (AZ sf S x):=Paired.j5 e5 λv y ⟨tb,e,z⟩=>⟨tb,e,by
      have:tb≠ad x:=λw=>by rw[w,a_] at z;cases z
      rwa [c_ this] at z⟩
     have s7:fG H4 (L2.upd H4 p (.lst ys)):=(fG.refl H4).new JJ
     have UT:ys.length=(AZ sf S x).length:=aaj pm
     refine⟨_,rfl,!ys.isEmpty,.inl ⟨_,gP.of a_,rfl⟩,?_⟩
     rcases JI with⟨_,P7,r⟩|⟨_,P7,r⟩
     ·
      have:ys=[]:=aao.mp (by rw[UT,P7];rfl)
      subst this
      refine lY ?_
      have Eu:=zb.mp P7
      refine⟨_,rfl,_,rfl,st,.ref (ad x),rfl,?_,_,rfl,ad x,h,sf x,kvs,af,rfl,⟨dk,s7 _ _ R_,hd2⟩,OJ,s7 _ _ e1,λy hy=>?_,OG x,λy hy=>?_,λp2 H6 rs s8 zS Ob XX XY=>?_⟩
      ·have:=i_.t (k:=nk x) (s7 _ _ (s6 _ _ OE)) (s7 _ _ Mp)
       rw[OF x P6] at this
       exact this
      ·obtain⟨bb,z1,z2,z3,LL,z4,z5⟩:=e3 y (Eu y hy)
       exact⟨bb,z1,(fz R8 z3).symm,LL,s7 _ _ z4,z5⟩
      ·obtain⟨z1,z2,z3⟩:=good y (Eu y hy)
       have:=len_sub (ys:=ls.map (·.nm)) z2 λm hm=>(cl.ah ((z3 m).mp hm)).1
       rw[Ou] at this;omega
      ·have s9:=s7.trans s8
       have hSl:S.length<=4000:=by
        have:=len_sub (ys:=ls.map (·.nm)) LQ λm hm=>(good m hm).1
        rw[Ou] at this;omega
       have e6:H6 h=some (.dT kvs):=s9 _ _ e1
       refine⟨_,rfl,_,rfl,h,_,rfl,lW.t (k:=nk x) e6 (s9 _ _ Mp) (by rw[qh e2];omega),?_⟩
       have OK:p2≠h:=(fz (s7 _ _ e1) zS).symm
       have Se:H1 p2=none:=(s6.trans s7).free zS
       have key:putK kvs (nk x) (V.ref p2)=kvs++[(nk x,V.ref p2)]:=AF _ (Bj (by rw[e2];exact λz=>Mr (qf.mp z)))
       have XZ:H1 h=none:=hh
       refine⟨_,_,sk,S++[x],λy=>if y=x then rs else af y,EE,rfl,r,(s6.trans s9).upd XZ,?_,?_,⟨⟨_,a_,?_,λy hy=>?_⟩,?_,λy hy=>?_⟩,OI,?_,λy hy=>aad _ (hS y hy)⟩
       ·rw[c_ (iz (s9 _ _ Mq) e6 (λz=>by cases z))];exact s9 _ _ Mq
       ·exact Paired.j5 p4 λ_ _ z=>(z.same s9).upd e6 (λ_ z=>by cases z)
       ·rw[key,aai,e2,aai];rfl
       ·show ∃bb,hZ (putK kvs (nk x) (V.ref p2)) (nk y)=some (V.ref bb)/\bb≠h/\H1 bb=none/\xP _ bb (if y=x then rs else af y)
        rw[jt]
        by_cases e:y=x
        ·subst e
         rw[aah rfl,aah rfl]
         obtain⟨LL,w1,w2⟩:=Ob
         exact⟨p2,rfl,OK,Se,LL,by rw[c_ OK];exact w1,w2⟩
        ·rw[aab (λz=>e (mW z)),aab e]
         have X0:y∈S:=(Ue.mp hy).elim id λz=>absurd (Oy.mp z) e
         obtain⟨bb,z1,z2,z3,LL,z4,z5⟩:=e3 y X0
         exact⟨bb,z1,z2,z3,LL,by rw[c_ z2];exact s9 _ _ z4,z5⟩
       ·rw[aaV]
        exact⟨LQ,by simp,λu hu w hw z=>Mr (by rw[Oy.mp hw] at z;have z:u=x:=z;exact z▸hu)⟩
       ·show y∈ls.map (·.nm)/\(if y=x then rs else af y).Nodup/\∀m,m∈(if y=x then rs else af y)↔Ah ls m y
        by_cases e:y=x
        ·subst e
         rw[aah rfl]
         refine⟨P6,XX,λm=>?_⟩
         rw[XY m,Ah.last]
         constructor
         ·rintro⟨u,hu,z⟩
          have P2:=((LO y).2 u).mp hu
          rcases z with z|z
          ·exact .inl (z▸P2)
          ·exact .inr ⟨u,((good u (Eu u hu)).2.2 m).mp z,P2⟩
         ·rintro(z|⟨u,z1,z2⟩)
          ·exact⟨m,((LO y).2 m).mpr z,.inl rfl⟩
          ·have hu:=((LO y).2 u).mpr z2
           exact⟨u,hu,.inr (((good u (Eu u hu)).2.2 m).mpr z1)⟩
        ·rw[aab e]
         exact good y ((Ue.mp hy).elim id λz=>absurd (Oy.mp z) e)
       ·exact Ha.elim (λz=>(RT.mp z).elim (λz=>.inr (by rw[z];simp)) .inl) λz=>.inr (aad _ z)
     ·
      have X3:(!ys.isEmpty)=true:=by
       cases ys with
       | nil=>exact absurd (aao.mp UT.symm) P7
       | cons _ _=>rfl
      refine AM X3 ?_
      have GH:=De r
      rw[RX,abc,S7] at GH
      have P8:=s7 _ _ Mq
      refine⟨_,rfl,.inl ⟨rfl,_,gP.of P8⟩,_,rfl,c,_,_,rfl,rfl,P8,by omega,?_⟩
      have X4:p≠c:=(fz Mq JJ).symm
      refine⟨_,rfl,.inl ⟨rfl,_,gP.of a_⟩,_,rfl,c,p,_,_,rfl,rfl,a_,by rw[c_ X4];exact a_,by rw[RX];show EE.length+1+ys.length<=_;omega,?_⟩
      refine⟨_,_,(AZ sf S x).reverse++x::sk,S,af,_,rfl,r,((s6.trans s7).upd R5).upd R5,a_,?_,((D4.same s7).lst P8).lst a_,λy hy=>?_,?_,hS⟩
      ·rw[List.reverse_append,List.reverse_reverse,acd]
       refine Paired.j5 (F:=kq (L2.upd H4 p (.lst ys))) (rP (hV (Paired.j5 p4 λ_ _ z=>z.same s7) ⟨t,rfl,s7 _ _ Mp⟩) (Paired.j5 pm λ_ _ z=>z.same s7)) λ_ _ z=>?_
       exact(z.upd P8 (λ_ z=>by cases z)).upd a_ (λ_ z=>by cases z)
      ·rcases Ue.mp hy with hy|hy
       ·have hy:=(Yj.mp (List.mem_reverse.mp hy)).1
        exact(cl.sa (((LO x).2 y).mp hy)).1
       ·exact R7 y hy
      ·exact Ha.elim (λz=>.inl (aas _ z)) .inr
 ·rintro Z H2 ⟨v3,v4,v5,v6,S,af,rfl,s3,⟨⟨kvs,e1,e2,e3⟩,LQ,good⟩,hS⟩
  rw[Ou,hlen,aaq] at hS
  refine⟨_,rfl,q h _ (s1.trans s3) (s1.free hh) ⟨kvs,e1,λn hn=>?_⟩⟩
  obtain⟨l,hl,rfl⟩:=aak.mp hn
  obtain⟨bb,z1,z2,z3,dk,z4,z5⟩:=e3 _ (hS l hl)
  exact⟨bb,dk,z1,z4,λm=>by rw[qD,z5,qf];exact(good _ (hS l hl)).2.2 m⟩
theorem FT{Z:Type}[DecidableEq Z]:∀{kvs:List (Z×V)} {i:Nat} {k:Z} {v:V},(kvs.map (·.1)).Nodup->kvs[i]?=some (k,v)->hZ kvs k=some v
 | [],_,_,_,_,h=>by simp at h
 | p::r,i,k,v,nd,h=>by
  rw[aam,aaM] at nd
  cases i with
  | zero=>simp at h;subst h;exact iG rfl
  | succ i=>
   have h:r[i]?=some (k,v):=by simpa using h
   have hm:k∈r.map (·.1):=aak.mpr ⟨_,Um h,rfl⟩
   rw[ix (λz=>nd.1 (by rw[z];exact hm))]
   exact FT nd.2 h
theorem FU{Z:Type}[DecidableEq Z](kvs:List (Z×V))(k j:Z)(h:j≠k):hZ (jR kvs k) j=hZ kvs j:=by
 induction kvs with
 | nil=>rfl
 | cons p r ih=>
  by_cases e:p.1=k
  ·rw[yg e,ih,ix (λz=>h (z.symm.trans e))]
  ·rw[yh e]
   by_cases e2:p.1=j
   ·rw[iG e2,iG e2]
   ·rw[ix e2,ix e2,ih]
theorem Eb{kvs:List (List Key×V)}{rem:List Ln}{n:Nm}(h:kvs.map (·.1)=rem.map λl=>nk l.nm):(jR kvs (nk n)).map (·.1)=(rem.filter λo=>o.nm≠n).map λl=>nk l.nm:=by
 induction kvs generalizing rem with
 | nil=>cases rem with|nil=>rfl|cons _ _=>cases h
 | cons p r ih=>
  cases rem with
  | nil=>cases h
  | cons x t=>
   rw[aam,aam] at h
   injection h with h1 h2
   by_cases e:x.nm=n
   ·rw[yg (by rw[h1,e]),YI (by simpa using e)]
    exact ih h2
   ·rw[yh (λz=>e (mW (h1.symm.trans z))),W5 (by simpa using e),aam,aam,ih h2,h1]
structure Wait(kw:List (List Key×V))(rem:List Ln)(f:Ln->Nat):Prop where
 keys:kw.map (·.1)=rem.map λl=>nk l.nm
 val:∀o∈rem,hZ kw (nk o.nm)=some (.int (f o:Nat))
theorem Wait.len{kw:List (List Key×V)}{rem:List Ln}{f:Ln->Nat}(w:Wait kw rem f):kw.length=rem.length:=by
 have:=aaT List.length w.keys
 rwa [Ou,Ou] at this
theorem K3{rem:List Ln}:(rem.map λl=>nk l.nm)=(rem.map (·.nm)).map nk:=by rw[List.map_map];rfl
theorem Np{xs:List Nm}(h:xs.Nodup):(xs.map nk).Nodup:=by
 induction xs with
 | nil=>exact aa8
 | cons x r ih=>
  rw[aaM] at h
  rw[aam,aaM]
  exact⟨λz=>h.1 (qf.mp z),ih h.2⟩
theorem Wait.nd{kw:List (List Key×V)}{rem:List Ln}{f:Ln->Nat}(w:Wait kw rem f)(h:(rem.map (·.nm)).Nodup):(kw.map (·.1)).Nodup:=by rw[w.keys,K3];exact Np h
theorem Wait.get{kw:List (List Key×V)}{rem:List Ln}{f:Ln->Nat}(w:Wait kw rem f)(h:(rem.map (·.nm)).Nodup){i:Nat}{k:List Key}{v:V}(hi:kw[i]?=some (k,v)):∃o,rem[i]?=some o/\k=nk o.nm/\v=.int (f o:Nat):=by
 have h1:(kw.map (·.1))[i]?=some k:=by rw[W3,hi];rfl
 rw[w.keys,W3] at h1
 obtain⟨o,e,e2⟩:=Option.map_eq_some_iff.mp h1
 refine⟨o,e,e2.symm,?_⟩
 have h2:=FT (w.nd h) hi
 rw[<-e2,w.val o (Um e)] at h2
 exact(aaf h2).symm
def Q6:Sp:=λvs H Q _=>∃(d:Addr)(kw:List (List Key×V))(rem:List Ln)(f:Ln->Nat)(l:Ln),vs=[.ref d]/\H d=some (.dT kw)/\Wait kw rem f/\(rem.map (·.nm)).Nodup/\rem.find? (λo=>f o ==0)=some l/\∀t,H t=some (nT l.nm)->Q (.ref t) H
theorem xQ(T:Txt mg)(O:Ok K mg A):gS P w K mg base lR 1 A.sM A.sN ["waiting"] Q6:=by
 refine O.wG.f.qW qX λjm A0 outer s H vs Q E hr h=>?_
 obtain⟨d,kw,rem,f,l,rfl,hd,W,nd,hf,q⟩:=h
 refine⟨_,(de (y6 (ip aat rfl (wc (pv 0)) (vv 1 qX) (d_ (iw (jo uF (BO hr (pv 0) (pv 1)) fJ (jS _)) (d_ (f_ (pv 1))) gQ))))
   (d_ (f_ vF))),?_⟩
 refine Fc ?_;intro _
 refine⟨_,rfl,d,kw,rfl,hd,λo uz=>?_⟩
 let Jv:=λ(i:Nat) (Z:St) (H2:Hp)=>∃(v:Option V),Z=[rr d,v]/\H2=L2.upd H d (.mw o (.dT kw))/\(rem.drop i).find? (λo=>f o ==0)=some l
 refine yn (d:=d) (o:=o) (kvs:=kw) Jv ⟨none,rfl,rfl,hf⟩ (by rintro _ _ _ ⟨_,_,e,_⟩;subst e;exact a_) ?_ ?_
 ·rintro i k v t Z H2 hi ht ⟨v0,rfl,rfl,h1⟩
  obtain⟨x,hx,rfl,rfl⟩:=W.get nd hi
  have jI:i<rem.length:=(List.getElem?_eq_some_iff.mp hx).1
  have X6:rem.drop i=x::rem.drop (i+1):=by rw[aa_ jI];congr 1;exact(List.getElem?_eq_some_iff.mp hx).2
  rw[X6] at h1
  refine⟨_,rfl,_,rfl,d,_,rfl,.inr ⟨kw,nk x.nm,t,.inr ⟨o,a_⟩,rfl,ht,(W.val x (Um hx)).symm⟩,rfl,_,rfl,?_⟩
  refine tQ (λh=>?_) (λh=>?_)
  ·have h:f x=0:=by have:=V.int.inj (aaz h);omega
   rw[List.find?_cons_of_pos (by simpa using h)] at h1
   cases h1
   refine⟨_,rfl,d,o,_,a_,uz,?_⟩
   rw[DT hd]
   exact q t (by
    have:t≠d:=λz=>by rw[z,a_] at ht;cases ht
    rwa [c_ this] at ht)
  ·have h:¬f x=0:=λz=>h (Ug (by rw[z];rfl))
   rw[List.find?_cons_of_neg (by simpa using h)] at h1
   exact⟨_,rfl,rfl,h1⟩
 ·rintro Z H2 ⟨v0,rfl,rfl,h1⟩
  rw[W.len,List.drop_length] at h1
  cases h1
end
section
open Classical
noncomputable def mr(lt:Nm->Nm->Prop)(rem:List Ln)(l:Ln):Nat:=(rem.filter λo=>decide (lt o.nm l.nm)).length
theorem FV(lt:Nm->Nm->Prop)(rem:List Ln):(λo=>mr lt rem o ==0)=free lt rem:=by
 funext o
 unfold mr free
 rw[abA,abD,aao,ab1,aa4]
 exact⟨λh x hx=>by simpa using h x hx,λh x hx=>by simpa using h x hx⟩
theorem FW{lt:Nm->Nm->Prop}{rem:List Ln}(nd:(rem.map (·.nm)).Nodup){l:Ln}(hl:l∈rem)(o:Ln):mr lt rem o=mr lt (rem.filter λx=>x.nm≠l.nm) o+if lt l.nm o.nm then 1 else 0:=by
 unfold mr
 induction rem with
 | nil=>cases hl
 | cons x r ih=>
  rw[aam,aaM] at nd
  rcases RT.mp hl with rfl|hl
  ·have e:r.filter (λx=>decide (x.nm≠l.nm))=r:=List.filter_eq_self.mpr λy hy=>Ug λz=>nd.1 (z▸Q3 hy)
   rw[YI (p:=λx:Ln=>decide (x.nm≠l.nm)) (by simp),e]
   by_cases h:lt l.nm o.nm
   ·rw[W5 (by simpa using h),aah h,S7]
   ·rw[YI (by simpa using h),aab h,Nat.add_zero]
  ·have hx:x.nm≠l.nm:=λz=>nd.1 (z▸Q3 hl)
   rw[W5 (p:=λx:Ln=>decide (x.nm≠l.nm)) (by simpa using hx)]
   by_cases h:lt x.nm o.nm
   ·rw[W5 (by simpa using h),W5 (by simpa using h),S7,S7,ih nd.2 hl];omega
   ·rw[YI (by simpa using h),YI (by simpa using h),ih nd.2 hl]
end
theorem FX{lt:Nm->Nm->Prop}{n:Nat}{rem:List Ln}{l:Ln}(h:rem.find? (free lt rem)=some l):ph lt (n+1) rem=l::ph lt n (rem.filter λo=>o.nm≠l.nm):=by
 rw[ph,h]
section
variable{P:Program}{w:World}{K:Qqy}{mg:Qqx}{base:Heap}{A:Ad}
def Nq(A:Ad):Sp:=λvs H Q _=>∃(a h:Addr)(ls al:List Ln),vs=[.ref a,.ref h]/\oT A H a ls/\zx H h al/\xB ls.length/\(ls.map (·.nm)).Nodup/\(∀l∈ls,l.nm∈al.map (·.nm))/\FC al/\
 ∀p H',fG H H'->H p=none->oT A H' p (rowOf (Ah al) ls)->Q (.ref p) H'
theorem Ec(T:Txt mg)(O:Ok K mg A):gS P w K mg base lR 2 A.Bb A.Bc ["lines","ahead"] (Nq A):=by
 have zW:=@xQ P w K mg base A T O
 refine O.FP.f.qW j4 λjm A0 outer s H vs Q E hr h=>?_
 obtain⟨a,h,ls,al,rfl,⟨as,ha,pa⟩,⟨kh,OL,UU⟩,lU,nd,tI,tp,q⟩:=h
 have hlen:=aaj pa
 have BJ:ls.length<=4000:=lU
 have sz:sizeLine=16777216:=aaC
 have X8:∃rk:Nm->Nat,∀m n,Ah al m n->rk m<rk n:=by obtain⟨rk,r⟩:=tp;exact⟨rk,λm n z=>r.ah z⟩
 refine⟨_,(de (nA 2 j4 lb)
   (de (nA 3 j4 lb)
   (de (ip aat rfl (ib (pv 0)) (iI (i:=4) j4.nd rfl (Or.inr rfl)) (de (i4 (by exact iB hr) (pv 2) (fS (pv 4) rfl) (pv 4) rfl)
   (d_ (i4 (by exact iB hr) (pv 3) (fS (pv 4) rfl) (hU gR (by rfl) T.q0 aaS (b_ (vS A4 (e_ sG).names [7] rfl (ib (pv 0)) rfl (by decide+kernel) (λ_ _ _ _=>(iI (i:=7) j4.nd rfl (Or.inl rfl))) (λ_ _ _ _=>⟨_,oq (iR (pH (by exact iB hr) (fS (pv 7) rfl) (BO hr (pv 1) (fS (pv 4) rfl)))),by(try simp only [j9]);rfl⟩) (λ_ _ _ _=>EB (pv 7))) eV)) rfl))))
   (de (nA 5 j4 (jq eV))
   (de (Av aat (DZ (pv 3) (λ_=>rfl)) (de (nA 6 j4 (sy O.wG zW hr (b_ (pv 3) eV)))
   (de (gY (Fy (by exact iB hr) (pv 3) (pv 6) ⟨rfl,rfl,rfl,rfl⟩))
   (de (gY (lI aap aaw aax iA (pv 5) (b_ (BO hr (pv 2) (pv 6)) eV)))
   (d_ (ip aat rfl (ib (qv (u3 rfl) (by rfl) T.uh abC (b_ (pv 3) eV))) (vv 7 j4) (d_ (iw (iR (pH (by exact iB hr) (pv 6) (BO hr (pv 1) (pv 7)))) (d_ (i4 (by exact iB hr) (pv 3) (pv 7) (gU yN (BO hr (pv 3) (pv 7)) fJ) rfl)) gQ))))))))
   (d_ (f_ (pv 5)))))))),?_⟩
 refine Uh ?_;intro _ _ _ _ _
 intro bn OM wt P9
 have s1:fG H (L2.upd (L2.upd H bn (.dT [])) wt (.dT [])):=((fG.refl H).new OM).new P9
 have LR:H wt=none:=((fG.refl H).new (o:=.dT []) OM).free P9
 have ON:bn≠wt:=λz=>by rw[z,a_] at P9;cases P9
 dsimp only [nj];refine Kz ?_;intro _
 let Jv:=λ(i:Nat) (Z:St) (H2:Hp)=>∃(v4:Option V)(kb kw:List (List Key×V)),Z=[rr a,rr h,rr bn,rr wt,v4,none,none,none]/\fG H H2/\H2 bn=some (.dT kb)/\H2 wt=some (.dT kw)/\kb.length<=i/\(∀l∈ls.take i,∃b,hZ kb (nk l.nm)=some (.ref b)/\lF A H b l)/\Wait kw (ls.take i) (mr (Ah al) ls)
 refine⟨_,rfl,a,rfl,⟨_,gP.of (s1 _ _ ha)⟩,jh (K:=K) (a:=a) (xs:=as.map V.ref) Jv
  ⟨none,[],[],rfl,s1,by rw[c_ ON];exact a_,a_,Q2 _,(λl hl=>by rw[abJ] at hl;cases hl),⟨rfl,(λl hl=>by rw[abJ] at hl;cases hl)⟩⟩ (by rintro _ _ _ _ ⟨_,_,_,_,s3,_⟩;exact gP.of (s3 _ _ ha)) ?_ ?_⟩
 ·rintro i v Z H2 hx ⟨v4,kb,kw,rfl,s3,h1,h2,h3,h4,W⟩
  obtain⟨b,hb,rfl⟩:=js hx
  obtain⟨l,hl,dx,vn,vu,vl,g1,⟨t,rfl,g2⟩,g3,g4⟩:=g8 pa hb
  have X9:l∈ls:=Um hl
  have hi:i<ls.length:=(List.getElem?_eq_some_iff.mp hl).1
  have xg:∀x∈ls.take i,x.nm≠l.nm:=λx hx z=>by
   obtain⟨j,hj⟩:=aaK.mp hx
   have IP:j<i:=by have:=(List.getElem?_eq_some_iff.mp hj).1;rw[aaE] at this;omega
   rw[List.getElem?_take,aah IP] at hj
   have e1:(ls.map (·.nm))[j]?=some l.nm:=by rw[W3,hj,<-z];rfl
   have e2:(ls.map (·.nm))[i]?=some l.nm:=by rw[W3,hl];rfl
   have:=(List.getElem?_inj (List.getElem?_eq_some_iff.mp e1).1 nd).mp (e1.trans e2.symm)
   omega
  obtain⟨bb,dk,z1,z2,z3⟩:=UU l.nm (tI l X9)
  have Ml:=iN kb (nk l.nm) (V.ref b)
  refine⟨_,rfl,_,rfl,_,rfl,b,A.fT,dx,_,_,rfl,s3 _ _ g1,O.ij,O.fV,iH,bn,_,rfl,lW.t (k:=nk l.nm) h1 (s3 _ _ g2) (by omega),?_⟩
  have s4:fG H (L2.upd H2 bn (.dT (putK kb (nk l.nm) (V.ref b)))):=s3.upd OM
  have IJ:L2.upd H2 bn (.dT (putK kb (nk l.nm) (V.ref b))) bn=some (.dT (putK kb (nk l.nm) (V.ref b))):=a_
  have UW:L2.upd H2 bn (.dT (putK kb (nk l.nm) (V.ref b))) wt=some (.dT kw):=by rw[c_ ON.symm];exact h2
  generalize L2.upd H2 bn (.dT (putK kb (nk l.nm) (V.ref b)))=H3 at s4 IJ UW ⊢
  refine⟨_,rfl,a,rfl,⟨_,gP.of (s4 _ _ ha)⟩,kZ (K:=K) (a:=a) (xs:=as.map V.ref) (by rw[Ou,hlen];omega) (λj ys Z H4=>∃v7:Option V,Z=[rr a,rr h,rr bn,rr wt,rr b,none,none,v7]/\H4=H3/\ys.length=mr (Ah al) (ls.take j) l)
   ⟨none,rfl,rfl,rfl⟩ (by rintro _ _ _ _ _ ⟨_,_,e,e2⟩;subst e;exact⟨gP.of (s4 _ _ ha),by rw[e2];unfold mr;exact aag (aaJ _ _) (by rw[aaE];omega)⟩) ?_ ?_⟩
  ·rintro j v ys Z H4 hx ⟨v7,rfl,rfl,e2⟩
   obtain⟨b2,LS,rfl⟩:=js hx
   obtain⟨l2,IH,X_,vn2,vu2,vl2,k1,⟨t2,rfl,k2⟩,k3,k4⟩:=g8 pa LS
   refine⟨_,rfl,b2,A.fT,X_,_,_,rfl,s4 _ _ k1,O.ij,O.fV,iH,_,rfl,_,rfl,b,A.fT,dx,_,_,rfl,s4 _ _ g1,O.ij,O.fV,iH,h,.ref bb,rfl,?_,bb,_,rfl,i_.t (k:=nk l2.nm) (s4 _ _ z2) (s4 _ _ k2),_,rfl,?_⟩
   ·have:=i_.t (k:=nk l.nm) (s4 _ _ OL) (s4 _ _ g2)
    rw[z1] at this
    exact this
   ·unfold mr at e2 ⊢
    rw[take_snoc IH,aay,RX]
    by_cases hm:Ah al l2.nm l.nm
    ·rw[(z3 l2.nm).mpr hm]
     refine nv ⟨_,rfl,_,rfl,rfl,?_⟩
     rw[W5 (by simpa using hm),aaW,RX,e2];rfl
    ·rw[abv.mpr λz=>hm ((z3 l2.nm).mp z)]
     refine lY ⟨_,rfl,rfl,?_⟩
     rw[YI (by simpa using hm),aaW,e2];rfl
  ·rintro ys Z H4 ⟨v7,rfl,rfl,e2⟩ p hp
   rw[Ou,hlen,aaq] at e2
   have s5:=s4.new (o:=.lst ys) hp
   have Jy:=W.len
   rw[aaE] at Jy
   refine⟨p,_,rfl,.inl (gP.of a_),_,rfl,_,rfl,b,A.fT,dx,_,_,rfl,s5 _ _ g1,O.ij,O.fV,iH,wt,_,rfl,lW.t (k:=nk l.nm) (jD hp UW) (s5 _ _ g2) (by omega),?_⟩
   refine⟨_,_,_,rfl,s5.upd LR,by rw[c_ ON];exact jD hp IJ,a_,by omega,λx hx=>?_,⟨?_,λx hx=>?_⟩⟩
   ·rw[take_snoc hl] at hx
    rcases Ue.mp hx with hx|hx
    ·obtain⟨c,c1,c2⟩:=h4 x hx
     exact⟨c,by rw[jt,aab (λz=>xg x hx (mW z))];exact c1,c2⟩
    ·rw[Oy.mp hx]
     exact⟨b,by rw[jt,aah rfl],dx,_,vu,vl,g1,⟨t,rfl,g2⟩,g3,g4⟩
   ·rw[n5,W.keys,take_snoc hl,aai]
    exact aab λz=>by
     obtain⟨x,hx,e⟩:=aak.mp z
     exact xg x hx (mW e)
   ·rw[take_snoc hl] at hx
    rw[jt]
    rcases Ue.mp hx with hx|hx
    ·rw[aab (λz=>xg x hx (mW z))];exact W.val x hx
    ·rw[Oy.mp hx,aah rfl,e2]
 ·rintro Z H2 ⟨v4,kb,kw,rfl,s3,h1,h2,h3,h4,W⟩
  have el:(as.map V.ref).length=ls.length:=by rw[Ou];exact hlen
  rw[el,aaq] at h4 W
  refine⟨L2.lU,λr tJ=>?_⟩
  have UX:H r=none:=s3.free tJ
  have Ya:bn≠r:=fz h1 tJ
  have Sf:wt≠r:=fz h2 tJ
  obtain⟨rk,GK⟩:=X8
  refine⟨λm Z H3=>∃(v6 v7:Option V)(kw:List (List Key×V))(rem row:List Ln)(rs:List Addr),m=rem.length/\Z=[rr a,rr h,rr bn,rr wt,v4,rr r,v6,v7]/\fG H H3/\H3 bn=some (.dT kb)/\H3 wt=some (.dT kw)/\H3 r=some (.lst (rs.map V.ref))/\Paired (lF A H) rs row/\Wait kw rem (mr (Ah al) rem)/\rem.Sublist ls/\row.length+rem.length=ls.length/\row++ph (Ah al) rem.length rem=rowOf (Ah al) ls,
   ⟨ls.length,none,none,kw,ls,[],[],rfl,rfl,s3.new tJ,jD tJ h1,jD tJ h2,a_,.nil,W,aaL _,by simp,rfl⟩,?_⟩
  rintro m Z H3 ⟨v6,v7,kw,rem,row,rs,rfl,rfl,s4,b1,w1,r1,pr,W,sub,hsum,GO⟩
  have P_:(rem.map (·.nm)).Nodup:=(sub.map _).nodup nd
  refine⟨_,rfl,wt,kw,rfl,w1,?_⟩
  have Jy:=W.len
  cases rem with
  | nil=>
   have:kw=[]:=aao.mp Jy
   subst this
   refine lY ⟨_,rfl,q r _ s4 UX ⟨rs,r1,?_⟩⟩
   rw[show ph (Ah al) ([]:List Ln).length []=[] from rfl,aaB] at GO
   rw[<-GO]
   exact Paired.j5 pr λ_ _ z=>z.same s4
  | cons x0 Sg=>
   generalize Sh:x0::Sg=rem at *
   have n9:rem≠[]:=by rw[<-Sh];exact λz=>by cases z
   obtain⟨l,GQ⟩:=pK (lt:=Ah al) GK rem n9
   have LU:l∈rem:=List.mem_of_find?_eq_some GQ
   have UY:l∈ls:=sub.subset LU
   have JK:=kE P_ LU
   refine AM (by cases kw with|nil=>exact absurd (aao.mp Jy.symm) n9|cons _ _=>rfl) ?_
   refine⟨λZ H4=>∃(v6 v7:Option V)(kw:List (List Key×V))(kB row:List Ln)(rs:List Addr),kB.length<rem.length/\Z=[rr a,rr h,rr bn,rr wt,v4,rr r,v6,v7]/\fG H H4/\H4 bn=some (.dT kb)/\H4 wt=some (.dT kw)/\H4 r=some (.lst (rs.map V.ref))/\Paired (lF A H) rs row/\Wait kw kB (mr (Ah al) kB)/\kB.Sublist ls/\row.length+kB.length=ls.length/\row++ph (Ah al) kB.length kB=rowOf (Ah al) ls,
    λZ' H' ⟨u6,u7,OO,kB,Si,Yb,jI,z⟩=>⟨kB.length,jI,u6,u7,OO,kB,Si,Yb,rfl,z⟩,?_⟩
   refine⟨_,rfl,wt,kw,rem,mr (Ah al) rem,l,rfl,w1,W,P_,by rw[FV];exact GQ,λt ht=>?_⟩
   have xX:=W.val l LU
   refine⟨_,rfl,wt,rfl,.inr ⟨_,.inl w1⟩,_,rfl,t,kw,nk l.nm,_,rfl,w1,ht,xX,?_⟩
   have s5:fG H (L2.upd H3 wt (.dT (jR kw (nk l.nm)))):=s4.upd LR
   have b2:L2.upd H3 wt (.dT (jR kw (nk l.nm))) bn=some (.dT kb):=by rw[c_ ON];exact b1
   have r2:L2.upd H3 wt (.dT (jR kw (nk l.nm))) r=some (.lst (rs.map V.ref)):=by rw[c_ Sf.symm];exact r1
   have t2:L2.upd H3 wt (.dT (jR kw (nk l.nm))) t=some (nT l.nm):=by rw[c_ (iz ht w1 (λz=>by cases z))];exact ht
   have w2:L2.upd H3 wt (.dT (jR kw (nk l.nm))) wt=some (.dT (jR kw (nk l.nm))):=a_
   have W2:Wait (jR kw (nk l.nm)) (rem.filter λo=>o.nm≠l.nm) (mr (Ah al) rem):=⟨Eb W.keys,λo ho=>by
    have mv:=Yj.mp ho
    rw[FU _ _ _ (λz=>by have:=mW z;simpa[this] using mv.2)]
    exact W.val o mv.1⟩
   generalize L2.upd H3 wt (.dT (jR kw (nk l.nm)))=H4 at s5 b2 r2 t2 w2 ⊢
   generalize jR kw (nk l.nm)=OO at w2 W2
   obtain⟨bl,JD,Yc⟩:=h4 l UY
   have Sj:=aaj pr
   refine⟨_,rfl,.inl ⟨rfl,_,gP.of r2⟩,_,rfl,_,rfl,bn,.ref bl,rfl,?_,r,_,_,rfl,rfl,r2,by rw[Ou,Sj];omega,?_⟩
   ·have:=i_.t (k:=nk l.nm) b2 t2
    rw[JD] at this
    exact this
   have s6:fG H (L2.upd H4 r (.lst (rs.map V.ref++[V.ref bl]))):=s5.upd UX
   have b3:L2.upd H4 r (.lst (rs.map V.ref++[V.ref bl])) bn=some (.dT kb):=by rw[c_ Ya];exact b2
   have w3:L2.upd H4 r (.lst (rs.map V.ref++[V.ref bl])) wt=some (.dT OO):=by rw[c_ Sf];exact w2
   have t3:L2.upd H4 r (.lst (rs.map V.ref++[V.ref bl])) t=some (nT l.nm):=by rw[c_ (iz t2 r2 (λz=>by cases z))];exact t2
   have r3:L2.upd H4 r (.lst (rs.map V.ref++[V.ref bl])) r=some (.lst ((rs++[bl]).map V.ref)):=by rw[a_,aai];rfl
   generalize L2.upd H4 r (.lst (rs.map V.ref++[V.ref bl]))=H5 at s6 b3 w3 t3 r3 ⊢
   have Dw:(rem.filter λo=>o.nm≠l.nm).Sublist rem:=aaP
   generalize hR:(rem.filter λo=>decide (o.nm≠l.nm))=kB at W2 Dw JK
   have OP:(kB.map (·.nm)).Nodup:=(Dw.map _).nodup P_
   refine⟨_,rfl,wt,OO,rfl,w3,λp bs hp UZ=>?_⟩
   have s7:=s6.new (o:=.lst (bs.map V.ref)) hp
   have Sk:=aaj UZ
   have Ob:=W2.len
   let Jv:=λ(j:Nat) (Z:St) (H6:Hp)=>∃(v7:Option V)(GR:List (List Key×V)),Z=[rr a,rr h,rr bn,rr wt,v4,rr r,rr t,v7]/\fG H H6/\H6 bn=some (.dT kb)/\H6 wt=some (.dT GR)/\H6 t=some (nT l.nm)/\H6 r=some (.lst ((rs++[bl]).map V.ref))/\H6 p=some (.lst (bs.map V.ref))/\(∀b∈bs,∀xs,H5 b=some (.tup xs)->H6 b=some (.tup xs))/\GR.map (·.1)=kB.map (λl=>nk l.nm)/\∀(i:Nat)(o:Ln),kB[i]?=some o->hZ GR (nk o.nm)=some (.int ((if i<j then mr (Ah al) kB o else mr (Ah al) rem o:Nat):Int))
   refine⟨p,rfl,⟨_,gP.of a_⟩,jh (K:=K) (a:=p) (xs:=bs.map V.ref) Jv
    ⟨v7,OO,rfl,s7,jD hp b3,jD hp w3,jD hp t3,jD hp r3,a_,λb _ xs e=>jD hp e,W2.keys,λi o ho=>by rw[aab (by omega)];exact W2.val o (Um ho)⟩ (by rintro _ _ _ _ ⟨_,_,_,_,_,_,_,_,e,_⟩;exact gP.of e) ?_ ?_⟩
   ·rintro j v Z H6 hx ⟨v7,GR,rfl,s8,b4,w4,t4,r4,p4,IS,yI,GS⟩
    obtain⟨c,hc,rfl⟩:=js hx
    obtain⟨⟨k,v⟩,Yd,Sl⟩:=lq UZ hc
    obtain⟨o,ho,rfl,rfl⟩:=W2.get OP Yd
    have LV:o∈rem:=Dw.subset (Um ho)
    have Sm:H6 c=some (nT o.nm):=IS c (Um hc) _ Sl
    obtain⟨bb,dk,z1,z2,z3⟩:=UU o.nm (tI o (sub.subset LV))
    have yG:=FW (lt:=Ah al) P_ LU o
    have U0:∀(OQ:List (List Key×V)),OQ.map (·.1)=kB.map (λl=>nk l.nm)->(∀x∈kB,x.nm≠o.nm->hZ OQ (nk x.nm)=hZ GR (nk x.nm))->hZ OQ (nk o.nm)=some (.int ((mr (Ah al) kB o:Nat):Int))->∀(i:Nat)(x:Ln),kB[i]?=some x->hZ OQ (nk x.nm)=some (.int ((if i<j+1 then mr (Ah al) kB x else mr (Ah al) rem x:Nat):Int)):=λOQ _ h1 h2 i x OR=>by
     by_cases e:i=j
     ·subst e
      rw[ho] at OR
      cases OR
      rw[aah (abE _)]
      exact h2
     ·have Sn:x.nm≠o.nm:=λz=>by
       have e1:(kB.map (·.nm))[i]?=some o.nm:=by rw[W3,OR,<-z];rfl
       have e2:(kB.map (·.nm))[j]?=some o.nm:=by rw[W3,ho];rfl
       exact e ((List.getElem?_inj (List.getElem?_eq_some_iff.mp e1).1 OP).mp (e1.trans e2.symm))
      rw[h1 x (Um OR) Sn,GS i x OR]
      by_cases RW:i<j
      ·rw[aah RW,aah (by omega)]
      ·rw[aab RW,aab (by omega)]
    rw[hR] at yG
    refine⟨_,rfl,_,rfl,_,rfl,h,.ref bb,rfl,?_,bb,_,rfl,i_.t (k:=nk l.nm) (s8 _ _ z2) t4,_,rfl,?_⟩
    ·have:=i_.t (k:=nk o.nm) (s8 _ _ OL) Sm
     rw[z1] at this
     exact this
    by_cases hm:Ah al l.nm o.nm
    ·rw[(z3 l.nm).mpr hm]
     rw[aah hm] at yG
     refine nv ?_
     have OS:=GS j o ho
     rw[aab (aba _)] at OS
     have hg:i_ H6 wt (.ref c) (some (.int ((mr (Ah al) rem o:Nat):Int))):=by
      have:=i_.t (k:=nk o.nm) w4 Sm
      rw[OS] at this
      exact this
     have hk3:GR.length=kB.length:=by have:=aaT List.length yI;rwa [Ou,Ou] at this
     refine⟨_,rfl,_,rfl,wt,_,rfl,hg,_,_,rfl,rfl,_,rfl,_,rfl,wt,_,rfl,lW.t (k:=nk o.nm) w4 Sm (by omega),?_⟩
     have kk:(putK GR (nk o.nm) (V.int ((mr (Ah al) rem o:Nat)-1))).map (·.1)=kB.map (λl=>nk l.nm):=by
      rw[n5,yI]
      exact aah (aak.mpr ⟨o,Um ho,rfl⟩)
     refine⟨_,_,rfl,s8.upd LR,by rw[c_ ON];exact b4,a_,by rw[c_ (iz t4 w4 (λz=>by cases z))];exact t4,by rw[c_ Sf.symm];exact r4,by rw[c_ (iz p4 w4 (λz=>by cases z))];exact p4,λb hb xs e=>?_,kk,U0 _ kk (λx _ Sn=>?_) ?_⟩
     ·have:=IS b hb xs e
      rw[c_ (iz this w4 (λz=>by cases z))];exact this
     ·rw[jt,aab (λz=>Sn (mW z))]
     ·rw[jt,aah rfl]
      have e9:((mr (Ah al) rem o:Nat):Int)-1=((mr (Ah al) kB o:Nat):Int):=by omega
      exact aaT (λz=>some (V.int z)) e9
    ·rw[abv.mpr λz=>hm ((z3 l.nm).mp z)]
     rw[aab hm] at yG
     refine lY ⟨_,GR,rfl,s8,b4,w4,t4,r4,p4,IS,yI,U0 GR yI (λx _ _=>rfl) ?_⟩
     have OS:=GS j o ho
     rw[aab (aba _)] at OS
     rw[OS,yG,Nat.add_zero]
   ·rintro Z H6 ⟨v7,GR,rfl,s8,b4,w4,t4,r4,p4,IS,yI,GS⟩
    have hlen2:(bs.map V.ref).length=kB.length:=by rw[Ou,<-Sk,Ob]
    refine⟨_,_,GR,kB,row++[l],rs++[bl],by omega,rfl,s8,b4,w4,r4,hV pr Yc,⟨yI,λo ho=>?_⟩,Dw.trans sub,by rw[RX];show row.length+1+kB.length=_;omega,?_⟩
    ·obtain⟨i,hi⟩:=aaK.mp ho
     have Ot:=(List.getElem?_eq_some_iff.mp hi).1
     rw[GS i o hi,aah (by omega)]
    ·rw[<-GO,<-JK,FX GQ,aaY,hR]
     rfl
end
end PK
namespace Kp
open PySem L2
noncomputable abbrev Pw:Stmt:=PK.mT
noncomputable abbrev Px:Stmt:=PK.oG
noncomputable abbrev Q7:Stmt:=PK.oH
noncomputable abbrev Jm:Stmt:=PK.Cq
structure Txt(mg:Qqx):Prop where
 len:mg "len"=none
 range:mg "range"=none
 max:mg "max"=none
abbrev fZ(l:List Str):List V:=l.map V.str
def tab(old new:List Str)(i:Nat):List V:=(List.range (new.length+1)).map λj=>V.int (K01.tX old new i j)
theorem zz{old new:List Str}{i j:Nat}(h:j<=new.length):(tab old new i)[j]?=some (V.int (K01.tX old new i j)):=by
 unfold tab
 rw[W3,abV (by omega)]
 rfl
def part(old new:List Str)(i k:Nat):List V:=(List.range (new.length+1)).map λj=>if new.length-k<=j then V.int (K01.tX old new i j) else V.int 0
theorem Df{old new:List Str}{i k j:Nat}(h:j<=new.length)(hk:new.length-k<=j):(part old new i k)[j]?=some (V.int (K01.tX old new i j)):=by
 unfold part
 rw[W3,abV (by omega)]
 show some (if _ then _ else _)=_
 rw[aah hk]
theorem wL(old new:List Str)(i k:Nat):(part old new i k).length=new.length+1:=by unfold part;rw[Ou,aa2]
theorem FY(old new:List Str)(i:Nat):part old new i new.length=tab old new i:=by
 unfold part tab
 refine abU λj _=>?_
 rw[aah (by omega)]
theorem yv(old new:List Str)(i n:Nat)(h:n=new.length+1):(List.replicate n [V.int 0]).flatten=part old new i 0:=by
 subst h
 refine ab_ λj=>?_
 unfold part
 rw[W3]
 have e:(List.replicate (new.length+1) [V.int 0]).flatten=List.replicate (new.length+1) (V.int 0):=by
  generalize new.length+1=m
  induction m with
  | zero=>rfl
  | succ m ih=>rw[aaZ,abM,ih,aaZ];rfl
 rw[e,List.getElem?_replicate]
 by_cases hj:j<new.length+1
 ·rw[aah hj,abV hj]
  show some _=some (if _ then _ else _)
  by_cases h2:new.length-0<=j
  ·rw[aah h2,K01.vw (.inr (by omega))];rfl
  ·rw[aab h2]
 ·rw[aab hj,List.getElem?_eq_none_iff.mpr (by rw[aa2];omega)]
  rfl
theorem Bo{old new:List Str}{i k:Nat}(h:k<new.length):(part old new i k).set (new.length-1-k) (V.int (K01.tX old new i (new.length-1-k)))=part old new i (k+1):=by
 refine ab_ λj=>?_
 by_cases e:j=new.length-1-k
 ·subst e
  rw[aa5 (by rw[wL];omega),Df (by omega) (by omega)]
 ·rw[abf (λz=>e z.symm)]
  unfold part
  rw[W3,W3]
  by_cases hj:j<new.length+1
  ·rw[abV hj]
   show some (if _ then _ else _)=some (if _ then _ else _)
   by_cases h2:new.length-k<=j
   ·rw[aah h2,aah (by omega)]
   ·rw[aab h2,aab (by omega)]
  ·rw[List.getElem?_eq_none_iff.mpr (by rw[aa2];omega)]
   rfl
theorem sv{l:List Str}{j:Nat}{x:Str}(h:l[j]?=some x):(fZ l)[j]?=some (V.str x):=by rw[W3,h];rfl
section
variable{P:Program}{w:World}{K:Qqy}{mg:Qqx}{base:Heap}
theorem K4:fN ["text","new","below","counts","second"] ["text","new","below"] (e_ Pw):=⟨rfl,rfl,rfl,by decide+kernel,rfl,by decide+kernel,by decide+kernel⟩
def Nr:Sp:=λvs H Q _=>∃(old new:List Str)(i:Nat)(t:Str)(n b:Addr),vs=[.str t,.ref n,.ref b]/\old[i]?=some t/\H n=some (.lst (fZ new))/\H b=some (.lst (tab old new (i+1)))/\new.length<=1000/\
 ∀p H',fG H H'->H p=none->H' p=some (.lst (tab old new i))->Q (.ref p) H'
theorem Nt{f:Addr}{fd:FuncData}(F:uK K "counts_with" "counts_with" Pw f fd)(T:Txt mg):gS P w K mg base lR 1 f fd ["text","new","below"] Nr:=by
 refine F.qW K4 λjm A outer s H vs Q E hr h=>?_
 obtain⟨old,new,i,t,n,b,rfl,ht,hn,hb,hl,k⟩:=h
 refine⟨_,de (mR (i:=3) K4.nd rfl (Or.inl rfl) (gU B9 (jq (b_ fJ eV)) (gU iS (hU gR (by rfl) T.len aaS (b_ (pv 1) eV)) fJ)))
  (de (ip aat rfl (tS rfl T.range (b_ (gU yN (hU gR (by rfl) T.len aaS (b_ (pv 1) eV)) fJ) (b_ (si om fJ) (b_ (si om fJ) eV)))) (iI (i:=4) K4.nd rfl (Or.inl rfl))
   (d_ (iw (jo uF (k_ jK (pv 1) (pv 4) (λ_ _=>rfl)) (pv 0) (jS _))
    (d_ (yM (gU iS (k_ jK (pv 2) (gU iS (pv 4) fJ) (λ_ _=>rfl)) fJ) (yL (pv 3) (pv 4) set_list)))
    (d_ (yM (hU (DE rfl) (by rfl) T.max PyProof.Rows.boot_max (b_ (k_ jK (pv 2) (pv 4) (λ_ _=>rfl)) (b_ (k_ jK (pv 3) (gU iS (pv 4) fJ) (λ_ _=>rfl)) eV))) (yL (pv 3) (pv 4) set_list))))))
  (d_ (f_ (pv 3)))),?_⟩
 refine Cb ?_;intro _ _
 refine⟨lU,λl Mn=>?_⟩
 have OT:(upd H l (.lst [V.int 0])) n=some (.lst (fZ new)):=by rw[c_ (fz hn Mn)];exact hn
 refine⟨_,rfl,n,_,rfl,.inl (gP.of OT),_,_,rfl,rfl,l,_,_,rfl,rfl,a_,by simp<;>omega,by simp<;>omega,by simp;have:sizeLine=2 ^ 24:=rfl;omega,λp hp=>?_⟩
 have n_:p≠l:=λz=>by rw[z,a_] at hp;cases hp
 have Dx:H p=none:=by rw[c_ n_] at hp;exact hp
 have s0:fG H (upd H l (.lst [V.int 0])):=(fG.refl H).upd Mn
 have e0:(List.replicate (((fZ new).length:Int)+1).toNat [V.int 0]).flatten=part old new i 0:=yv old new i _ (by simp<;>omega)
 rw[e0]
 have s1:fG H (upd (upd H l (.lst [V.int 0])) p (.lst (part old new i 0))):=s0.upd Dx
 refine⟨_,rfl,n,_,rfl,.inl (gP.of (s1 n _ hn)),_,_,rfl,rfl,_,rfl,_,rfl,_,_,rfl,⟨by simp<;>omega,by simp<;>omega,by omega,by omega⟩,?_⟩
 have en:((((fZ new).length:Int)-1) - -1).toNat=new.length:=by simp<;>omega
 rw[en]
 let Jv:=λ(m:Nat) (Z:St) (H2:Hp)=>∃v,Z=[rs t,rr n,rr b,rr p,v]/\fG H H2/\H2 p=some (.lst (part old new i m))
 refine rF Jv ⟨none,rfl,s1,a_⟩ ?_ ?_
 ·rintro m Z H2 hm ⟨v,rfl,s2,h2⟩
  obtain⟨j,hj⟩:∃j,j=new.length-1-m:=⟨_,rfl⟩
  have Ye:j<new.length:=by omega
  rw[show((fZ new).length:Int)-1+(m:Int) * -1=(j:Int) by simp<;>omega]
  have LW:new[j]?=some new[j]:=QU Ye
  have B:=K01.HN ht LW
  refine⟨_,rfl,_,rfl,n,_,_,_,rfl,rfl,gP.of (s2 n _ hn),jj rfl (sv LW),_,rfl,rfl,_,rfl,?_⟩
  refine tQ (λhc=>?_) (λhc=>?_)
  ·have hc:new[j]=t:=by have:=aaz hc;injection this
   rw[aah hc] at B
   refine⟨_,rfl,_,rfl,_,_,rfl,rfl,b,_,_,_,rfl,rfl,gP.of (s2 b _ hb),jj (j:=j+1) (by omega) (zz (by omega)),_,_,rfl,rfl,_,rfl,_,rfl,p,_,_,j,rfl,rfl,h2,y7 rfl (by rw[wL];omega),?_⟩
   refine⟨_,rfl,s2.upd Dx,?_⟩
   rw[a_]
   have e:((K01.tX old new (i+1) (j+1):Nat):Int)+1=((K01.tX old new i j:Nat):Int):=by omega
   rw[e,hj,Bo hm]
  ·have hc:¬new[j]=t:=λz=>hc (by rw[z];exact Ug rfl)
   rw[aab hc] at B
   refine⟨_,rfl,_,rfl,b,_,_,_,rfl,rfl,gP.of (s2 b _ hb),jj rfl (zz (by omega)),_,rfl,_,rfl,_,_,rfl,rfl,p,_,_,_,rfl,rfl,gP.of h2,jj (j:=j+1) (by omega) (Df (by omega) (by omega)),_,_,rfl,_,rfl,_,rfl,p,_,_,j,rfl,rfl,h2,y7 rfl (by rw[wL];omega),?_⟩
   refine⟨_,rfl,s2.upd Dx,?_⟩
   rw[a_]
   have e:(if((K01.tX old new i (j+1):Nat):Int)>((K01.tX old new (i+1) j:Nat):Int) then((K01.tX old new i (j+1):Nat):Int) else((K01.tX old new (i+1) j:Nat):Int))=((K01.tX old new i j:Nat):Int):=by split<;>omega
   rw[e,hj,Bo hm]
 ·rintro Z H2 ⟨v,rfl,s2,h2⟩
  refine⟨_,rfl,k p H2 s2 Dx ?_⟩
  rw[h2,FY]
def Jn(H:Hp)(old new:List Str)(rows:List V)(OU:Nat):Prop:=rows.length=old.length+1/\∀i,i<=old.length->∃a,rows[i]?=some (.ref a)/\(OU<=i->H a=some (.lst (tab old new i)))
abbrev W4:List Str:=["old","new","table","first","place"]
theorem Ih:fN ["old","new","table","first","place"] ["old","new"] (e_ Px):=⟨rfl,rfl,rfl,by decide+kernel,rfl,by decide+kernel,by decide+kernel⟩
def Nu:Sp:=λvs H Q _=>∃(old new:List Str)(o n:Addr),vs=[.ref o,.ref n]/\H o=some (.lst (fZ old))/\H n=some (.lst (fZ new))/\old.length<=1000/\new.length<=1000/\
 ∀p H' rows,fG H H'->H p=none->H' p=some (.lst rows)->Jn H' old new rows 0->Q (.ref p) H'
theorem FZ(new:List Str)(n:Nat)(h:n=new.length+1):(List.replicate n [V.int 0]).flatten=tab [] new 0:=by
 rw[yv [] new 0 n h]
 unfold part tab
 refine abU λj _=>?_
 rw[show K01.tX ([]:List Str) new 0 j=0 from K01.vw (.inl (by simp))]
 split<;>rfl
theorem Ii(old new:List Str)(n:Nat)(h:n=new.length+1):(List.replicate n [V.int 0]).flatten=tab old new old.length:=by
 rw[FZ new n h]
 unfold tab
 refine abU λj _=>?_
 rw[show K01.tX ([]:List Str) new 0 j=0 from K01.vw (.inl (by simp)),K01.vw (.inl (Q2 _))]
theorem Nv{f fC:Addr}{fd Ms:FuncData}(F:uK K "most_pairs" "most_pairs" Px f fd)(T:Txt mg)(C:uK K "counts_with" "counts_with" Pw fC Ms)(bC:Binds K Ms ["text","new","below"] [])(mC:mg "counts_with"=some (.ref fC)) :
  gS P w K mg base lR 2 f fd ["old","new"] Nu:=by
 have GC:gS P w K mg base lR 1 fC Ms ["text","new","below"] Nr:=Nt C T
 refine F.qW Ih λjm A outer s H vs Q E hr h=>?_
 obtain⟨old,new,o,n,rfl,ho,hn,Rt,vd,k⟩:=h
 refine⟨_,de (Ji (j:=2) W4 (e_ Px).names [4] Ih.nd rfl rfl rfl (nq rfl T.range (b_ (gU iS (hU gR (by rfl) T.len aaS (b_ (pv 0) eV)) fJ) eV)) rfl (by decide+kernel)
   (λ_ _ _ _=>iI (i:=4) Ih.nd rfl (Or.inl rfl)) (λ_ _ _ _=>yY) (λ_ _ _ _=>⟨_,gU B9 (jq (b_ fJ eV)) (gU iS (hU gR (by rfl) T.len aaS (b_ (pv 1) eV)) fJ),by(try simp only [j9]);rfl⟩))
  (de (ip aat rfl (tS rfl T.range (b_ (gU yN (hU gR (by rfl) T.len aaS (b_ (pv 0) eV)) fJ) (b_ (si om fJ) (b_ (si om fJ) eV)))) (iI (i:=3) Ih.nd rfl (Or.inl rfl))
   (d_ (yM (so GC hr rfl mC C.kp bC .nil pe (b_ (k_ jK (pv 0) (pv 3) (λ_ _=>rfl)) (b_ (pv 1) (b_ (k_ jK (pv 2) (gU iS (pv 3) fJ) (λ_ _=>rfl)) eV)))) (yL (pv 2) (pv 3) set_list))))
  (d_ (f_ (pv 2)))),?_⟩
 refine Cb ?_;intro _ _
 refine⟨_,rfl,o,_,rfl,.inl (gP.of ho),_,_,rfl,rfl,_,rfl,by simp<;>omega,by simp<;>omega,?_⟩
 have en:(((fZ old).length:Int)+1).toNat=old.length+1:=by simp<;>omega
 rw[en]
 let Jv:=λ(m:Nat) (ys:List V) (Z:St) (H2:Hp)=>∃v,Z=[rr o,rr n,none,none,v]/\fG H H2/\ys.length=m/\∀i,i<m->∃a,ys[i]?=some (.ref a)/\H a=none/\H2 a=some (.lst (tab old new old.length))
 refine E9 (by have:sizeLine=2 ^ 24:=rfl;omega) Jv
  ⟨none,rfl,fG.refl H,rfl,λi hi=>absurd hi (Nat.not_lt_zero _)⟩ (by rintro _ _ _ _ ⟨_,_,_,e,_⟩;exact Nat.le_of_eq e) ?_ ?_
 ·rintro m ys Z H2 hm ⟨v,rfl,s2,hy,GU⟩
  refine⟨lU,λl Mn=>?_⟩
  have s3:fG H (upd H2 l (.lst [V.int 0])):=s2.new Mn
  refine⟨_,rfl,n,_,rfl,.inl (gP.of (s3 n _ hn)),_,_,rfl,rfl,l,_,_,rfl,rfl,a_,by simp<;>omega,by simp<;>omega,by simp;have:sizeLine=2 ^ 24:=rfl;omega,λp hp=>?_⟩
  rw[Ii old new _ (show(((fZ new).length:Int)+1).toNat=new.length+1 by simp<;>omega)]
  have n_:p≠l:=λz=>by rw[z,a_] at hp;cases hp
  have zS:H2 p=none:=by rw[c_ n_] at hp;exact hp
  refine⟨_,rfl,s3.new hp,by rw[RX,hy];rfl,λi hi=>?_⟩
  by_cases e:i<m
  ·obtain⟨a,e1,e2,e3⟩:=GU i e
   refine⟨a,by rw[abH (by omega)];exact e1,e2,?_⟩
   rw[c_ (fz e3 zS),c_ (fz e3 Mn)]
   exact e3
  ·have:i=m:=by omega
   subst this
   exact⟨p,by rw[abh (by omega),hy];simp,s2.free zS,a_⟩
 ·rintro ys Z H2 ⟨v,rfl,s2,hy,GU⟩ p hp
  have s3:fG H (upd H2 p (.lst ys)):=s2.new hp
  have Dx:H p=none:=s2.free hp
  refine⟨_,rfl,o,_,rfl,.inl (gP.of (s3 o _ ho)),_,_,rfl,rfl,_,rfl,_,rfl,_,_,rfl,⟨by simp<;>omega,by simp<;>omega,by omega,by omega⟩,?_⟩
  have en:((((fZ old).length:Int)-1) - -1).toNat=old.length:=by simp<;>omega
  rw[en]
  let Jv:=λ(m:Nat) (Z:St) (H3:Hp)=>∃v w rows,Z=[rr o,rr n,rr p,v,w]/\fG H H3/\H3 p=some (.lst rows)/\Jn H3 old new rows (old.length-m)/\∀i a,i<=old.length->rows[i]?=some (.ref a)->a≠p
  refine rF Jv
   ⟨_,_,ys,rfl,s3,a_,⟨hy,λi hi=>?_⟩,λi a hi ha=>?_⟩ ?_ ?_
  ·obtain⟨a,e1,e2,e3⟩:=GU i (by omega)
   refine⟨a,e1,λz=>?_⟩
   have:i=old.length:=by omega
   subst this
   rw[c_ (fz e3 hp)]
   exact e3
  ·obtain⟨a',e1,e2,e3⟩:=GU i (by omega)
   rw[ha] at e1
   cases e1
   exact fz e3 hp
  ·rintro m Z H3 hm ⟨v,w',rows,rfl,s4,h4,tb,nb⟩
   obtain⟨i,hi⟩:∃i,i=old.length-1-m:=⟨_,rfl⟩
   have Ot:i<old.length:=by omega
   rw[show((fZ old).length:Int)-1+(m:Int) * -1=(i:Int) by simp<;>omega]
   have PZ:old[i]?=some old[i]:=QU Ot
   obtain⟨b,e1,e2⟩:=tb.2 (i+1) (by omega)
   refine⟨_,rfl,_,rfl,o,_,_,_,rfl,rfl,gP.of (s4 o _ ho),jj rfl (sv PZ),_,rfl,_,rfl,_,rfl,_,_,rfl,rfl,p,_,_,_,rfl,rfl,gP.of h4,jj (j:=i+1) (by omega) e1,?_⟩
   refine⟨old,new,i,_,n,b,rfl,PZ,s4 n _ hn,e2 (by omega),vd,λq H5 s5 U1 h5=>?_⟩
   have U2:q≠p:=λz=>by rw[z,h4] at U1;cases U1
   refine⟨_,rfl,_,rfl,p,rows,_,i,rfl,rfl,s5 p _ h4,y7 rfl (by rw[tb.1];omega),?_⟩
   refine⟨_,_,_,rfl,(s4.trans s5).upd Dx,a_,⟨by rw[aci];exact tb.1,λi' zT=>?_⟩,λi' a zT ha=>?_⟩
   ·by_cases e:i'=i
    ·subst e
     refine⟨q,by rw[aa5 (by rw[tb.1];omega)],λ_=>?_⟩
     rw[c_ U2];exact h5
    ·obtain⟨a,a1,a2⟩:=tb.2 i' zT
     refine⟨a,by rw[abf (λz=>e z.symm)];exact a1,λz=>?_⟩
     rw[c_ (nb i' a zT a1)]
     exact s5 a _ (a2 (by omega))
   ·by_cases e:i'=i
    ·subst e
     rw[aa5 (by rw[tb.1];omega)] at ha
     cases ha
     exact U2
    ·rw[abf (λz=>e z.symm)] at ha
     exact nb i' a zT ha
  ·rintro Z H3 ⟨v,w',rows,rfl,s4,h4,tb,nb⟩
   refine⟨_,rfl,k p H3 rows s4 Dx h4 ?_⟩
   rw[Nat.sub_self] at tb
   exact tb
end
end Kp
namespace K01
theorem zA{Z:Type}[DecidableEq Z]{a:Z}{new:List Z}{j k:Nat}(hj:j<=k)(hk:new[k]?=some a)(hm:∀l,j<=l->l<k->new[l]?≠some a):iq a new j=some k:=by
 cases e:iq a new j with
 | none=>exact absurd hk (l4 e k hj)
 | some k'=>
  obtain⟨h1,h2,h3⟩:=jE e
  rcases Nat.lt_trichotomy k k' with h|h|h
  ·exact absurd hk (h3 k hj h)
  ·rw[h]
  ·exact absurd h2 (hm k' h1 h)
theorem zB{Z:Type}[DecidableEq Z]{a:Z}{new:List Z}{j:Nat}(hm:∀l,j<=l->l<new.length->new[l]?≠some a):iq a new j=none:=by
 cases e:iq a new j with
 | none=>rfl
 | some k'=>
  obtain⟨h1,h2,h3⟩:=jE e
  exact absurd h2 (hm k' h1 (List.getElem?_eq_some_iff.mp h2).1)
end K01
namespace Kp
open PySem L2
section
variable{P:Program}{w:World}{K:Qqy}{mg:Qqx}{base:Heap}
noncomputable def Q8:Option Nat->V
 | none=>.iQ
 | some k=>.int k
theorem Nw:fN ["texts","text","start","place"] ["texts","text","start"] (e_ Q7):=⟨rfl,rfl,rfl,by decide+kernel,rfl,by decide+kernel,by decide+kernel⟩
def Nx:Sp:=λvs H Q _=>∃(new:List Str)(t:Str)(n:Addr)(j:Nat),vs=[.ref n,.str t,.int j]/\H n=some (.lst (fZ new))/\new.length<=1000/\j<=1000/\Q (Q8 (K01.iq t new j)) H
theorem Ny{f:Addr}{fd:FuncData}(F:uK K "place_from" "place_from" Q7 f fd)(T:Txt mg):gS P w K mg base lR 1 f fd ["texts","text","start"] Nx:=by
 refine F.qW Nw λjm A outer s H vs Q E hr h=>?_
 obtain⟨new,t,n,j,rfl,hn,hl,hj,k⟩:=h
 refine⟨_,de (ip aat rfl (x6 rfl T.range (b_ (pv 2) (b_ (hU gR (by rfl) T.len aaS (b_ (pv 0) eV)) eV))) (iI (i:=3) Nw.nd rfl (Or.inl rfl))
   (d_ (iw (jo uF (k_ jK (pv 0) (pv 3) (λ_ _=>rfl)) (pv 1) (jS _)) (d_ (f_ (pv 3))) gQ)))
  (d_ (f_ vF)),?_⟩
 refine Fc ?_;intro _
 refine⟨_,rfl,_,rfl,n,_,rfl,.inl (gP.of hn),_,_,rfl,⟨by omega,by omega,by simp<;>omega,by simp<;>omega⟩,?_⟩
 let Jv:=λ(m:Nat) (Z:St) (H2:Hp)=>∃v,Z=[rr n,rs t,ri j,v]/\H2=H/\∀l,j<=l->l<j+m->new[l]?≠some t
 refine lT Jv ⟨none,rfl,rfl,λl h1 h2=>by omega⟩ ?_ ?_
 ·rintro m Z H2 hm ⟨v,rfl,rfl,h2⟩
  have hm:j+m<new.length:=by simp at hm;omega
  rw[show(j:Int)+(m:Int)=((j+m:Nat):Int) by omega]
  have LW:new[j+m]?=some new[j+m]:=QU hm
  refine⟨_,rfl,_,rfl,n,_,_,_,rfl,rfl,gP.of hn,jj rfl (sv LW),_,rfl,rfl,_,rfl,?_⟩
  refine tQ (λhc=>?_) (λhc=>?_)
  ·have hc:new[j+m]=t:=by have:=aaz hc;injection this
   rw[hc] at LW
   rw[K01.zA (Nat.le_add_right j m) LW h2] at k
   exact⟨_,rfl,k⟩
  ·have hc:¬new[j+m]=t:=λz=>hc (by rw[z];exact Ug rfl)
   refine⟨_,rfl,rfl,λl h3 h4=>?_⟩
   by_cases e:l=j+m
   ·subst e
    rw[LW]
    intro z
    exact hc (aaf z)
   ·exact h2 l h3 (by omega)
 ·rintro Z H2 ⟨v,rfl,rfl,h2⟩
  rw[K01.zB (j:=j) λl h3 h4=>h2 l h3 (by simp<;>omega)] at k
  exact k
def kT(H:Hp)(q:Nat×Nat)(v:V):Prop:=∃a,v=.ref a/\H a=some (.tup [.int q.1,.int q.2])
abbrev iF(H:Hp)(l:List (Nat×Nat))(vs:List V):Prop:=Paired (kT H) l vs
theorem iF.keep{H H':Hp}{l:List (Nat×Nat)}{vs:List V}(h:iF H l vs)(k:∀a xs,H a=some (.tup xs)->H' a=some (.tup xs)):iF H' l vs:=
 Paired.j5 h λq v ⟨a,e,h⟩=>⟨a,e,k a _ h⟩
theorem K5:fN ["old","new","table","pairs","start","first","second"] ["old","new"] (e_ Jm):=⟨rfl,rfl,rfl,by decide+kernel,rfl,by decide+kernel,by decide+kernel⟩
def Ul:Sp:=λvs H Q _=>∃(old new:List Str)(o n:Addr),vs=[.ref o,.ref n]/\H o=some (.lst (fZ old))/\H n=some (.lst (fZ new))/\old.length<=1000/\new.length<=1000/\
 ∀p H' ps,fG H H'->H p=none->H' p=some (.lst ps)->iF H' (K01.kept old new) ps->Q (.ref p) H'
theorem Ij{f fM fC fP:Addr}{fd So Ms Sq:FuncData}(F:uK K "kept" "kept" Jm f fd)(T:Txt mg)(C:uK K "counts_with" "counts_with" Pw fC Ms)(bC:Binds K Ms ["text","new","below"] [])(mC:mg "counts_with"=some (.ref fC))
  (M:uK K "most_pairs" "most_pairs" Px fM So) (bM:Binds K So ["old","new"] []) (mM:mg "most_pairs"=some (.ref fM)) (Pf:uK K "place_from" "place_from" Q7 fP Sq) (bP:Binds K Sq ["texts","text","start"] []) (mP:mg "place_from"=some (.ref fP)) :
  gS P w K mg base lR 3 f fd ["old","new"] Ul:=by
 have GM:gS P w K mg base lR 2 fM So ["old","new"] Nu:=Nv M T C bC mC
 have GP:gS P w K mg base lR 2 fP Sq ["texts","text","start"] Nx:=(Ny Pf T).mono (by decide)
 refine F.qW K5 λjm A outer s H vs Q E hr h=>?_
 obtain⟨old,new,o,n,rfl,ho,hn,Rt,vd,k⟩:=h
 refine⟨_,de (mR (i:=2) K5.nd rfl (Or.inl rfl) (so GM hr rfl mM M.kp bM .nil pe (b_ (pv 0) (b_ (pv 1) eV))))
  (de (mR (i:=3) K5.nd rfl (Or.inl rfl) (jq eV))
  (de (mR (i:=4) K5.nd rfl (Or.inl rfl) fJ)
  (de (ip aat rfl (nq rfl T.range (b_ (hU gR (by rfl) T.len aaS (b_ (pv 0) eV)) eV)) (iI (i:=5) K5.nd rfl (Or.inl rfl))
   (de (mR (i:=6) K5.nd rfl (Or.inl rfl) (so GP hr rfl mP Pf.kp bP .nil pe (b_ (pv 1) (b_ (k_ jK (pv 0) (pv 5) (λ_ _=>rfl)) (b_ (pv 4) eV)))))
   (d_ (iw (pw_and (iR (j6 (pv 6))) (pw_and1 (jo uF
     (gU iS (k_ jK (k_ jK (pv 2) (gU iS (pv 5) fJ) (λ_ _=>rfl)) (gU iS (pv 6) fJ) (λ_ _=>rfl)) fJ)
     (k_ jK (k_ jK (pv 2) (pv 5) (λ_ _=>rfl)) (pv 4) (λ_ _=>rfl)) (jS _)))).pt
    (de (gY (lI aap aaw aax iA (pv 3) (b_ (B3 (b_ (pv 5) (b_ (pv 6) eV))) eV)))
    (d_ (mR (i:=4) K5.nd rfl (Or.inl rfl) (gU iS (pv 6) fJ))))
    gQ))))
  (d_ (f_ (pv 3)))))),?_⟩
 refine M6 ?_;intro _ _ _ _
 refine⟨_,rfl,_,rfl,old,new,o,n,rfl,ho,hn,Rt,vd,λtb H1 rows s1 Sd h1 OV=>?_⟩
 refine⟨lU,λpr Qb=>?_⟩
 have Sr:H pr=none:=s1.free Qb
 refine⟨_,rfl,o,_,rfl,.inl (gP.of (s1.new Qb o _ ho)),_,rfl,by simp<;>omega,by simp<;>omega,?_⟩
 have en:((fZ old).length:Int).toNat=old.length:=by simp
 rw[en]
 refine lT (λm Z H2=>∃(j:Nat)(acc:List (Nat×Nat))(ps:List V)(v w:Option V),Z=[rr o,rr n,rr tb,rr pr,ri j,v,w]/\fG H1 H2/\H2 pr=some (.lst ps)/\iF H2 acc ps/\acc.length<=m/\j<=new.length/\
   acc++K01.nB new m (old.drop m) j=K01.kept old new) ⟨0,[],[],none,none,rfl,(fG.refl H1).new Qb,a_,.nil,Q2 _,aaD _,rfl⟩ ?_ ?_
 ·rintro m Z H2 hm ⟨j,acc,ps,v,w',rfl,s2,h2,pa,qO,hj,hk⟩
  rw[show(0:Int)+(m:Int)=(m:Int) by omega]
  have Yf:old[m]?=some old[m]:=QU hm
  have hd:old.drop m=old[m]::old.drop (m+1):=aa_ hm
  rw[hd,K01.nB] at hk
  refine⟨_,rfl,_,rfl,_,rfl,o,_,_,_,rfl,rfl,gP.of (s2 o _ (s1 o _ ho)),jj rfl (sv Yf),_,rfl,new,_,n,j,rfl,s2 n _ (s1 n _ hn),vd,by omega,?_⟩
  cases e:K01.iq old[m] new j with
  | none=>
   rw[e] at hk
   refine⟨_,rfl,_,rfl,su (by rfl) (lY ?_)⟩
   exact⟨j,acc,ps,_,_,rfl,s2,h2,pa,by omega,hj,hk⟩
  | some q=>
   rw[e] at hk
   simp only at hk
   obtain⟨hq1,Yg,hq3⟩:=K01.jE e
   have OW:q<new.length:=(List.getElem?_eq_some_iff.mp Yg).1
   obtain⟨a1,Yh,Ss⟩:=OV.2 (m+1) (by omega)
   obtain⟨a0,Yi,Su⟩:=OV.2 m (by omega)
   have Ss:=s2 a1 _ (Ss (aaD _))
   have Su:=s2 a0 _ (Su (aaD _))
   have OX:H2 tb=some (.lst rows):=s2 tb _ h1
   refine⟨_,rfl,_,rfl,AM (by rfl) ?_⟩
   refine⟨_,rfl,_,rfl,_,_,rfl,rfl,tb,_,_,_,rfl,rfl,gP.of OX,jj (j:=m+1) (by omega) Yh,_,rfl,_,_,rfl,rfl,a1,_,_,_,rfl,rfl,gP.of Ss,jj (j:=q+1) (by omega) (zz (by omega)),_,_,rfl,rfl,
    _,rfl,_,rfl,tb,_,_,_,rfl,rfl,gP.of OX,jj rfl Yi,_,rfl,a0,_,_,_,rfl,rfl,gP.of Su,jj rfl (zz (by omega)),rfl,_,rfl,?_⟩
   refine tQ (λhc=>?_) (λhc=>?_)
   ·have hc:((K01.tX old new (m+1) (q+1):Nat):Int)+1=((K01.tX old new m j:Nat):Int):=by have:=aaz hc;injection this
    have yF:K01.lcs (old.drop (m+1)) (new.drop (q+1))+1=K01.lcs (old[m]::old.drop (m+1)) (new.drop j):=by rw[<-hd];unfold K01.tX at hc;omega
    rw[aah yF] at hk
    refine⟨_,rfl,.inl ⟨rfl,_,gP.of h2⟩,_,rfl,_,rfl,lU,λt ht=>?_⟩
    have n_:=pa.length
    have U3:pr≠t:=fz h2 ht
    refine⟨pr,ps,_,rfl,rfl,by rw[c_ U3];exact h2,by have:sizeLine=2 ^ 24:=rfl;omega,?_⟩
    refine⟨_,rfl,_,_,rfl,rfl,q+1,acc++[(m,q)],ps++[.ref t],_,_,rfl,(s2.new ht).upd Qb,a_,?_,by rw[RX];simp;omega,by omega,by rw[aaY];exact hk⟩
    refine Paired.snoc (pa.keep λa xs ha=>?_) ⟨t,rfl,?_⟩
    ·rw[c_ (iz ha h2 (by intro z;cases z)),c_ (fz ha ht)];exact ha
    ·rw[c_ (abz U3),a_]
     rfl
   ·have hc:¬((K01.tX old new (m+1) (q+1):Nat):Int)+1=((K01.tX old new m j:Nat):Int):=λz=>hc (Ug (aaT V.int z))
    have yF:¬K01.lcs (old.drop (m+1)) (new.drop (q+1))+1=K01.lcs (old[m]::old.drop (m+1)) (new.drop j):=by rw[<-hd];unfold K01.tX at hc;omega
    rw[aab yF] at hk
    exact⟨j,acc,ps,_,_,rfl,s2,h2,pa,by omega,hj,hk⟩
 ·rintro Z H2 ⟨j,acc,ps,v,w',rfl,s2,h2,pa,qO,hj,hk⟩
  rw[List.drop_length,K01.nB,aaB] at hk
  rw[hk] at pa
  exact⟨_,rfl,k pr H2 ps (s1.trans s2) Sr h2 pa⟩
end
end Kp
namespace PK
open PySem L2 PM
open Kp (kT iF)
theorem K6(a b c d:V):iZ "lower_name" d (iZ "upper_name" c (iZ "text" b (iZ "name" a [])))=Ib a b c d:=by kernel_rfl
theorem K7(a b c d e:V):iZ "other" e (iZ "cuts" d (iZ "puts" c (iZ "file" b (iZ "name" a []))))=Ic a b c d e:=by kernel_rfl
def Md(a l:Addr):List (Str×V):=[("ahead",.ref a),("lines",.ref l)]
theorem K8(a l:Addr):iZ "lines" (.ref l) (iZ "ahead" (.ref a) [])=Md a l:=by kernel_rfl
theorem lV(a l:Addr):(Md a l).lookup ("lines":Str)=some (V.ref l):=by kernel_rfl
theorem Cy(a l:Addr):(Md a l).lookup ("ahead":Str)=some (V.ref a):=by kernel_rfl
theorem K9(a l:Addr):(Md a l).lookup ("is_ahead":Str)=none:=by kernel_rfl
theorem K_(a l:Addr):(Md a l).lookup ("quarrelling":Str)=none:=by kernel_rfl
theorem Ed(a:Addr):(iZ ("ahead":Str) (.ref a) []).lookup ("ahead":Str)=some (V.ref a):=by kernel_rfl
def Cz(A:Ad)(H:Hp)(p:Addr)(al row:List Ln):Prop:=∃dx ah l,H p=some (.ins A.fY dx (Md ah l))/\zx H ah al/\oT A H l row
theorem Cz.same{A:Ad}{H H':Hp}{p:Addr}{al row:List Ln}(x:Cz A H p al row)(s:fG H H'):Cz A H' p al row:=by
 obtain⟨dx,ah,l,h1,h2,h3⟩:=x
 exact⟨dx,ah,l,s _ _ h1,h2.same s,h3.same s⟩
section
variable{P:Program}{w:World}{K:Qqy}{mg:Qqx}{base:Heap}{A:Ad}
def Nz(A:Ad):Sp:=λvs H Q _=>∃(p dx:Addr)(a b c d:V),vs=[.ref p,a,b,c,d]/\H p=some (.ins A.fT dx [])/\∀H',(∀x,x≠p->H' x=H x)->H' p=some (.ins A.fT dx (Ib a b c d))->Q .iQ H'
theorem zC(T:Txt mg)(O:Ok K mg A):gS P w K mg base lR 1 A.lC A.pj ["self","name","text","upper_name","lower_name"] (Nz A):=by
 refine O.rh.f.qW tZ λjm A0 outer s H vs Q E hr h=>?_
 obtain⟨p,dx,a,b,c,d,rfl,hp,k⟩:=h
 refine⟨_,(de (j7 (pv 0) (pv 1) rfl)
  (de (j7 (pv 0) (pv 2) rfl)
  (de (j7 (pv 0) (pv 3) rfl)
  (d_ (j7 (pv 0) (pv 4) rfl))))),?_⟩
 refine L9 ?_;intro _ _ _
 refine⟨_,rfl,_,rfl,p,A.fT,dx,_,rfl,hp,O.ij,O.fV,(by show 0<1000;decide),?_⟩
 refine⟨_,rfl,_,rfl,p,A.fT,dx,_,rfl,a_,O.ij,O.jr,(by show 1<1000;decide),?_⟩
 refine⟨_,rfl,_,rfl,p,A.fT,dx,_,rfl,a_,O.ij,O.gZ,(by show 2<1000;decide),?_⟩
 refine⟨_,rfl,_,rfl,p,A.fT,dx,_,rfl,a_,O.ij,O.g0,(by show 3<1000;decide),?_⟩
 exact k _ (λx hx=>by rw[c_ hx,c_ hx,c_ hx,c_ hx]) (Eq.trans a_ (aaT (λl=>some (HO.ins A.fT dx l)) (K6 a b c d)))
def NA(A:Ad):Sp:=λvs H Q _=>∃(p dx:Addr)(a b c d e:V),vs=[.ref p,a,b,c,d,e]/\H p=some (.ins A.fR dx [])/\∀H',(∀x,x≠p->H' x=H x)->H' p=some (.ins A.fR dx (Ic a b c d e))->Q .iQ H'
theorem xR(T:Txt mg)(O:Ok K mg A):gS P w K mg base lR 1 A.kP A.nG ["self","name","file","puts","cuts","other"] (NA A):=by
 refine O.pY.f.qW sH λjm A0 outer s H vs Q E hr h=>?_
 obtain⟨p,dx,a,b,c,d,e,rfl,hp,k⟩:=h
 refine⟨_,(de (j7 (pv 0) (pv 1) rfl)
  (de (j7 (pv 0) (pv 2) rfl)
  (de (j7 (pv 0) (pv 3) rfl)
  (de (j7 (pv 0) (pv 4) rfl)
  (d_ (j7 (pv 0) (pv 5) rfl)))))),?_⟩
 refine M6 ?_;intro _ _ _ _
 refine⟨_,rfl,_,rfl,p,A.fR,dx,_,rfl,hp,O.ir,O.h_,(by show 0<1000;decide),?_⟩
 refine⟨_,rfl,_,rfl,p,A.fR,dx,_,rfl,a_,O.ir,O.iO,(by show 1<1000;decide),?_⟩
 refine⟨_,rfl,_,rfl,p,A.fR,dx,_,rfl,a_,O.ir,O.ja,(by show 2<1000;decide),?_⟩
 refine⟨_,rfl,_,rfl,p,A.fR,dx,_,rfl,a_,O.ir,O.jb,(by show 3<1000;decide),?_⟩
 refine⟨_,rfl,_,rfl,p,A.fR,dx,_,rfl,a_,O.ir,O.ie,(by show 4<1000;decide),?_⟩
 exact k _ (λx hx=>by rw[c_ hx,c_ hx,c_ hx,c_ hx,c_ hx]) (Eq.trans a_ (aaT (λl=>some (HO.ins A.fR dx l)) (K7 a b c d e)))
def Ik(A:Ad):Sp:=λvs H Q _=>∃(p dx a:Addr)(ps:List Pt)(f:Str),vs=[.ref p,.ref a,.str f]/\H p=some (.ins A.fY dx [])/\uj A H a ps/\Small ps/\
 ((fA ps f).map (·.nm)).Nodup/\oB (fA ps f)/\FC (fA ps f)/\
 ∀(H':Hp),(∀b o,H b=some o->b≠p->H' b=some o)->Cz A H' p (fA ps f) (rowOf (Ah (fA ps f)) (ik ps f))->Q .iQ H'
theorem kq.off{H H':Hp}{p C dx:Addr}{fs:List (Str×V)}{v:V}{n:Nm}(x:kq H v n)(hp:H p=some (.ins C dx fs))(s:∀b o,H b=some o->b≠p->H' b=some o):kq H' v n:=by
 obtain⟨t,e,h⟩:=x
 exact⟨t,e,s _ _ h (iz h hp (λz=>by cases z))⟩
theorem Ct.off{H H':Hp}{p C dx:Addr}{fs:List (Str×V)}{v:V}{n:Option Nm}(x:Ct H v n)(hp:H p=some (.ins C dx fs))(s:∀b o,H b=some o->b≠p->H' b=some o):Ct H' v n:=by
 cases n with
 | none=>exact x
 | some n=>exact kq.off x hp s
theorem lF.off{H H':Hp}{p C dx a:Addr}{fs:List (Str×V)}{l:Ln}(x:lF A H a l)(hp:H p=some (.ins C dx fs))(hf:fs.length<2)(s:∀b o,H b=some o->b≠p->H' b=some o):lF A H' a l:=by
 obtain⟨Sv,vn,vu,vl,h,h1,h2,h3⟩:=x
 have:a≠p:=λz=>by
  rw[z,hp] at h
  have e:=aaf h
  injection e with _ _ e
  rw[e] at hf
  exact absurd hf (by unfold Ib;simp)
 exact⟨Sv,vn,vu,vl,s _ _ h this,h1.off hp s,h2.off hp s,h3.off hp s⟩
theorem oT.off{H H':Hp}{p C dx a:Addr}{fs:List (Str×V)}{ls:List Ln}(x:oT A H a ls)(hp:H p=some (.ins C dx fs))(hf:fs.length<2)(s:∀b o,H b=some o->b≠p->H' b=some o):oT A H' a ls:=by
 obtain⟨as,h,q⟩:=x
 exact⟨as,s _ _ h (iz h hp (λz=>by cases z)),Paired.j5 q λ_ _ z=>z.off hp hf s⟩
theorem wJ.off{H H':Hp}{p C dx a:Addr}{fs:List (Str×V)}{ns:List Nm}(x:wJ H a ns)(hp:H p=some (.ins C dx fs))(s:∀b o,H b=some o->b≠p->H' b=some o):wJ H' a ns:=by
 obtain⟨as,h,q⟩:=x
 exact⟨as,s _ _ h (iz h hp (λz=>by cases z)),Paired.j5 q λ_ _ z=>z.off hp s⟩
theorem n4.off{H H':Hp}{p C dx a:Addr}{fs:List (Str×V)}{pt:Pt}(x:n4 A H a pt)(hp:H p=some (.ins C dx fs))(hf:fs.length<2)(s:∀b o,H b=some o->b≠p->H' b=some o):n4 A H' a pt:=by
 obtain⟨Sv,vf,pu,cu,vo,h,h1,h2,h3,h4⟩:=x
 have:a≠p:=λz=>by
  rw[z,hp] at h
  have e:=aaf h
  injection e with _ _ e
  rw[e] at hf
  exact absurd hf (by unfold Ic;simp)
 exact⟨Sv,vf,pu,cu,vo,s _ _ h this,h1,h2.off hp hf s,h3.off hp s,h4⟩
theorem uj.off{H H':Hp}{p C dx a:Addr}{fs:List (Str×V)}{ps:List Pt}(x:uj A H a ps)(hp:H p=some (.ins C dx fs))(hf:fs.length<2)(s:∀b o,H b=some o->b≠p->H' b=some o):uj A H' a ps:=by
 obtain⟨as,h,q⟩:=x
 exact⟨as,s _ _ h (iz h hp (λz=>by cases z)),Paired.j5 q λ_ _ z=>z.off hp hf s⟩
theorem zx.off{H H':Hp}{p C dx a:Addr}{fs:List (Str×V)}{ls:List Ln}(x:zx H a ls)(hp:H p=some (.ins C dx fs))(s:∀b o,H b=some o->b≠p->H' b=some o):zx H' a ls:=by
 obtain⟨kvs,e1,e2⟩:=x
 refine⟨kvs,s _ _ e1 (iz e1 hp (λz=>by cases z)),λn hn=>?_⟩
 obtain⟨b,dk,z1,z2,z3⟩:=e2 n hn
 exact⟨b,dk,z1,s _ _ z2 (iz z2 hp (λz=>by cases z)),z3⟩
theorem xS(T:Txt mg)(O:Ok K mg A):gS P w K mg base lR 3 A.kQ A.nO ["self","patches","file"] (Ik A):=by
 have BK:=@zy P w K mg base A T O
 have qo:=@sX P w K mg base A T O
 have kX:=@mQ P w K mg base A T O
 have GV:=@Ec P w K mg base A T O
 refine O.p7.f.qW sI λjm A0 outer s H vs Q E hr h=>?_
 obtain⟨p,dx,a,ps,f,rfl,hp,ha,sm,nd,cl,tp,q⟩:=h
 have OY:xB (fA ps f).length:=aag (oU ps f) sm.gW
 have tI:=i5 ps f
 refine⟨_,(de (j7 (pv 0) (sy O.yq BK hr (b_ (sy O.ui qo hr (b_ (pv 1) (b_ (pv 2) eV))) eV)) rfl)
   (d_ (j7 (pv 0) (sy O.FP GV hr (b_ (sy O.mj kX hr (b_ (pv 1) (b_ (pv 2) eV))) (b_ (fS (pv 0) rfl) eV))) rfl))),?_⟩
 refine Fc ?_;intro _
 refine⟨_,rfl,_,rfl,a,ps,f,rfl,ha,sm,λl1 H1 s1 Qc OZ=>?_⟩
 refine⟨l1,_,rfl,OZ,OY,nd,cl,tp,λah H2 s2 Qd O0=>?_⟩
 have Sw:fG H H2:=s1.trans s2
 have zS:=Sw p _ hp
 refine⟨_,rfl,p,A.fY,dx,_,rfl,zS,O.jZ,O.iW,(by show 0<1000;decide),?_⟩
 have s3:∀b o,H2 b=some o->b≠p->(upd H2 p (.ins A.fY dx (iZ "ahead" (.ref ah) []))) b=some o:=λb o e n=>by rw[c_ n];exact e
 have Yk:=(ha.same Sw).off zS (by decide) s3
 have O1:=O0.off zS s3
 refine⟨_,rfl,_,rfl,a,ps,f,rfl,Yk,sm,λst H4 s4 Qe O2=>?_⟩
 have JJ:H4 p=some (.ins A.fY dx (iZ "ahead" (.ref ah) [])):=s4 p _ a_
 refine⟨_,rfl,p,A.fY,dx,_,_,rfl,JJ,O.jZ,O.iW,Ed ah,st,ah,ik ps f,fA ps f,rfl,O2,O1.same s4,aag tI.length_le OY,(tI.map _).nodup nd,λl hl=>Q3 (tI.subset hl),tp,λl H5 s5 h50 Yl=>?_⟩
 have Qf:=s5 p _ JJ
 refine⟨_,rfl,p,A.fY,dx,_,rfl,Qf,O.jZ,O.g6,(by show 1<1000;decide),?_⟩
 have s6:∀b o,H5 b=some o->b≠p->(upd H5 p (.ins A.fY dx (iZ "lines" (.ref l) (iZ "ahead" (.ref ah) [])))) b=some o:=λb o e n=>by rw[c_ n];exact e
 refine q _ (λb o hb nb=>?_) ⟨dx,ah,l,Eq.trans a_ (aaT (λl=>some (HO.ins A.fY dx l)) (K8 ah l)),?_,?_⟩
 ·rw[c_ nb]
  refine s5 b o (s4 b o ?_)
  rw[c_ nb]
  exact Sw b o hb
 ·exact((O1.same s4).same s5).off Qf s6
 ·exact Yl.off Qf (by show 1<2;decide) s6
open Classical in
def Q9(A:Ad):Sp:=λvs H Q _=>∃(p:Addr)(al row:List Ln)(i j:Nat)(a b:Ln),vs=[.ref p,.int i,.int j]/\Cz A H p al row/\row[i]?=some a/\row[j]?=some b/\b.nm∈al.map (·.nm)/\Q (.bl (decide (Ah al a.nm b.nm))) H
open Classical in
theorem Bp(T:Txt mg)(O:Ok K mg A):gS P w K mg base lR 1 A.nP A.nQ ["self","first","second"] (Q9 A):=by
 refine O.p8.f.qW sJ λjm A0 outer s H vs Q E hr h=>?_
 obtain⟨p,al,row,i,j,x,y,rfl,⟨dx,ah,l,h1,⟨kh,h2,h3⟩,⟨as,h4,h5⟩⟩,hi,hj,hy,q⟩:=h
 obtain⟨b,hb,Ym,vn,vu,vl,g1,⟨t,rfl,g2⟩,g3,g4⟩:=lq h5 hi
 obtain⟨c,hc,Yn,vn',vu',vl',k1,⟨t',rfl,k2⟩,k3,k4⟩:=lq h5 hj
 obtain⟨e,dk,z1,z2,z3⟩:=h3 y.nm hy
 have O3:(as.map V.ref)[i]?=some (.ref b):=by rw[W3,hb];rfl
 have Yo:(as.map V.ref)[j]?=some (.ref c):=by rw[W3,hc];rfl
 refine⟨_,(d_ (f_ (JW (pH (by exact iB hr) (fS (G8 (fS (pv 0) rfl) (pv 1)) rfl) (BO hr (fS (pv 0) rfl) (fS (G8 (fS (pv 0) rfl) (pv 2)) rfl)))))),?_⟩
 refine⟨_,rfl,p,A.fY,dx,_,_,rfl,h1,O.jZ,O.g6,lV ah l,_,rfl,l,_,_,_,rfl,rfl,gP.of h4,jj rfl O3,b,A.fT,Ym,_,_,rfl,g1,O.ij,O.fV,iH,?_⟩
 refine⟨_,rfl,p,A.fY,dx,_,_,rfl,h1,O.jZ,O.iW,Cy ah l,_,rfl,p,A.fY,dx,_,_,rfl,h1,O.jZ,O.g6,lV ah l,_,rfl,l,_,_,_,rfl,rfl,gP.of h4,jj rfl Yo,c,A.fT,Yn,_,_,rfl,k1,O.ij,O.fV,iH,ah,.ref e,rfl,?_,e,_,rfl,i_.t (k:=nk x.nm) z2 g2,?_⟩
 ·have:=i_.t (k:=nk y.nm) h2 k2
  rw[z1] at this
  exact this
 ·have e2:(hZ dk (nk x.nm)).isSome=decide (Ah al x.nm y.nm):=by
   rw[abA,aa4];exact z3 x.nm
  rw[e2]
  exact q
def Q_(A:Ad):Sp:=λvs H Q _=>∃(p:Addr)(al row:List Ln),vs=[.ref p]/\Cz A H p al row/\(∀l∈row,l.nm∈al.map (·.nm))/\xB row.length/\∀r H' vs,fG H H'->H r=none->H' r=some (.lst vs)->iF H' (ju (Ah al) row) vs->Q (.ref r) H'
open Classical in
noncomputable def uk(lt:Nm->Nm->Prop)(row:List Ln)(i m:Nat):List (Nat×Nat):=((List.range' (i+1) m).filter λj=>decide (¬ltAt lt row i j)).map λj=>(i,j)
noncomputable def Bq(lt:Nm->Nm->Prop)(row:List Ln)(i:Nat):List (Nat×Nat):=(List.range i).flatMap λi=>uk lt row i (row.length-(i+1))
theorem F_(lt:Nm->Nm->Prop)(row:List Ln):Bq lt row row.length=ju lt row:=rfl
theorem yw(lt:Nm->Nm->Prop)(row:List Ln)(i:Nat):Bq lt row (i+1)=Bq lt row i++uk lt row i (row.length-(i+1)):=by
 unfold Bq
 rw[ack,aaR,aav,abq,aaB]
theorem Ee(lt:Nm->Nm->Prop)(row:List Ln)(i m:Nat)(h:¬ltAt lt row i (i+1+m)):uk lt row i (m+1)=uk lt row i m++[(i,i+1+m)]:=by
 unfold uk
 rw[show m+1=m+1 from rfl,<-List.range'_append_1 (s:=i+1) (m:=m) (n:=1),aay,aai]
 congr 1
 show List.map _ (List.filter _ [i+1+m])=_
 rw[W5 (by simpa using h)]
 rfl
theorem CA(lt:Nm->Nm->Prop)(row:List Ln)(i m:Nat)(h:ltAt lt row i (i+1+m)):uk lt row i (m+1)=uk lt row i m:=by
 unfold uk
 rw[<-List.range'_append_1 (s:=i+1) (m:=m) (n:=1),aay,aai]
 show _++List.map _ (List.filter _ [i+1+m])=_
 rw[YI (by simpa using h)]
 simp
theorem Br(lt:Nm->Nm->Prop)(row:List Ln)(i m:Nat):(uk lt row i m).length<=m:=by
 unfold uk
 rw[Ou]
 exact aag (aaJ _ _) (by rw[List.length_range'];exact Q2 _)
theorem Bs(lt:Nm->Nm->Prop)(row:List Ln):∀i,(Bq lt row i).length<=i*row.length
 | 0=>aaD _
 | i+1=>by
  rw[yw,RX,Nat.succ_mul]
  have:=Bs lt row i
  have:=Br lt row i (row.length-(i+1))
  omega
open Classical in
theorem wM(T:Txt mg)(O:Ok K mg A):gS P w K mg base lR 2 A.lO A.lP ["self"] (Q_ A):=by
 have uy:=@Bp P w K mg base A T O
 refine O.kl.f.qW i8 λjm A0 outer s H vs Q E hr h=>?_
 obtain⟨p,al,row,rfl,S,Sx,lU,q⟩:=h
 obtain⟨dx,ah,l,h1,h2,⟨as,h4,h5⟩⟩:=id S
 have hlen:=aaj h5
 have BJ:row.length<=4000:=lU
 have sz:sizeLine=16777216:=aaC
 refine⟨_,(de (nA 1 i8 (jq eV))
   (de (ip aat rfl (nq rfl T.qA (b_ (hU gR (by rfl) T.q0 aaS (b_ (fS (pv 0) rfl) eV)) eV)) (vv 2 i8) (d_ (ip aat rfl (x6 rfl T.qA (b_ (gU iS (pv 2) fJ) (b_ (hU gR (by rfl) T.q0 aaS (b_ (fS (pv 0) rfl) eV)) eV))) (vv 3 i8) (d_ (iw (tM (vG (HL (pv 0) O.jZ O.p8 uy hr (b_ (pv 2) (b_ (pv 3) eV))))) (d_ (gY (lI aap aaw aax iA (pv 1) (b_ (B3 (b_ (pv 2) (b_ (pv 3) eV))) eV)))) gQ)))))
   (d_ (f_ (pv 1))))),?_⟩
 refine Cb ?_;intro _ _
 refine⟨L2.lU,λr tJ=>?_⟩
 have s1:fG H (upd H r (.lst [])):=(fG.refl H).new tJ
 have el:((as.map V.ref).length:Int)=(row.length:Int):=by rw[Ou,hlen]
 refine⟨_,rfl,p,A.fY,dx,_,_,rfl,s1 _ _ h1,O.jZ,O.g6,lV ah l,l,_,rfl,.inl (gP.of (s1 _ _ h4)),_,rfl,by omega,by omega,?_⟩
 rw[el,acb]
 let Jv:=λ(i:Nat) (Z:St) (H2:Hp)=>∃(v2 v3:Option V)(vs:List V),Z=[rr p,rr r,v2,v3]/\fG H H2/\H2 r=some (.lst vs)/\iF H2 (Bq (Ah al) row i) vs
 refine lT Jv ⟨none,none,[],rfl,s1,a_,.nil⟩ ?_ ?_
 ·rintro i Z H2 hi ⟨v2,v3,vs,rfl,s2,k1,k2⟩
  rw[show(0:Int)+(i:Int)=(i:Int) by omega]
  refine⟨_,rfl,_,_,rfl,rfl,_,rfl,p,A.fY,dx,_,_,rfl,s2 _ _ h1,O.jZ,O.g6,lV ah l,l,_,rfl,.inl (gP.of (s2 _ _ h4)),_,_,rfl,⟨by omega,by omega,by omega,by omega⟩,?_⟩
  rw[el,show((row.length:Int)-((i:Int)+1)).toNat=row.length-(i+1) by omega]
  let Jv:=λ(m:Nat) (Z:St) (H3:Hp)=>∃(v3:Option V)(vs:List V),Z=[rr p,rr r,ri i,v3]/\fG H H3/\H3 r=some (.lst vs)/\iF H3 (Bq (Ah al) row i++uk (Ah al) row i m) vs
  refine lT Jv ⟨v3,vs,rfl,s2,k1,by unfold uk;simpa using k2⟩ ?_ ?_
  ·rintro m Z H3 hm ⟨v3,vs,rfl,s3,k1,k2⟩
   rw[show(i:Int)+1+(m:Int)=((i+1+m:Nat):Int) by omega]
   have hj:i+1+m<row.length:=by omega
   have ei:row[i]?=some row[i]:=QU hi
   have ej:row[i+1+m]?=some row[i+1+m]:=QU hj
   have vd:vs.length=(Bq (Ah al) row i++uk (Ah al) row i m).length:=(aaj k2).symm
   have O4:=Bs (Ah al) row i
   have LS:=Br (Ah al) row i m
   have hb3:i*row.length<=4000*4000:=Nat.mul_le_mul (by omega) BJ
   rw[RX] at vd
   refine⟨_,rfl,p,dx,_,rfl,s3 _ _ h1,K9 ah l,_,rfl,_,rfl,p,al,row,i,i+1+m,_,_,rfl,S.same s3,ei,ej,Sx _ (List.getElem_mem hj),_,rfl,?_⟩
   have jI:ltAt (Ah al) row i (i+1+m)↔Ah al row[i].nm row[i+1+m].nm:=by
    constructor
    ·rintro⟨a,b,ha,hb,z⟩
     rw[ei] at ha;rw[ej] at hb;cases ha;cases hb
     exact z
    ·exact λz=>⟨_,_,ei,ej,z⟩
   by_cases hc:Ah al row[i].nm row[i+1+m].nm
   ·rw[Ug hc]
    exact lY ⟨_,vs,rfl,s3,k1,by rw[CA _ _ _ _ (jI.mpr hc)];exact k2⟩
   ·rw[aaa hc]
    refine nv ?_
    refine⟨_,rfl,.inl ⟨rfl,_,gP.of k1⟩,_,rfl,_,rfl,L2.lU,λt ht=>?_⟩
    have U4:r≠t:=fz k1 ht
    refine⟨r,vs,_,rfl,rfl,by rw[c_ U4];exact k1,by omega,?_⟩
    refine⟨_,vs++[.ref t],rfl,(s3.new ht).upd tJ,a_,?_⟩
    rw[Ee _ _ _ _ (λz=>hc (jI.mp z)),<-aaY]
    refine hV (Paired.j5 k2 λa v ⟨b,e,hb⟩=>⟨b,e,?_⟩) ⟨t,rfl,?_⟩
    ·rw[c_ (iz hb k1 (by intro z;cases z)),c_ (fz hb ht)];exact hb
    ·rw[c_ U4.symm,a_]
  ·rintro Z H3 ⟨v3,vs,rfl,s3,k1,k2⟩
   exact⟨_,_,vs,rfl,s3,k1,by rw[yw];exact k2⟩
 ·rintro Z H2 ⟨v2,v3,vs,rfl,s2,k1,k2⟩
  exact⟨_,rfl,q r H2 vs s2 tJ k1 (by rw[F_] at k2;exact k2)⟩
theorem Ct.upd{H:Hp}{v:V}{n:Option Nm}{x:Addr}{o o':HO}(h:Ct H v n)(hx:H x=some o')(ht:∀xs,o'≠.tup xs):Ct (L2.upd H x o) v n:=by
 cases n with
 | none=>exact h
 | some n=>exact kq.upd h hx ht
theorem lF.upd{A:Ad}{H:Hp}{a:Addr}{l:Ln}{x:Addr}{o o':HO}(h:lF A H a l)(hx:H x=some o')(ht:∀xs,o'≠.tup xs)(hi:∀C dx fs,o'≠.ins C dx fs):lF A (L2.upd H x o) a l:=by
 obtain⟨dx,vn,vu,vl,h0,h1,h2,h3⟩:=h
 exact⟨dx,vn,vu,vl,by rw[c_ (iz h0 hx (λz=>hi _ _ _ z.symm))];exact h0,h1.upd hx ht,h2.upd hx ht,h3.upd hx ht⟩
theorem CB{A:Ad}{H:Hp}{as:List Addr}{ls:List Ln}(p:Paired (lF A H) as ls){i:Nat}{l:Ln}(h:ls[i]?=some l):∃b,(as.map V.ref)[i]?=some (.ref b)/\lF A H b l:=by
 obtain⟨b,hb,z⟩:=lq p h
 exact⟨b,by rw[W3,hb];rfl,z⟩
def xT(p:Pt)(k:Nat):List (Option Nm):=p.iU.map some++(p.gW.take k).flatMap λl=>[l.up,l.lo]
theorem named_eq(p:Pt):named p=(xT p p.gW.length).filterMap id:=by
 unfold named xT
 rw[aaq,abG,List.filterMap_map]
 congr 1
 ·induction p.iU with
  | nil=>rfl
  | cons x r ih=>rw[aby];show _=x::_;rw[<-ih]
 ·induction p.gW with
  | nil=>rfl
  | cons x r ih=>
   rw[aav,aav,abG,ih]
   congr 1
   cases x.up<;>cases x.lo<;>rfl
theorem wN(p:Pt)(k:Nat):(xT p k).length<=p.iU.length+2*k:=by
 unfold xT
 rw[RX,Ou]
 have:∀(ls:List Ln),(ls.flatMap λl=>[l.up,l.lo]).length=2*ls.length:=λls=>by
  induction ls with
  | nil=>rfl
  | cons x r ih=>rw[aav,RX,ih];simp only [S7,List.length_nil];omega
 rw[this,aaE]
 omega
def Il(A:Ad):Sp:=λvs H Q _=>∃(a:Addr)(p:Pt),vs=[.ref a]/\n4 A H a p/\xB p.gW.length/\xB p.iU.length/\∀r H',fG H H'->H r=none->wJ H' r (named p)->Q (.ref r) H'
theorem s_(T:Txt mg)(O:Ok K mg A):gS P w K mg base lR 1 A.nH A.nI ["patch"] (Il A):=by
 refine O.pZ.f.qW jA λjm A0 outer s H vs Q E hr h=>?_
 obtain⟨a,p,rfl,⟨dx,vf,pu,cu,vo,g1,g2,⟨as,g3,OA⟩,⟨cs,g4,Mo⟩,g5⟩,CQ,BL,q⟩:=h
 have hlen:=aaj OA
 have JF:=aaj Mo
 have JL:p.gW.length<=4000:=CQ
 have GW:p.iU.length<=4000:=BL
 have sz:sizeLine=16777216:=aaC
 refine⟨_,(de (nA 1 jA (qv yT (by rfl) T.uh abC (b_ (fS (pv 0) rfl) eV)))
   (de (ip aat rfl (ib (fS (pv 0) rfl)) (vv 2 jA) (de (gY (lI aap aaw aax iA (pv 1) (b_ (fS (pv 2) rfl) eV)))
   (d_ (gY (lI aap aaw aax iA (pv 1) (b_ (fS (pv 2) rfl) eV))))))
   (d_ (f_ (vS nE (e_ jM).names [3] rfl (ib (pv 1)) rfl (by decide+kernel) (λ_ _ _ _=>(iI (i:=3) jA.nd rfl (Or.inl rfl))) (λ_ _ _ _=>⟨_,oq (iR (j6 (pv 3))),by(try simp only [j9]);rfl⟩) (λ_ _ _ _=>EB (pv 3))))))),?_⟩
 refine Cb ?_;intro _ _
 refine⟨_,rfl,a,A.fR,dx,_,_,rfl,g1,O.ir,O.jb,Bi,cu,cs,rfl,.inl (gP.of g4),λl hl=>?_⟩
 have s1:fG H (upd H l (.lst cs)):=(fG.refl H).new hl
 dsimp only [nj];refine Kz ?_;intro _
 let Jv:=λ(i:Nat) (Z:St) (H2:Hp)=>∃(v:Option V)(xs:List V),Z=[rr a,rr l,v,none]/\fG H H2/\H2 l=some (.lst xs)/\Paired (Ct H) xs (xT p i)
 refine⟨_,rfl,a,A.fR,dx,_,_,rfl,s1 _ _ g1,O.ir,O.ja,Bh,pu,rfl,⟨_,gP.of (s1 _ _ g3)⟩,jh (K:=K) (a:=pu) (xs:=as.map V.ref) Jv
  ⟨none,cs,rfl,s1,a_,?_⟩ (by rintro _ _ _ _ ⟨_,_,_,s2,_⟩;exact gP.of (s2 _ _ g3)) ?_ ?_⟩
 ·unfold xT
  rw[abJ,abq,aaB]
  clear JF GW BL q g4 s1
  generalize p.iU=ms at Mo
  induction Mo with
  | nil=>exact .nil
  | cons f t ih=>exact .cons f ih
 ·rintro i v Z H2 hx ⟨v0,xs,rfl,s2,h1,h2⟩
  obtain⟨b,hb,rfl⟩:=js hx
  obtain⟨ln,vd,U5,vn,vu,vl,k1,k2,k3,k4⟩:=g8 OA hb
  have hi:i<p.gW.length:=(List.getElem?_eq_some_iff.mp vd).1
  have Yp:xs.length<=p.iU.length+2*i:=by rw[aaj h2];exact wN p i
  have e:xT p (i+1)=xT p i++[ln.up]++[ln.lo]:=by
   unfold xT
   rw[take_snoc vd,aaR,aav,abq,aaY,aaY]
   rfl
  refine⟨_,rfl,.inl ⟨rfl,_,gP.of h1⟩,_,rfl,b,A.fT,U5,_,_,rfl,s2 _ _ k1,O.ij,O.gZ,Cu,l,_,_,rfl,rfl,h1,by omega,?_⟩
  have s3:fG H (upd H2 l (.lst (xs++[vu]))):=s2.upd hl
  refine⟨_,rfl,.inl ⟨rfl,_,gP.of a_⟩,_,rfl,b,A.fT,U5,_,_,rfl,s3 _ _ k1,O.ij,O.g0,Cv,l,_,_,rfl,rfl,a_,by rw[RX];show xs.length+1<_;omega,?_⟩
  refine⟨_,_,rfl,s3.upd hl,a_,?_⟩
  rw[e]
  exact hV (hV h2 k3) k4
 ·rintro Z H2 ⟨v0,xs,rfl,s2,h1,h2⟩
  have e0:(as.map V.ref).length=p.gW.length:=by rw[Ou,hlen]
  rw[e0] at h2
  have Yp:xs.length<=p.iU.length+2*p.gW.length:=by rw[aaj h2];exact wN p _
  refine⟨_,rfl,l,rfl,⟨_,gP.of h1⟩,kZ (K:=K) (a:=l) (xs:=xs) (by omega) (λi ys Z H4=>∃(v3:Option V),Z=[rr a,rr l,v0,v3]/\H4=H2/\ys.length<=i/\Paired (kq H) ys (((xT p p.gW.length).take i).filterMap id))
   ⟨none,rfl,rfl,Q2 _,.nil⟩ (by rintro _ _ _ _ _ ⟨_,_,e,e3,_⟩;subst e;exact⟨gP.of h1,e3⟩) ?_ ?_⟩
  ·rintro i v ys Z H4 hx ⟨v3,rfl,rfl,e3,h6⟩
   obtain⟨o,ho,hv⟩:=g8 h2 hx
   refine⟨_,rfl,_,rfl,?_⟩
   rw[take_snoc ho,abG]
   cases o with
   | none=>
    rw[show v=V.iQ from hv]
    exact⟨_,rfl,rfl,by omega,by simpa using h6⟩
   | some m=>
    obtain⟨t,rfl,ht⟩:=(show kq H v m from hv)
    exact⟨_,rfl,_,rfl,rfl,Mb,hV h6 ⟨t,rfl,ht⟩⟩
  ·rintro ys Z H4 ⟨v3,rfl,rfl,e3,h6⟩ r tJ
   rw[aaj h2,aaq,<-named_eq] at h6
   have s5:=s2.new (o:=.lst ys) tJ
   exact q r _ s5 (s2.free tJ) ⟨ys,a_,Paired.j5 h6 λ_ _ z=>z.same s5⟩
def La(A:Ad):Sp:=λvs H Q _=>∃(a:Addr)(p:Pt),vs=[.ref a]/\n4 A H a p/\xB p.gW.length/\xB p.iU.length/\∀r H',fG H H'->H r=none->H' r=some (.lst (fZ (gT p)))->Q (.ref r) H'
theorem yx(p:Pt):(named p).length<=p.iU.length+2*p.gW.length:=by
 rw[named_eq]
 exact aag (List.length_filterMap_le _ _) (wN p _)
theorem qi(T:Txt mg)(O:Ok K mg A):gS P w K mg base lR 2 A.lM A.lN ["patch"] (La A):=by
 have uA:=@s_ P w K mg base A T O
 refine O.mJ.f.qW jG λjm A0 outer s H vs Q E hr h=>?_
 obtain⟨a,p,rfl,pa,CQ,BL,q⟩:=h
 obtain⟨dx,vf,pu,cu,vo,g1,g2,g3,g4,g5⟩:=id pa
 have JL:p.gW.length<=4000:=CQ
 have GW:p.iU.length<=4000:=BL
 have sz:sizeLine=16777216:=aaC
 have OT:=yx p
 refine⟨_,(de (y0 (j:=1) lL (e_ jd).names [2] jG.nd rfl rfl rfl (ib (sy O.pZ uA hr (b_ (pv 0) eV))) rfl (by decide+kernel) (λ_ _ _ _=>(iI (i:=2) jG.nd rfl (Or.inl rfl))) (λ_ _ _ _=>⟨_,oq (jo EM (k_ EV (pv 2) fJ (λ_ _=>rfl)) (fS (pv 0) rfl) (jS _)),by(try simp only [j9]);rfl⟩) (λ_ _ _ _=>EB (k_ EV (pv 2) fJ (λ_ _=>rfl))))
   (de (iw (iR (j6 (fS (pv 0) rfl))) (d_ (gY (lI aap aaw aax iA (pv 1) (b_ (fS (pv 0) rfl) eV)))) gQ)
   (d_ (f_ (pv 1))))),?_⟩
 refine Cb ?_;intro _ _
 refine⟨_,rfl,a,p,rfl,pa,CQ,BL,λn H1 s1 hn0 ⟨ns,U6,Ly⟩=>?_⟩
 have Sy:=aaj Ly
 let Jv:=λ(i:Nat) (ys:List V) (Z:St) (H4:Hp)=>∃(v2:Option V)(zs:List Str),Z=[rr a,none,v2]/\H4=H1/\ys=fZ zs/\zs.length<=i/\zs=(((named p).take i).filter λn=>n.1≠p.nm).map (·.1)
 refine⟨n,rfl,⟨_,gP.of U6⟩,kZ (K:=K) (a:=n) (xs:=ns) (by omega) Jv
  ⟨none,[],rfl,rfl,rfl,Q2 _,rfl⟩ (by rintro _ _ _ _ _ ⟨_,zs,_,e,e2,e3,_⟩;subst e e2;exact⟨gP.of U6,by rw[Ou];exact e3⟩) ?_ ?_⟩
 ·rintro i v ys Z H4 hx ⟨v2,zs,rfl,rfl,rfl,e3,e4⟩
  obtain⟨m,hm,t,rfl,ht⟩:=g8 Ly hx
  have U7:DK ((nk m).map kV) 0=some (V.str m.1):=jj (j:=0) rfl rfl
  refine⟨_,rfl,t,_,0,_,rfl,rfl,xy.of ht,U7,_,rfl,a,A.fR,dx,_,_,rfl,s1 _ _ g1,O.ir,O.h_,qc,rfl,_,rfl,?_⟩
  have ed:decide (V.str m.1=V.str p.nm)=decide (m.1=p.nm):=by
   by_cases e:m.1=p.nm
   ·rw[Ug e,Ug (aaT V.str e)]
   ·rw[aaa e,aaa λz=>e (V.str.inj z)]
  rw[ed]
  subst e4
  by_cases e:m.1=p.nm
  ·rw[Ug e]
   refine lY ⟨_,_,rfl,rfl,rfl,by omega,?_⟩
   rw[take_snoc hm,aay,YI (by simpa using e)]
   simp
  ·rw[aaa e]
   refine nv ⟨_,rfl,t,_,0,_,rfl,rfl,xy.of ht,U7,_,_,rfl,rfl,iD _ _,by rw[RX];show _+1<=_;omega,?_⟩
   rw[take_snoc hm,aay,W5 (by simpa using e)]
   simp
 ·rintro ys Z H4 ⟨v2,zs,rfl,rfl,rfl,e3,e4⟩ r tJ
  rw[Sy,aaq] at e4
  have s5:=s1.new (o:=.lst (fZ zs)) tJ
  refine⟨_,rfl,a,A.fR,dx,_,_,rfl,s5 _ _ g1,O.ir,O.ie,qC,_,rfl,?_⟩
  unfold gT at q
  rw[<-e4] at q
  cases ho:p.other with
  | none=>
   rw[ho] at g5 q
   rw[show vo=V.iQ from g5]
   exact⟨_,rfl,q r _ s5 (s1.free tJ) (by rw[a_];simp)⟩
  | some x=>
   rw[ho] at g5 q
   rw[show vo=V.str x from g5] at g1 ⊢
   refine⟨_,rfl,.inl ⟨rfl,_,gP.of a_⟩,_,rfl,a,A.fR,dx,_,_,rfl,s5 _ _ g1,O.ir,O.ie,qC,r,_,_,rfl,rfl,a_,by rw[Ou];omega,?_⟩
   exact⟨_,rfl,q r _ (s5.upd (s1.free tJ)) (s1.free tJ) (by rw[a_];show _=some (HO.lst (fZ (zs++[x])));rw[<-iD])⟩
def NB(H:Hp)(a:Addr)(kn:Nat->Option Nm):Prop:=∃kvs:List (Key×V),H a=some (.dK kvs)/\∀s:Nat,match kn s with|some m=>∃v,hZ kvs (Sum.inl (s:Int))=some v/\kq H v m|none=>hZ kvs (Sum.inl (s:Int))=none
def Ra:Sp:=λvs H Q _=>∃(a:Addr)(n:Nat)(kn:Nat->Option Nm),vs=[.ref a,.int n]/\NB H a kn/\n<=4000/\∀p H' xs,fG H H'->H p=none->H' p=some (.lst xs)->xs.length=n->(∀i v,xs[i]?=some v->Ct H v (C_ kn (n-1-i) i))->Q (.ref p) H'
theorem wO(T:Txt mg)(O:Ok K mg A):gS P w K mg base lR 1 A.q8 A.q9 ["kept_names","size"] Ra:=by
 refine O.u0.f.qW l8 λjm A0 outer s H vs Q E hr h=>?_
 obtain⟨a,n,kn,rfl,⟨kvs,h1,h2⟩,hn,q⟩:=h
 have sz:sizeLine=16777216:=aaC
 refine⟨_,(de (nA 2 l8 (gU B9 (jq (b_ vF eV)) (pv 1)))
   (de (ip aat rfl (tS rfl T.qA (b_ (gU yN (pv 1) fJ) (b_ (si om fJ) (b_ (si om fJ) eV)))) (vv 3 l8) (d_ (yM (E5 (by exact iB hr) (pv 0) (gU iS (pv 3) fJ) (G8 (pv 2) (gU iS (pv 3) fJ)) ⟨rfl,rfl,rfl,rfl⟩) (yL (pv 2) (pv 3) set_list))))
   (d_ (f_ (pv 2))))),?_⟩
 refine Cb ?_;intro _ _
 refine⟨L2.lU,λl hl=>?_⟩
 refine⟨_,rfl,l,_,_,rfl,rfl,a_,by omega,by omega,by simp;omega,λp hp=>?_⟩
 have n_:p≠l:=λz=>by rw[z,a_] at hp;cases hp
 have Dx:H p=none:=by rw[c_ n_] at hp;exact hp
 have e0:(List.replicate (n:Int).toNat [V.iQ]).flatten=List.replicate n V.iQ:=by
  rw[acb]
  clear q hn
  induction n with
  | zero=>rfl
  | succ n ih=>rw[aaZ,abM,ih,aaZ];rfl
 rw[e0]
 have s1:fG H (upd (upd H l (.lst [V.iQ])) p (.lst (List.replicate n V.iQ))):=((fG.refl H).upd hl).upd Dx
 refine⟨_,rfl,_,_,rfl,rfl,_,rfl,_,rfl,_,_,rfl,⟨by omega,by omega,by omega,by omega⟩,?_⟩
 rw[show((n:Int)-2 - -1).toNat=n-1 by omega]
 let Jv:=λ(m:Nat) (Z:St) (H2:Hp)=>∃(v:Option V)(xs:List V),Z=[rr a,ri n,rr p,v]/\fG H H2/\H2 p=some (.lst xs)/\xs.length=n/\∀i v,xs[i]?=some v->n-1<=i+m->Ct H v (C_ kn (n-1-i) i)
 refine rF Jv ⟨none,_,rfl,s1,a_,by simp,λi v hv hi=>?_⟩ ?_ ?_
 ·have jI:i<n:=by have:=(List.getElem?_eq_some_iff.mp hv).1;simpa using this
  have:v=V.iQ:=by
   have:=Um hv
   exact List.eq_of_mem_replicate this
  rw[this,show n-1-i=0 by omega]
  exact rfl
 ·rintro m Z H2 hm ⟨v0,xs,rfl,s2,k1,k2,k3⟩
  obtain⟨j,hj⟩:∃j,j+m+2=n:=⟨n-2-m,by omega⟩
  rw[show(n:Int)-2+(m:Int) * -1=(j:Int) by omega]
  have hx:xs[j+1]?=some xs[j+1]:=QU (by omega)
  refine⟨_,rfl,a,rfl,.inl ⟨_,.inl (s2 _ _ h1)⟩,_,rfl,_,_,rfl,rfl,_,rfl,_,rfl,_,_,rfl,rfl,p,_,_,_,rfl,rfl,gP.of k1,jj (j:=j+1) (by omega) hx,_,i_.k (k:=Sum.inl ((j:Int)+1)) (s2 _ _ h1),?_⟩
  refine⟨_,rfl,_,rfl,p,_,_,j,rfl,rfl,k1,y7 rfl (by omega),?_⟩
  refine⟨_,_,rfl,s2.upd Dx,a_,by rw[aci];exact k2,λi v hv hi=>?_⟩
  by_cases e:i=j
  ·subst e
   rw[aa5 (by omega)] at hv
   have hv:=aaf hv
   rw[<-hv,show n-1-i=(n-1-(i+1))+1 by omega]
   unfold C_
   have h3:=h2 (i+1)
   rw[show((i+1:Nat):Int)=(i:Int)+1 by omega] at h3
   cases hk:kn (i+1) with
   | none=>
    rw[hk] at h3
    rw[h3]
    exact k3 (i+1) _ hx (by omega)
   | some mm=>
    rw[hk] at h3
    obtain⟨u,z1,z2⟩:=h3
    rw[z1]
    exact z2
  ·rw[abf (λz=>e z.symm)] at hv
   exact k3 i v hv (by omega)
 ·rintro Z H2 ⟨v0,xs,rfl,s2,k1,k2,k3⟩
  exact⟨_,rfl,q p H2 xs s2 Dx k1 k2 λi v hv=>k3 i v hv (by omega)⟩
def Rb(K:Qqy)(A:Ad):Sp:=λvs H Q _=>∃(x:Str)(t a:Addr)(texts:List Str)(kn:Nat->Option Nm),vs=[.str x,.ref t,.ref a]/\gP K H t (fZ texts)/\(∀H',fG H H'->gP K H' t (fZ texts))/\NB H a kn/\texts.length<=4000/\∀p H',fG H H'->H p=none->oT A H' p (jF x texts kn)->Q (.ref p) H'
theorem zD(T:Txt mg)(O:Ok K mg A):gS P w K mg base lR 3 A.uU A.uV ["patch","texts","kept_names"] (Rb K A):=by
 have xY:=@wO P w K mg base A T O
 have ve:=@zC P w K mg base A T O
 refine O.yr.f.qW i9 λjm A0 outer s H vs Q E hr h=>?_
 obtain⟨x,t,a,texts,kn,rfl,_,ht,U8,hn,q⟩:=h
 have sz:sizeLine=16777216:=aaC
 have et:((fZ texts).length:Int)=(texts.length:Int):=by simp
 obtain⟨kvs,h1,h2⟩:=id U8
 refine⟨_,(de (nA 3 i9 (sy O.u0 xY hr (b_ (pv 2) (b_ (hU gR (by rfl) T.q0 aaS (b_ (pv 1) eV)) eV))))
   (de (nA 4 i9 (jq eV))
   (de (nA 5 i9 vF)
   (de (ip aat rfl (HK rfl T.A9 (b_ (pv 1) eV)) (EJ rfl (sd (vv 6 i9) (sd (vv 7 i9) CY))) (d_ (iw (iR (pH (by exact iB hr) (pv 6) (pv 2))) (d_ (nA 5 i9 (BO hr (pv 2) (pv 6)))) (de (gY (lI aap aaw aax iA (pv 4) (b_ (yQ O.KU ve (hr.mono (by decide)) (by rfl) O.KW O.rh.b .nil pe (b_ (B3 (b_ (pv 0) (b_ (hU gR (by rfl) T.q0 aaS (b_ (pv 4) eV)) eV))) (b_ (pv 7) (b_ (pv 5) (b_ (G8 (pv 3) (pv 6)) eV))))) eV)))
   (d_ (nA 5 i9 (fS (G8 (pv 4) (si om fJ)) rfl)))))))
   (d_ (f_ (pv 4))))))),?_⟩
 refine M6 ?_;intro _ _ _ _
 refine⟨_,rfl,_,rfl,t,_,rfl,.inl (ht H (fG.refl H)),?_⟩
 rw[et]
 refine⟨a,texts.length,kn,rfl,U8,hn,λb H1 bs s1 hb0 O4 JD OM=>?_⟩
 refine⟨L2.lU,λl hl=>?_⟩
 have RY:H l=none:=s1.free hl
 have s2:fG H1 (upd H1 l (.lst [])):=(fG.refl H1).new hl
 refine⟨_,rfl,t,rfl,⟨_,ht _ (s1.trans s2)⟩,Fz (K:=K) (a:=t) (xs:=fZ texts) (λi Z H2=>∃(v6 v7:Option V)(vu:V)(u:Option Nm)(as:List Addr)(acc:List Ln),Z=[rs x,rr t,rr a,rr b,rr l,some vu,v6,v7]/\fG H1 H2/\H2 l=some (.lst (as.map V.ref))/\Paired (lF A H2) as acc/\acc.length<=i/\Ct H2 vu u/\acc++oE x kn i acc.length u (texts.drop i)=jF x texts kn)
  ⟨none,none,.iQ,none,[],[],rfl,s2,a_,.nil,Q2 _,rfl,rfl⟩ (by rintro _ _ _ _ ⟨_,_,_,_,_,_,_,s3,_⟩;exact ht _ (s1.trans s3)) ?_ ?_⟩
 ·rintro i tv e Z H2 hx ⟨v6,v7,vu,u,as,acc,rfl,s3,k1,k2,k3,k4,k5⟩ he
  obtain⟨tx,Qg,rfl⟩:=qw hx
  have hi:i<texts.length:=(List.getElem?_eq_some_iff.mp Qg).1
  have hd:texts.drop i=tx::texts.drop (i+1):=by rw[aa_ hi];congr 1;exact(List.getElem?_eq_some_iff.mp Qg).2
  have s4:fG H2 (upd H2 e (.tup [.int i,.str tx])):=(fG.refl H2).new he
  have JM:=s3.trans s4
  rw[hd] at k5
  unfold oE at k5
  refine⟨e,_,rfl,xy.of a_,rfl,_,_,rfl,_,_,rfl,rfl,?_⟩
  refine⟨_,rfl,_,rfl,a,_,rfl,i_.k (k:=Sum.inl (i:Int)) (JM _ _ (s1 _ _ h1)),_,rfl,?_⟩
  have h3:=h2 i
  cases hk:kn i with
  | some m=>
   rw[hk] at h3 k5
   obtain⟨u',z1,z2⟩:=h3
   rw[z1]
   refine nv ⟨_,rfl,_,rfl,a,u',rfl,?_,?_⟩
   ·have:=i_.k (k:=Sum.inl (i:Int)) (JM _ _ (s1 _ _ h1))
    rw[z1] at this
    exact this
   ·exact⟨_,_,_,some m,as,acc,rfl,JM,s4 _ _ k1,Paired.j5 k2 λ_ _ z=>z.same s4,by omega,(z2.same s1).same JM,k5⟩
  | none=>
   rw[hk] at h3 k5
   rw[h3]
   have Sx:=aaj k2
   have el:((as.map V.ref).length:Int)=(acc.length:Int):=by rw[Ou,Sx]
   refine lY ⟨_,rfl,.inl ⟨rfl,_,gP.of (s4 _ _ k1)⟩,_,rfl,_,rfl,l,_,rfl,.inl (gP.of (s4 _ _ k1)),?_⟩
   rw[el]
   refine⟨L2.lU,λnt U9=>?_⟩
   have s5:=JM.new (o:=.tup [.str x,.int acc.length]) U9
   obtain⟨bv,U_⟩:∃bv,bs[i]?=some bv:=⟨_,QU (by omega)⟩
   refine⟨_,rfl,_,rfl,_,rfl,_,rfl,b,_,_,_,rfl,rfl,gP.of (s5 _ _ O4),jj rfl U_,?_⟩
   intro o dx no SA Yq
   have Yr:fG (upd (upd H2 e (.tup [.int i,.str tx])) nt (.tup [.str x,.int acc.length])) (upd (upd (upd (upd H2 e (.tup [.int i,.str tx])) nt (.tup [.str x,.int acc.length])) dx (.own o)) o (.ins A.fT dx [])):=λc u e=>by
    rw[c_ (fz e no),c_ (fz e SA)]
    exact e
   refine⟨o,dx,_,_,_,_,rfl,a_,λH6 r6 r7=>⟨rfl,?_⟩⟩
   have s6:fG (upd (upd H2 e (.tup [.int i,.str tx])) nt (.tup [.str x,.int acc.length])) H6:=λc u ec=>by
    rw[r6 c (fz ec no)]
    exact Yr c u ec
   have O5:fG H2 H6:=(s4.new U9).trans s6
   have O6:=O5 _ _ k1
   have Ho:lF A H6 o ⟨(x,acc.length),tx,u,C_ kn (texts.drop (i+1)).length i⟩:=⟨dx,.ref nt,vu,bv,r7,⟨nt,rfl,s6 _ _ a_⟩,k4.same O5,by
    have:=OM i bv U_
    rw[List.length_drop,show texts.length-(i+1)=texts.length-1-i by omega]
    exact(this.same s1).same (s3.trans O5)⟩
   refine⟨l,_,_,rfl,rfl,O6,by rw[Ou];omega,?_⟩
   have lo:l≠o:=λz=>by rw[z,r7] at O6;cases O6
   have e7:upd H6 l (.lst (as.map V.ref++[V.ref o])) l=some (.lst ((as++[o]).map V.ref)):=by rw[a_,aai];rfl
   have up:∀c ln,lF A H6 c ln->lF A (upd H6 l (.lst (as.map V.ref++[V.ref o]))) c ln:=λc ln z=>z.upd O6 (λ_ z=>by cases z) (λ_ _ _ z=>by cases z)
   have Ys:upd H6 l (.lst (as.map V.ref++[V.ref o])) o=some (.ins A.fT dx (Ib (.ref nt) (.str tx) vu bv)):=by rw[c_ lo.symm];exact r7
   refine⟨_,rfl,_,rfl,l,_,_,_,rfl,rfl,gP.of a_,vO _ _,o,A.fT,dx,_,_,rfl,Ys,O.ij,O.fV,iH,?_⟩
   refine⟨_,_,_,some (x,acc.length),as++[o],acc++[⟨(x,acc.length),tx,u,C_ kn (texts.drop (i+1)).length i⟩],rfl,(s3.trans O5).upd hl,e7,?_,Mb,?_,?_⟩
   ·exact hV (Paired.j5 k2 λc ln z=>up c ln (z.same O5)) (up _ _ Ho)
   ·exact kq.upd ⟨nt,rfl,s6 _ _ a_⟩ O6 (λ_ z=>by cases z)
   ·rw[aaY,RX]
    exact k5
 ·rintro Z H2 ⟨v6,v7,vu,u,as,acc,rfl,s3,k1,k2,k3,k4,k5⟩
  rw[show(fZ texts).length=texts.length by simp,List.drop_length] at k5
  rw[show oE x kn texts.length acc.length u []=[] from rfl,aaB] at k5
  rw[k5] at k2
  exact⟨_,rfl,q l H2 (s1.trans s3) RY ⟨as,k1,k2⟩⟩
theorem Dg{row:List Ln}{q:Nat×Nat}:∀{xs:List (Nat×Nat)},q.2∉xs.map (·.2)->∀s,kA row (xs++[q]) s=if q.2=s then(row[q.1]?).map (·.nm) else kA row xs s
 | [],_,s=>rfl
 | x::r,h,s=>by
  rw[aam] at h
  have h1:q.2≠x.2:=λz=>h (by rw[z];exact aae)
  have h2:q.2∉r.map (·.2):=λz=>h (Uk _ z)
  show(if x.2=s then _ else kA row (r++[q]) s)=if q.2=s then _ else(if x.2=s then _ else kA row r s)
  by_cases e:x.2=s
  ·rw[aah e,aab (λz=>h1 (by rw[z,e])),aah e]
  ·rw[aab e,aab e,Dg h2 s]
theorem Ef{row:List Ln}{q:Nat×Nat}{l:Ln}(xs:List (Nat×Nat))(h:row[q.1]?=some l):oC row (xs++[q])=oC row xs++[l.nm]:=by
 unfold oC
 rw[abG,aby,h]
 rfl
theorem Ga(T:Txt mg)(O:Ok K mg A):gS P w K mg base lR 3 A.FN A.FO ["old","new"] Kp.Ul:=
 Kp.Ij O.kept.f ⟨T.q0,T.qA,T.Ng⟩ O.pX.f O.pX.b O.pX.m O.rL.f O.rL.b O.rL.m O.rM.f O.rM.b O.rM.m
def NC(A:Ad):Sp:=λvs H Q _=>∃(x f:Str)(r t:Addr)(row:List Ln)(texts:List Str),vs=[.str x,.str f,.ref r,.ref t]/\oT A H r row/\H t=some (.lst (fZ texts))/\row.length<=1000/\texts.length<=1000/\
 ∀p H',fG H H'->H p=none->n4 A H' p (jk x f row texts)->Q (.ref p) H'
theorem tf(T:Txt mg)(O:Ok K mg A):gS P w K mg base lR 4 A.nR A.nS ["patch","file","row","texts"] (NC A):=by
 have LX:=@Ga P w K mg base A T O
 have BM:=@zD P w K mg base A T O
 have uB:=@xR P w K mg base A T O
 refine O.p9.f.qW g_ λjm A0 outer s H vs Q E hr h=>?_
 obtain⟨x,f,r,t,row,texts,rfl,GO,ht,hn,hm,q⟩:=h
 obtain⟨as,EF,GU⟩:=id GO
 have hlen:=aaj GU
 have sz:sizeLine=16777216:=aaC
 refine⟨_,(de (nA 4 g_ lX)
   (de (mR (i:=5) g_.nd rfl (Or.inr rfl) lb)
   (de (ip aat rfl (ib (sy O.kept LX hr (b_ (C6 kO (e_ jl).names [9] rfl (ib (pv 2)) rfl (by decide+kernel) (λ_ _ _ _=>(iI (i:=9) g_.nd rfl (Or.inl rfl))) (λ_ _ _ _=>yY) (λ_ _ _ _=>EB (fS (pv 9) rfl))) (b_ (pv 3) eV)))) (EJ rfl (sd (vv 6 g_) (sd (vv 7 g_) CY))) (de (i4 (by exact iB hr) (pv 4) (pv 7) (fS (G8 (pv 2) (pv 6)) rfl) rfl)
   (d_ (i4 (by exact iB hr) (pv 5) (fS (G8 (pv 2) (pv 6)) rfl) lH rfl))))
   (de (y0 (j:=8) kO (e_ jl).names [9] g_.nd rfl rfl rfl (ib (pv 2)) rfl (by decide+kernel) (λ_ _ _ _=>(iI (i:=9) g_.nd rfl (Or.inl rfl))) (λ_ _ _ _=>⟨_,oq (iR (nu (by exact iB hr) (fS (pv 9) rfl) (pv 5))),by(try simp only [j9]);rfl⟩) (λ_ _ _ _=>EB (fS (pv 9) rfl)))
   (d_ (f_ (yQ O.HX uB (hr.mono (by decide)) (by rfl) O.HY O.pY.b .nil pe (b_ (pv 0) (b_ (pv 1) (b_ (sy O.yr BM hr (b_ (pv 0) (b_ (pv 3) (b_ (pv 4) eV)))) (b_ (pv 8) (b_ vF eV)))))))))))),?_⟩
 refine M6 ?_;intro _ _ _ _
 intro k O7 g Qh
 have SD:k≠g:=λz=>by rw[<-z,a_] at Qh;cases Qh
 have Va:H g=none:=(fG.refl H |>.new (o:=.dK []) O7).free Qh
 have s1:fG H (upd (upd H k (.dK [])) g (.dT [])):=((fG.refl H).new O7).new Qh
 have Qi:(upd (upd H k (.dK [])) g (.dT [])) k=some (.dK []):=by rw[c_ SD];exact a_
 have JC:(upd (upd H k (.dK [])) g (.dT [])) g=some (.dT []):=a_
 generalize upd (upd H k (.dK [])) g (.dT [])=H1 at s1 Qi JC
 have LU:(as.map V.ref).length<=sizeLine:=by rw[Ou,hlen];omega
 let Jv:=λ(i:Nat) (ys:List V) (Z:St) (H4:Hp)=>∃(v9:Option V),Z=[rs x,rs f,rr r,rr t,rr k,rr g,none,none,none,v9]/\H4=H1/\ys=fZ ((row.take i).map (·.tx))
 refine⟨_,rfl,r,rfl,⟨_,gP.of (s1 _ _ EF)⟩,kZ (K:=K) (a:=r) (xs:=as.map V.ref) LU Jv
  ⟨none,rfl,rfl,rfl⟩ (by rintro _ _ _ _ _ ⟨_,_,e,e2⟩;subst e e2;exact⟨gP.of (s1 _ _ EF),by rw[Ou,Ou,aaE];omega⟩) ?_ ?_⟩
 ·rintro i v ys Z H4 hx ⟨v9,rfl,rfl,rfl⟩
  obtain⟨b,hb,rfl⟩:=js hx
  obtain⟨ln,vd,dx,vn,vu,vl,k1,k2,k3,k4⟩:=g8 GU hb
  refine⟨_,rfl,b,A.fT,dx,_,_,rfl,s1 _ _ k1,O.ij,O.jr,Bg,_,rfl,rfl,?_⟩
  rw[take_snoc vd,aai,iD]
  rfl
 ·rintro ys Z H4 ⟨v9,rfl,rfl,rfl⟩ o Qj
  rw[Ou,hlen,aaq]
  have s2:fG H4 (upd H4 o (.lst (fZ (row.map (·.tx))))):=(fG.refl H4).new Qj
  refine⟨_,rfl,row.map (·.tx),texts,o,t,rfl,a_,s2 _ _ (s1 _ _ ht),by rw[Ou];exact hn,hm,λpr H5 ps s5 Ey O8 LY=>?_⟩
  have O9:fG H4 H5:=s2.trans s5
  have Vb:fG H H5:=s1.trans O9
  have rise:=qx (row.map (·.tx)) texts
  rw[Ou] at rise
  have SE:(K01.kept (row.map (·.tx)) texts).length<=1000:=by
   rw[K01.AY]
   have:=K01.AW (row.map (·.tx)) texts
   rw[Ou] at this
   omega
  generalize Yt:K01.kept (row.map (·.tx)) texts=qs at LY rise SE
  have OW:=aaj LY
  let Jv:=λ(i:Nat) (Z:St) (H6:Hp)=>∃(v6 v7:Option V)(kk:List (Key×V))(kg:List (List Key×V)),Z=[rs x,rs f,rr r,rr t,rr k,rr g,v6,v7,none,none]/\(∀b o,H5 b=some o->b≠k->b≠g->H6 b=some o)/\H6 k=some (.dK kk)/\kk.length<=i/\(∀s:Nat,match kA row (qs.take i) s with|some m=>∃v,hZ kk (Sum.inl (s:Int))=some v/\kq H v m|none=>hZ kk (Sum.inl (s:Int))=none)/\H6 g=some (.dT kg)/\kg.length<=i/\Mc kg (oC row (qs.take i))
  refine⟨pr,rfl,⟨_,gP.of O8⟩,jh (K:=K) (a:=pr) (xs:=ps) Jv
   ⟨none,none,[],[],rfl,λb o e _ _=>e,O9 _ _ Qi,Q2 _,(λs=>by rw[abJ];exact rfl),O9 _ _ JC,Q2 _,(λn=>rfl)⟩ (by rintro _ _ _ _ ⟨_,_,_,_,_,e,_⟩;exact gP.of (e _ _ O8 (λz=>by rw[z] at Ey;rw[s2 _ _ Qi] at Ey;cases Ey) (λz=>by rw[z] at Ey;rw[s2 _ _ JC] at Ey;cases Ey))) ?_ ?_⟩
  ·rintro i v Z H6 hx ⟨v6,v7,kk,kg,rfl,e1,e2,e3,e4,e5,e6,e7⟩
   obtain⟨qq,hq,pt,rfl,Hf⟩:=lq LY hx
   have SF:H5 k=some (.dK []):=O9 _ _ Qi
   have SG:H5 g=some (.dT []):=O9 _ _ JC
   have hi:i<qs.length:=(List.getElem?_eq_some_iff.mp hq).1
   obtain⟨O4,LS⟩:=rise.2 qq (Um hq)
   obtain⟨b,O3,Vc⟩:=CB GU (QU O4)
   have GH:row[qq.1]?=some row[qq.1]:=QU O4
   generalize row[qq.1]=ln at Vc GH
   obtain⟨dx,vn,vu,vl,z1,⟨nt,rfl,z2⟩,z3,z4⟩:=Vc
   have up:∀{b o},H b=some o->H6 b=some o:=λ{b o} e=>e1 b o (Vb _ _ e) (λz=>by rw[z,O7] at e;cases e) (λz=>by rw[z,Va] at e;cases e)
   refine⟨pt,_,rfl,xy.of (e1 _ _ Hf (iz Hf SF (λz=>by cases z)) (iz Hf SG (λz=>by cases z))),rfl,_,_,rfl,_,_,rfl,rfl,?_⟩
   refine⟨_,rfl,_,rfl,r,_,_,_,rfl,rfl,gP.of (up EF),jj rfl O3,b,A.fT,dx,_,_,rfl,up z1,O.ij,O.fV,iH,_,rfl,_,rfl,k,_,rfl,lW.k (k:=Sum.inl (qq.2:Int)) e2 (by omega),?_⟩
   have SH:∀{b o},H b=some o->upd H6 k (.dK (putK kk (Sum.inl (qq.2:Int)) (V.ref nt))) b=some o:=λ{b o} e=>by rw[c_ (λz=>by rw[z,O7] at e;cases e)];exact up e
   have Ml:=iN kk (Sum.inl (qq.2:Int):Key) (V.ref nt)
   have IH:=iN kg (nk ln.nm) (V.bl true)
   refine⟨_,rfl,_,rfl,_,rfl,r,_,_,_,rfl,rfl,gP.of (SH EF),jj rfl O3,b,A.fT,dx,_,_,rfl,SH z1,O.ij,O.fV,iH,g,_,rfl,lW.t (k:=nk ln.nm) (by rw[c_ SD.symm];exact e5) (SH z2) (by omega),?_⟩
   have SI:qq.2∉(qs.take i).map (·.2):=λz=>by
    obtain⟨w1,Yu,ew⟩:=aak.mp z
    obtain⟨j,hj⟩:=aaK.mp Yu
    have IP:j<i:=by have:=(List.getElem?_eq_some_iff.mp hj).1;rw[aaE] at this;omega
    rw[List.getElem?_take,aah IP] at hj
    obtain⟨Yv,Yw⟩:=List.getElem?_eq_some_iff.mp hj
    have:=aaQ.mp rise.1 j i Yv hi IP
    rw[Yw,(List.getElem?_eq_some_iff.mp hq).2] at this
    omega
   refine⟨_,_,_,_,rfl,λb o e nk ng=>?_,by rw[c_ SD];exact a_,by omega,λs=>?_,a_,by omega,?_⟩
   ·rw[c_ ng,c_ nk];exact e1 b o e nk ng
   ·rw[take_snoc hq,Dg SI,jt]
    by_cases es:qq.2=s
    ·subst es
     rw[aah rfl,aah rfl,GH]
     exact⟨_,rfl,nt,rfl,z2⟩
    ·rw[aab es,aab (λz=>es (by have:=Sum.inl.inj z;omega))]
     exact e4 s
   ·rw[take_snoc hq,Ef _ GH]
    exact e7.put ln.nm _
  ·rintro Z H6 ⟨v6,v7,kk,kg,rfl,e1,e2,e3,e4,e5,e6,e7⟩
   rw[<-OW,aaq] at e4 e7
   have up:∀{b o},H b=some o->H6 b=some o:=λ{b o} e=>e1 b o (Vb _ _ e) (λz=>by rw[z,O7] at e;cases e) (λz=>by rw[z,Va] at e;cases e)
   have Yx:fG H H6:=λb o e=>up e
   refine⟨_,rfl,r,rfl,⟨_,gP.of (up EF)⟩,kZ (K:=K) (a:=r) (xs:=as.map V.ref) LU (λi ys Z H4=>∃(v9:Option V),Z=[rs x,rs f,rr r,rr t,rr k,rr g,v6,v7,none,v9]/\H4=H6/\ys.length<=i/\Paired (kq H) ys (((row.take i).filter λl=>l.nm∉oC row qs).map (·.nm)))
    ⟨none,rfl,rfl,Q2 _,.nil⟩ (by rintro _ _ _ _ _ ⟨_,_,e,Yy,_⟩;rw[e];exact⟨gP.of (up EF),Yy⟩) ?_ ?_⟩
   ·rintro i v ys Z H7 hx ⟨v9,rfl,rfl,e8,e9⟩
    obtain⟨b,hb,rfl⟩:=js hx
    obtain⟨ln,vd,dx,vn,vu,vl,k1,⟨nt,rfl,k2⟩,k3,k4⟩:=g8 GU hb
    refine⟨_,rfl,b,A.fT,dx,_,_,rfl,up k1,O.ij,O.fV,iH,_,rfl,g,_,rfl,i_.t (k:=nk ln.nm) e5 (up k2),_,rfl,?_⟩
    rw[e7 ln.nm,take_snoc vd,aay,aai]
    by_cases xV:ln.nm∈oC row qs
    ·rw[Ug xV]
     refine lY ⟨_,rfl,rfl,by omega,?_⟩
     rw[YI (by simpa using xV),aaW,List.map_nil,aaB]
     exact e9
    ·rw[aaa xV]
     refine nv ⟨_,rfl,b,A.fT,dx,_,_,rfl,up k1,O.ij,O.fV,iH,_,rfl,rfl,Mb,?_⟩
     rw[W5 (by simpa using xV),aaW]
     exact hV e9 ⟨nt,rfl,k2⟩
   ·rintro ys Z H7 ⟨v9,rfl,rfl,e8,e9⟩ c SJ
    rw[Ou,hlen,aaq] at e9
    have s8:=Yx.new (o:=.lst ys) SJ
    have Sl:c≠k:=λz=>by rw[z,e2] at SJ;cases SJ
    refine⟨_,rfl,_,rfl,_,rfl,_,rfl,_,rfl,x,t,k,texts,kA row qs,rfl,gP.of (s8 _ _ ht),λH' s'=>gP.of (s' _ _ (s8 _ _ ht)),⟨kk,by rw[c_ Sl.symm];exact e2,λs=>?_⟩,by omega,λpu H9 s9 hpu0 SK=>?_⟩
    ·have:=e4 s
     cases ek:kA row qs s with
     | none=>rw[ek] at this;exact this
     | some m=>rw[ek] at this;obtain⟨v,w1,w2⟩:=this;exact⟨v,w1,w2.same s8⟩
    ·refine⟨_,rfl,?_⟩
     intro o dx no SA Yq
     refine⟨o,dx,_,_,_,_,_,rfl,a_,λVd r6 r7=>⟨rfl,?_⟩⟩
     have SM:fG H9 Vd:=λc u ec=>by
      rw[r6 c (fz ec no),c_ (fz ec no),c_ (fz ec SA)]
      exact ec
     have O_:=(s8.trans s9).trans SM
     refine q o Vd O_ ((s8.trans s9).free no) ?_
     unfold jk
     rw[Yt]
     exact⟨dx,_,pu,c,.iQ,r7,rfl,SK.same SM,⟨ys,SM _ _ (s9 _ _ a_),Paired.j5 e9 λ_ _ z=>z.same O_⟩,rfl⟩
def kD:Str:=Str.ofString "abcdefghijklmnopqrstuvwxyz0123456789"
def Good(x:Str):Prop:=1<=x.length/\x.length<=12/\∀c∈x.cps.toList,c∈kD.cps.toList
def um(x:Str):Prop:=(reprText x).length<=1048576/\x.length<=1000
abbrev sk(x:Str):Key:=Sum.inr x
theorem wQ{x:Str}{l:List Str}:sk x∈l.map sk↔x∈l:=by
 constructor
 ·intro h
  obtain⟨m,hm,e⟩:=aak.mp h
  rw[<-acm e];exact hm
 ·exact λh=>Q3 h
theorem kU{dk:List (Key×V)}{l:List Str}(h:dk.map (·.1)=l.map sk):dk.length=l.length:=by
 have:=aaT List.length h
 rwa [Ou,Ou] at this
theorem Eg{dk:List (Key×V)}{l:List Str}(h:dk.map (·.1)=l.map sk){i:Nat}{k:Key}{v:V}(hi:dk[i]?=some (k,v)):∃x,l[i]?=some x/\k=sk x:=by
 have h1:(dk.map (·.1))[i]?=some k:=by rw[W3,hi];rfl
 rw[h,W3] at h1
 obtain⟨n,e,e2⟩:=Option.map_eq_some_iff.mp h1
 exact⟨n,e,e2.symm⟩
theorem qE{dk:List (Key×V)}{l:List Str}(h:dk.map (·.1)=l.map sk)(x:Str):(hZ dk (sk x)).isSome=decide (x∈l):=by
 by_cases m:x∈l
 ·rw[Ug m];exact qD.mpr (by rw[h];exact wQ.mpr m)
 ·rw[aaa m,abv];exact λz=>m (wQ.mp (by rw[<-h];exact qD.mp z))
theorem qF{dk:List (Key×V)}{l:List Str}(h:dk.map (·.1)=l.map sk){x:Str}(hx:x∉l)(v:V):(putK dk (sk x) v).map (·.1)=(l++[x]).map sk:=by
 rw[n5,h,aab (λz=>hx (wQ.mp z)),aai];rfl
theorem wR{dk:List (Key×V)}{l:List Str}(h:dk.map (·.1)=l.map sk):(dk.map λkv=>kV kv.1)=fZ l:=by
 have:(dk.map λkv=>kV kv.1)=(dk.map (·.1)).map kV:=by rw[List.map_map];rfl
 rw[this,h,List.map_map];rfl
def BP(m n h:Addr):List (Str×V):=[("made",.ref m),("needs",.ref n),("held",.ref h)]
theorem Lb(m n h:Addr):iZ "held" (.ref h) (iZ "needs" (.ref n) (iZ "made" (.ref m) []))=BP m n h:=by kernel_rfl
theorem n6(m n h:Addr):(BP m n h).lookup ("held":Str)=some (V.ref h):=by kernel_rfl
theorem qj(m n h:Addr):(BP m n h).lookup ("made":Str)=some (V.ref m):=by kernel_rfl
theorem yy(m n h:Addr):(BP m n h).lookup ("needs":Str)=some (V.ref n):=by kernel_rfl
structure Dp where
 dx:Addr
 m:Addr
 n:Addr
 h:Addr
 ha:Str->Addr
 kM:List (Key×V)
 kN:List (Key×V)
 kH:List (Key×V)
structure Py(A:Ad)(H:Hp)(d:Addr)(D:Dk)(W:Addr->Prop)(Y:Dp):Prop where
 hd:H d=some (.ins A.fI Y.dx (BP Y.m Y.n Y.h))
 hm:H Y.m=some (.dK Y.kM)
 hn:H Y.n=some (.dK Y.kN)
 hh:H Y.h=some (.dK Y.kH)
 mn:Y.m≠Y.n
 mh:Y.m≠Y.h
 nh:Y.n≠Y.h
 wm:W Y.m
 wn:W Y.n
 wh:W Y.h
 km:Y.kM.map (·.1)=D.names.map sk
 vm:∀p∈D.made,∃a,hZ Y.kM (sk p.nm)=some (.ref a)/\n4 A H a p
 kn:Y.kN.map (·.1)=D.names.map sk
 vn:∀x∈D.names,∃(a:Addr)(kv:List (Key×V))(l:List Str),hZ Y.kN (sk x)=some (.ref a)/\¬W a/\H a=some (.dK kv)/\kv.map (·.1)=l.map sk/\l.Nodup/\∀y,y∈l↔y∈D.ic x
 kh:Y.kH.map (·.1)=D.stores.map sk
 vh:∀s∈D.stores,hZ Y.kH (sk s)=some (.ref (Y.ha s))/\W (Y.ha s)/\Y.ha s≠Y.m/\Y.ha s≠Y.n/\Y.ha s≠Y.h/\∃kv:List (Key×V),H (Y.ha s)=some (.dK kv)/\kv.map (·.1)=(D.held s).map sk
 inj:∀s∈D.stores,∀t∈D.stores,Y.ha s=Y.ha t->s=t
 dk:∀b,W b->∃kv,H b=some (.dK kv)
def i0(A:Ad)(H:Hp)(d:Addr)(D:Dk)(W:Addr->Prop):Prop:=∃Y,Py A H d D W Y
theorem Py.same{A:Ad}{H H':Hp}{d:Addr}{D:Dk}{W:Addr->Prop}{Y:Dp}(x:Py A H d D W Y)(s:fG H H'):Py A H' d D W Y where
 hd:=s _ _ x.hd
 hm:=s _ _ x.hm
 hn:=s _ _ x.hn
 hh:=s _ _ x.hh
 mn:=x.mn
 mh:=x.mh
 nh:=x.nh
 wm:=x.wm
 wn:=x.wn
 wh:=x.wh
 km:=x.km
 vm:=λp hp=>by obtain⟨a,h1,h2⟩:=x.vm p hp;exact⟨a,h1,h2.same s⟩
 kn:=x.kn
 vn:=λy hy=>by obtain⟨a,kv,l,h1,h2,h3,h4⟩:=x.vn y hy;exact⟨a,kv,l,h1,h2,s _ _ h3,h4⟩
 kh:=x.kh
 vh:=λt ht=>by obtain⟨h1,h2,h3,h4,h5,kv,h6,h7⟩:=x.vh t ht;exact⟨h1,h2,h3,h4,h5,kv,s _ _ h6,h7⟩
 inj:=x.inj
 dk:=λb hb=>by obtain⟨kv,h⟩:=x.dk b hb;exact⟨kv,s _ _ h⟩
theorem i0.same{A:Ad}{H H':Hp}{d:Addr}{D:Dk}{W:Addr->Prop}(x:i0 A H d D W)(s:fG H H'):i0 A H' d D W:=by
 obtain⟨Y,x⟩:=x
 exact⟨Y,x.same s⟩
def Dh(W:Addr->Prop)(H H':Hp):Prop:=∀b o,H b=some o->¬W b->H' b=some o
theorem i0.iQ{A:Ad}{H:Hp}{d a:Addr}{D:Dk}{W:Addr->Prop}(x:i0 A H d D W)(h:H a=none):¬W a:=λz=>by
 obtain⟨Y,x⟩:=x
 obtain⟨kv,e⟩:=x.dk a z
 rw[h] at e;cases e
theorem qk{m n h:Addr}:(BP m n h).lookup ("check_store":Str)=none:=by kernel_rfl
theorem zE{m n h:Addr}:(BP m n h).lookup ("check_new":Str)=none:=by kernel_rfl
theorem Im{m n h:Addr}:(BP m n h).lookup ("keep":Str)=none:=by kernel_rfl
theorem Lc{m n h:Addr}:(BP m n h).lookup ("has":Str)=none:=by kernel_rfl
theorem rn{m n h:Addr}:(BP m n h).lookup ("patches_of":Str)=none:=by kernel_rfl
theorem Bt{m n h:Addr}:(BP m n h).lookup ("sight_of":Str)=none:=by kernel_rfl
theorem Eh{m n h:Addr}:(BP m n h).lookup ("stores":Str)=none:=by kernel_rfl
theorem CC{m n h:Addr}:(BP m n h).lookup ("patches":Str)=none:=by kernel_rfl
theorem Bu{m n h:Addr}:(BP m n h).lookup ("files":Str)=none:=by kernel_rfl
theorem tj{m n h:Addr}:(BP m n h).lookup ("begin":Str)=none:=by kernel_rfl
theorem uo{m n h:Addr}:(BP m n h).lookup ("record":Str)=none:=by kernel_rfl
def Me:Dk:=⟨[],λ_=>[],[],λ_=>[]⟩
theorem Rc:Inv Me:=⟨aa8,(λp hp=>by cases hp),(λp hp=>by cases hp),⟨λ_=>0,λp hp=>by cases hp⟩,(λi p hp=>by simp[Me] at hp),(λx hx=>by cases hx),aa8,(λs hs=>by cases hs),(λs hs=>by cases hs),(λp hp=>by cases hp),(λp hp=>by cases hp)⟩
def Ld(A:Ad):Sp:=λvs H Q _=>∃(p dx:Addr),vs=[.ref p]/\H p=some (.ins A.fI dx [])/\∀(H':Hp)(W:Addr->Prop),i0 A H' p Me W->(∀b,W b->H b=none)->(∀b o,H b=some o->b≠p->H' b=some o)->Q .iQ H'
theorem zF(T:Txt mg)(O:Ok K mg A):gS P w K mg base lR 1 A.lD A.pk ["self"] (Ld A):=by
 refine O.rj.f.qW ud λjm A0 outer s H vs Q E hr h=>?_
 obtain⟨p,dx,rfl,hp,k⟩:=h
 refine⟨_,(de (j7 (pv 0) lX rfl)
   (de (j7 (pv 0) lX rfl)
   (d_ (j7 (pv 0) lX rfl)))),?_⟩
 refine Cb ?_;intro _ _
 intro m hm
 have GX:p≠m:=fz hp hm
 refine⟨_,rfl,p,A.fI,dx,_,rfl,(by rw[c_ GX];exact hp),O.g7,O.iu,(by show 0<1000;decide),?_⟩
 intro n hn
 have Pa:p≠n:=fz a_ hn
 have Qk:m≠n:=by
  intro z;subst z;rw[c_ GX.symm,a_] at hn;cases hn
 have hH:H n=none:=by rw[c_ Pa.symm,c_ Qk.symm] at hn;exact hn
 refine⟨_,rfl,p,A.fI,dx,_,rfl,(by rw[c_ Pa];exact a_),O.g7,O.jc,(by show 1<1000;decide),?_⟩
 intro h hh
 have Ql:p≠h:=fz a_ hh
 have SN:n≠h:=by
  intro z;subst z;rw[c_ Pa.symm,a_] at hh;cases hh
 have SO:m≠h:=by
  intro z;subst z;rw[c_ GX.symm,c_ Qk,c_ GX.symm,a_] at hh;cases hh
 have Ve:H h=none:=by rw[c_ Ql.symm,c_ SN.symm,c_ Ql.symm,c_ SO.symm] at hh;exact hh
 refine⟨_,rfl,p,A.fI,dx,_,rfl,(by rw[c_ Ql];exact a_),O.g7,O.ig,(by show 2<1000;decide),?_⟩
 have e1:∀{o},upd (upd (upd (upd (upd (upd H m (.dK [])) p (.ins A.fI dx (iZ "made" (.ref m) []))) n (.dK [])) p (.ins A.fI dx (iZ "needs" (.ref n) (iZ "made" (.ref m) [])))) h (.dK [])) p o m=some (.dK []):=by
  intro o;rw[c_ GX.symm,c_ SO,c_ GX.symm,c_ Qk,c_ GX.symm,a_]
 have e2:∀{o},upd (upd (upd (upd (upd (upd H m (.dK [])) p (.ins A.fI dx (iZ "made" (.ref m) []))) n (.dK [])) p (.ins A.fI dx (iZ "needs" (.ref n) (iZ "made" (.ref m) [])))) h (.dK [])) p o n=some (.dK []):=by
  intro o;rw[c_ Pa.symm,c_ SN,c_ Pa.symm,a_]
 have e3:∀{o},upd (upd (upd (upd (upd (upd H m (.dK [])) p (.ins A.fI dx (iZ "made" (.ref m) []))) n (.dK [])) p (.ins A.fI dx (iZ "needs" (.ref n) (iZ "made" (.ref m) [])))) h (.dK [])) p o h=some (.dK []):=by
  intro o;rw[c_ Ql.symm,a_]
 refine k _ (λb=>b=m\/b=n\/b=h) ⟨⟨dx,m,n,h,λ_=>0,[],[],[]⟩,Eq.trans a_ (aaT (λl=>some (HO.ins A.fI dx l)) (Lb m n h)),e1,e2,e3,Qk,SO,SN,.inl rfl,.inr (.inl rfl),.inr (.inr rfl),rfl,(λp hp=>by cases hp),rfl,(λp hp=>by cases hp),rfl,(λp hp=>by cases hp),(λp hp=>by cases hp),λb hb=>?_⟩ (λb hb=>?_) λb o e hb=>?_
 ·rcases hb with rfl|rfl|rfl
  ·exact⟨_,e1⟩
  ·exact⟨_,e2⟩
  ·exact⟨_,e3⟩
 ·rcases hb with rfl|rfl|rfl
  ·exact hm
  ·exact hH
  ·exact Ve
 ·rw[c_ hb,c_ (fz e Ve),c_ hb,c_ (fz e hH),c_ hb,c_ (fz e hm)]
  exact e
def Io(XB:Addr):Sp:=λvs H Q E=>∃x:Str,vs=[.str x]/\um x/\(Good x->Q .iQ H)/\(¬Good x->E (.ref XB) none H)
theorem Jo:(12:Int).natAbs.log2<1920:=by decide
theorem rq(T:Txt mg)(O:Ok K mg A):gS P w K mg base (vt P w) 1 A.sO A.sP ["name"] (Io A.i3):=by
 refine O.rN.f.y9 qY λjm A0 outer s H vs Q E hr h=>?_
 obtain⟨x,rfl,⟨hf,hl⟩,q,qe⟩:=h
 refine⟨_,(de (iw (tM (EN Jb Jb fJ (hU yS (by rfl) T.q0 aaS (b_ (pv 0) eV)) (yK (v:=.int 12) (by rfl) O.qb ⟨_,rfl⟩))) (d_ (lZ bx O.yu (by rfl) (ow (iC jC (iC (KC (yK (v:=.int 12) (by rfl) O.qb ⟨_,rfl⟩)) (iC jC (iC (rH (pv 0)) rG))))))) gQ)
   (d_ (ip M3 rfl (KA (pv 0)) (vv 1 qY) (d_ (iw (jo yP (pv 1) (yK (v:=.str (Str.ofString "abcdefghijklmnopqrstuvwxyz0123456789")) (by rfl) O.zt ⟨_,rfl⟩) rfl) (d_ (lZ bx O.yu (by rfl) (ow (iC jC (iC (rH (pv 0)) rG))))) gQ))))),?_⟩
 refine Fc ?_;intro _
 have hz:x.length<=sizeLine:=aag hl (by decide)
 have bad:¬Good x->∀H',H'=H->E (.ref A.i3) none H':=λg H' e=>by subst e;exact qe g
 refine⟨_,rfl,_,rfl,hz,_,_,rfl,rfl,_,rfl,?_⟩
 refine tQ (λh1=>?_) (λh1=>?_)
 ·refine⟨_,_,rfl,rfl,_,rfl,?_⟩
  refine tQ (λh2=>?_) (λh2=>?_)
  ·
   have h2:¬((x.length:Int)<=12):=by simpa using h2
   refine⟨_,rfl,by decide+kernel,⟨_,rfl,Jo,_,rfl,by decide+kernel,⟨_,rfl,by decide+kernel,⟨_,rfl,_,rfl,hf,_,rfl,hf,λ_=>qe λg=>?_⟩⟩⟩⟩
   have:=g.2.1;omega
  ·have h1:(1:Int)<=(x.length:Int):=by simpa using h1
   have h2:(x.length:Int)<=12:=by simpa using h2
   refine⟨_,rfl,x,rfl,Fi (λi Z H2=>∃v,Z=[rs x,v]/\H2=H/\∀j<i,∀c,x.cps[j]?=some c->c∈kD.cps.toList) ⟨none,rfl,rfl,λj hj=>absurd hj (by omega)⟩ ?_ ?_⟩
   ·rintro i c Z H2 hc ⟨v,rfl,rfl,hp⟩
    refine⟨_,rfl,_,_,rfl,rfl,_,rfl,?_⟩
    rw[HF]
    refine tQ (λh3=>?_) (λh3=>?_)
    ·have h3:c∉kD.cps.toList:=by simpa[kD] using h3
     refine⟨_,rfl,by decide+kernel,⟨_,rfl,_,rfl,hf,_,rfl,hf,λ_=>qe λg=>?_⟩⟩
     exact h3 (g.2.2 c (Um (i:=i) (by rw[aaA];exact hc)))
    ·have h3:c∈kD.cps.toList:=by simpa[kD] using h3
     refine⟨_,rfl,rfl,λj hj c' yF=>?_⟩
     by_cases e:j=i
     ·subst e;rw[hc] at yF;cases yF;exact h3
     ·exact hp j (by omega) c' yF
   ·rintro Z H2 ⟨v,rfl,rfl,hp⟩
    refine q ⟨by omega,by omega,λc hc=>?_⟩
    obtain⟨j,hj,e⟩:=List.mem_iff_getElem.mp hc
    have Vf:j<x.cps.size:=by simpa using hj
    exact hp j Vf c (by rw[aaF Vf];simpa using e)
 ·have h1:¬((1:Int)<=(x.length:Int)):=by simpa using h1
  refine⟨_,rfl,?_⟩
  refine⟨_,rfl,by decide+kernel,⟨_,rfl,Jo,_,rfl,by decide+kernel,⟨_,rfl,by decide+kernel,⟨_,rfl,_,rfl,hf,_,rfl,hf,λ_=>qe λg=>?_⟩⟩⟩⟩
  have:=g.1;omega
def Gb(A:Ad):Sp:=λvs H Q _=>∃(d:Addr)(D:Dk)(W:Addr->Prop),vs=[.ref d]/\i0 A H d D W/\∀p,H p=none->Q (.ref p) (upd H p (.lst (fZ D.stores)))
theorem Ei(T:Txt mg)(O:Ok K mg A):gS P w K mg base lR 1 A.q_ A.ra ["self"] (Gb A):=by
 refine O.p_.f.qW wy λjm A0 outer s H vs Q E hr h=>?_
 obtain⟨d,D,W,rfl,⟨Y,x⟩,q⟩:=h
 refine⟨_,(d_ (f_ (qv (pI rfl) (by rfl) T.uh abC (b_ (fS (pv 0) rfl) eV)))),?_⟩
 refine⟨_,rfl,d,A.fI,Y.dx,_,_,rfl,x.hd,O.g7,O.ig,n6 _ _ _,Y.h,_,rfl,x.hh,λp BR=>?_⟩
 rw[wR x.kh]
 exact q p BR
def Ej(A:Ad):Sp:=λvs H Q _=>∃(d:Addr)(D:Dk)(W:Addr->Prop),vs=[.ref d]/\i0 A H d D W/\∀p,H p=none->Q (.ref p) (upd H p (.lst (fZ D.names)))
theorem CD(T:Txt mg)(O:Ok K mg A):gS P w K mg base lR 1 A.pS A.pT ["self"] (Ej A):=by
 refine O.oS.f.qW u9 λjm A0 outer s H vs Q E hr h=>?_
 obtain⟨d,D,W,rfl,⟨Y,x⟩,q⟩:=h
 refine⟨_,(d_ (f_ (qv (pI rfl) (by rfl) T.uh abC (b_ (fS (pv 0) rfl) eV)))),?_⟩
 refine⟨_,rfl,d,A.fI,Y.dx,_,_,rfl,x.hd,O.g7,O.iu,qj _ _ _,Y.m,_,rfl,x.hm,λp BR=>?_⟩
 rw[wR x.km]
 exact q p BR
def Ip(A:Ad):Sp:=λvs H Q E=>∃(d:Addr)(D:Dk)(W:Addr->Prop)(s:Str),vs=[.ref d,.str s]/\i0 A H d D W/\um s/\(s∈D.stores->Q .iQ H)/\(s∉D.stores->E (.ref A.iP) none H)
theorem ql(T:Txt mg)(O:Ok K mg A):gS P w K mg base (vt P w) 1 A.mf A.mi ["self","store"] (Ip A):=by
 refine O.kS.f.y9 qL λjm A0 outer s H vs Q E hr h=>?_
 obtain⟨d,D,W,st,rfl,⟨Y,x⟩,hf,q,qe⟩:=h
 refine⟨_,(d_ (iw (iR (nu (by exact iB hr) (pv 1) (fS (pv 0) rfl))) (d_ (lZ bx O.D8 (by rfl) (ow (iC jC (iC (rH (pv 1)) rG))))) gQ)),?_⟩
 refine⟨_,rfl,_,rfl,d,A.fI,Y.dx,_,_,rfl,x.hd,O.g7,O.ig,n6 _ _ _,Y.h,_,rfl,i_.k (k:=sk st) x.hh,_,rfl,?_⟩
 rw[qE x.kh]
 by_cases hs:st∈D.stores
 ·rw[Ug hs]
  exact q hs
 ·rw[aaa hs]
  exact nv ⟨_,rfl,by decide+kernel,⟨_,rfl,_,rfl,hf.1,_,rfl,hf.1,λ_=>qe hs⟩⟩
def ND(A:Ad):Sp:=λvs H Q E=>∃(d:Addr)(D:Dk)(W:Addr->Prop)(s:Str),vs=[.ref d,.str s]/\i0 A H d D W/\um s/\xB D.made.length/\(s∉D.stores->E (.ref A.iP) none H)/\(s∈D.stores->∀p,H p=none->Q (.ref p) (upd H p (.lst (fZ (D.has s)))))
theorem Le(T:Txt mg)(O:Ok K mg A):gS P w K mg base (vt P w) 2 A.wD A.wF ["self","store"] (ND A):=by
 have j3:=@ql P w K mg base A T O
 refine O.Be.f.y9 uP λjm A0 outer s H vs Q E hr h=>?_
 obtain⟨d,D,W,st,rfl,X,hf,lU,qe,q⟩:=h
 obtain⟨Y,x⟩:=id X
 have BJ:D.made.length<=4000:=lU
 have sz:sizeLine=16777216:=aaC
 refine⟨_,(de (gY (KO bx (pv 0) O.g7 O.kS j3 hr (b_ (pv 1) eV)))
   (d_ (f_ (HA (vS wA (e_ oM).names [2] rfl (HB (fS (pv 0) rfl)) rfl (by decide+kernel) (λ_ _ _ _=>(iI (i:=2) uP.nd rfl (Or.inl rfl))) (λ_ _ _ _=>⟨_,oq (iR (pH (by exact iB hr) (pv 2) (BO hr (fS (pv 0) rfl) (pv 1)))),by(try simp only [j9]);rfl⟩) (λ_ _ _ _=>EB (pv 2))))))),?_⟩
 refine Fc ?_;intro _
 refine⟨_,rfl,d,Y.dx,_,rfl,x.hd,qk,_,rfl,d,D,W,st,rfl,X,hf,λhs=>?_,λhs=>qe hs⟩
 obtain⟨v1,_,n9,_,_,kv,v2,v3⟩:=x.vh st hs
 refine⟨_,rfl,d,A.fI,Y.dx,_,_,rfl,x.hd,O.g7,O.iu,qj _ _ _,Y.m,Y.kM,rfl,x.hm,λo uz=>?_⟩
 have JH:=kU x.km
 have OT:D.names.length=D.made.length:=by unfold Dk.names;rw[Ou]
 have Qm:d≠Y.m:=iz x.hd x.hm (λz=>by cases z)
 have f:∀{b u},H b=some u->b≠Y.m->upd H Y.m (.mw o (.dK Y.kM)) b=some u:=λ{b u} e n=>by rw[c_ n];exact e
 refine HC (by omega) (λi ys Z H3=>∃(v2:Option V)(zs:List Str),Z=[rr d,rs st,v2]/\H3=upd H Y.m (.mw o (.dK Y.kM))/\ys=fZ zs/\zs=(D.names.take i).filter λx=>x∈D.held st) ⟨none,[],rfl,rfl,rfl,rfl⟩ (λi ys Z H3 ⟨_,zs,_,e,e2,e3⟩=>?_) ?_ ?_
 ·rw[e,e2,e3]
  refine⟨a_,?_⟩
  rw[Ou]
  exact aag (aaJ _ _) (by rw[aaE];omega)
 ·rintro i k v ys Z H3 hi ⟨v0,zs,rfl,rfl,rfl,e3⟩
  obtain⟨y,hy,rfl⟩:=Eg x.km hi
  refine⟨_,rfl,_,rfl,d,A.fI,Y.dx,_,_,rfl,f x.hd Qm,O.g7,O.ig,n6 _ _ _,_,rfl,Y.h,.ref (Y.ha st),rfl,?_,Y.ha st,_,rfl,i_.k (k:=sk y) (f v2 n9),_,rfl,?_⟩
  ·have:=i_.k (k:=sk st) (f x.hh x.mh.symm)
   rw[v1] at this
   exact this
  ·rw[qE v3,take_snoc hy,aay]
   by_cases hm:y∈D.held st
   ·rw[Ug hm]
    refine nv ⟨_,rfl,_,_,rfl,rfl,iD _ _,?_⟩
    rw[e3,W5 (by simpa using hm),aaW]
   ·rw[aaa hm]
    refine lY ⟨_,_,rfl,rfl,rfl,?_⟩
    rw[e3,YI (by simpa using hm),aaW,aaB]
 ·rintro ys Z H3 ⟨v0,zs,rfl,rfl,rfl,e3⟩ p BR
  rw[JH,aaq] at e3
  have GX:p≠Y.m:=λz=>by rw[z,a_] at BR;cases BR
  have Dx:H p=none:=by rw[c_ GX] at BR;exact BR
  refine⟨Y.m,o,_,by rw[c_ GX.symm];exact a_,uz,?_⟩
  rw[C7 x.hm GX]
  have:=q hs p Dx
  unfold Dk.has at this
  rw[<-e3] at this
  exact this
def NF(A:Ad):Sp:=λvs H Q E=>∃(d:Addr)(D:Dk)(W:Addr->Prop)(s:Str),vs=[.ref d,.str s]/\i0 A H d D W/\um s/\xB D.made.length/\(s∉D.stores->E (.ref A.iP) none H)/\(s∈D.stores->∀p H',fG H H'->H p=none->uj A H' p (D.jx s)->Q (.ref p) H')
theorem rA(T:Txt mg)(O:Ok K mg A):gS P w K mg base (vt P w) 3 A.mH A.mI ["self","store"] (NF A):=by
 have CS:=@Le P w K mg base A T O
 refine O.lE.f.y9 l_ λjm A0 outer s H vs Q E hr h=>?_
 obtain⟨d,D,W,st,rfl,X,hf,lU,qe,q⟩:=h
 obtain⟨Y,x⟩:=id X
 have BJ:D.made.length<=4000:=lU
 have sz:sizeLine=16777216:=aaC
 have n_:(D.jx st).length<=D.made.length:=aaJ _ _
 refine⟨_,(d_ (f_ (C6 mE (e_ jz).names [2] rfl (ib (KO bx (pv 0) O.g7 O.Be CS hr (b_ (pv 1) eV))) rfl (by decide+kernel) (λ_ _ _ _=>(iI (i:=2) l_.nd rfl (Or.inl rfl))) (λ_ _ _ _=>yY) (λ_ _ _ _=>EB (BO hr (fS (pv 0) rfl) (pv 2)))))),?_⟩
 refine⟨_,rfl,d,Y.dx,_,rfl,x.hd,Lc,_,rfl,d,D,W,st,rfl,X,hf,lU,λhs=>qe hs,λhs p BR=>?_⟩
 rw[Dk.HU]
 have s1:fG H (upd H p (.lst (fZ ((D.jx st).map (·.nm))))):=(fG.refl H).new BR
 have xW:(upd H p (.lst (fZ ((D.jx st).map (·.nm))))) p=some (.lst (fZ ((D.jx st).map (·.nm)))):=a_
 generalize upd H p (.lst (fZ ((D.jx st).map (·.nm))))=H1 at s1 xW
 let Jv:=λ(i:Nat) (ys:List V) (Z:St) (H3:Hp)=>∃(v2:Option V)(as:List Addr),Z=[rr d,rs st,v2]/\H3=H1/\ys=as.map V.ref/\Paired (n4 A H) as ((D.jx st).take i)
 refine⟨p,rfl,⟨_,gP.of xW⟩,kZ (K:=K) (a:=p) (xs:=fZ ((D.jx st).map (·.nm))) (by rw[Ou,Ou];omega) Jv
  ⟨none,[],rfl,rfl,rfl,.nil⟩ (λi ys Z H3 _ ⟨_,as,_,e,e2,e3⟩=>?_) ?_ ?_⟩
 ·rw[e,e2]
  have:=aaj e3
  rw[aaE] at this
  exact⟨gP.of xW,by rw[Ou];omega⟩
 ·rintro i v ys Z H3 hx ⟨v2,as,rfl,rfl,rfl,e3⟩
  obtain⟨y,hy,rfl⟩:=qw hx
  rw[W3] at hy
  obtain⟨pt,Hf,rfl⟩:=Option.map_eq_some_iff.mp hy
  have xV:pt∈D.made:=(Inv.ke.mp (Um Hf)).1
  obtain⟨a,z1,z2⟩:=x.vm pt xV
  refine⟨_,rfl,d,A.fI,Y.dx,_,_,rfl,s1 _ _ x.hd,O.g7,O.iu,qj _ _ _,_,rfl,Y.m,.ref a,rfl,?_,?_⟩
  ·have:=i_.k (k:=sk pt.nm) (s1 _ _ x.hm)
   rw[z1] at this
   exact this
  ·refine⟨_,as++[a],rfl,rfl,by rw[aai];rfl,?_⟩
   rw[take_snoc Hf]
   exact hV e3 z2
 ·rintro ys Z H3 ⟨v2,as,rfl,rfl,rfl,e3⟩ r tJ
  have e0:(fZ ((D.jx st).map (·.nm))).length=(D.jx st).length:=by rw[Ou,Ou]
  rw[e0,aaq] at e3
  have s2:=s1.new (o:=.lst (as.map V.ref)) tJ
  exact q hs r _ s2 (s1.free tJ) ⟨as,a_,Paired.j5 e3 λ_ _ z=>z.same s2⟩
def Iq(A:Ad):Sp:=λvs H Q E=>∃(d:Addr)(D:Dk)(W:Addr->Prop)(s f:Str),vs=[.ref d,.str s,.str f]/\i0 A H d D W/\um s/\Small D.made/\Inv D/\(s∉D.stores->E (.ref A.iP) none H)/\(s∈D.stores->∀p H',fG H H'->H p=none->Cz A H' p (fA (D.jx s) f) (D.row s f)->Q (.ref p) H')
theorem Bv(T:Txt mg)(O:Ok K mg A):gS P w K mg base (vt P w) 5 A.pq A.pw ["self","store","file"] (Iq A):=by
 have uC:=@xS P w K mg base A T O
 have kx:=@rA P w K mg base A T O
 refine O.rm.f.y9 ue λjm A0 outer s H vs Q E hr h=>?_
 obtain⟨d,D,W,st,f,rfl,X,hf,sm,I,qe,q⟩:=h
 obtain⟨Y,x⟩:=id X
 refine⟨_,(d_ (f_ (yQ O.HZ uC (hr.mono (by decide)) (by rfl) O.H_ O.p7.b .nil pe (b_ (KO bx (pv 0) O.g7 O.lE kx hr (b_ (pv 1) eV)) (b_ (pv 2) eV))))),?_⟩
 refine⟨_,rfl,d,Y.dx,_,rfl,x.hd,rn,_,rfl,d,D,W,st,rfl,X,hf,sm.many,λhs=>qe hs,λhs a H1 s1 Yz SQ=>?_⟩
 refine⟨_,rfl,?_⟩
 intro p px np SR nxp
 have s2:fG H1 (upd (upd H1 px (.own p)) p (.ins A.fY px [])):=λb o e=>by
  rw[c_ (fz e np),c_ (fz e SR)]
  exact e
 refine⟨p,px,a,D.jx st,f,rfl,a_,SQ.same s2,sm.sub (Inv.qy st),I.nodup st f,I.closed hs f,I.KS st f,λH' k sg=>⟨rfl,?_⟩⟩
 exact q hs p H' (λb o e=>k b o (s2 b o (s1 b o e)) (fz (s1 b o e) np)) (s1.free np) sg
theorem Lf{D:Dk}(I:Inv D)(s f:Str):∀l∈D.row s f,l.nm∈(fA (D.jx s) f).map (·.nm):=λl hl=>Q3 ((i5 _ f).subset ((I.lh s f).subset hl))
end
theorem wU{xs ys:List Str}(nd:xs.Nodup)(h:∀x∈xs,x∈ys):xs.length<=ys.length:=by
 have:=len_sub (xs:=xs.map λk=>((k,0):Nm)) (ys:=ys.map λk=>(k,0)) (abx.mpr (nd.imp λh z=>h (aaT Prod.fst z))) λx hx=>by
  obtain⟨k,hk,rfl⟩:=aak.mp hx
  exact Q3 (h k hk)
 rwa [Ou,Ou] at this
section
variable{A:Ad}{H:Hp}{x:Addr}{o:HO}{kv:List (Key×V)}
theorem lF.dk{a:Addr}{l:Ln}(h:lF A H a l)(hx:H x=some (.dK kv)):lF A (L2.upd H x o) a l:=lF.upd h hx (λ_ z=>by cases z) (λ_ _ _ z=>by cases z)
theorem oT.dk{a:Addr}{ls:List Ln}(h:oT A H a ls)(hx:H x=some (.dK kv)):oT A (L2.upd H x o) a ls:=by
 obtain⟨as,h1,h2⟩:=h
 exact⟨as,by rw[c_ (iz h1 hx (λz=>by cases z))];exact h1,Paired.j5 h2 λ_ _ z=>z.dk hx⟩
theorem wJ.dk{a:Addr}{ns:List Nm}(h:wJ H a ns)(hx:H x=some (.dK kv)):wJ (L2.upd H x o) a ns:=by
 obtain⟨vs,h1,h2⟩:=h
 exact⟨vs,by rw[c_ (iz h1 hx (λz=>by cases z))];exact h1,Paired.j5 h2 λ_ _ z=>z.upd hx (λ_ z=>by cases z)⟩
theorem n4.dk{a:Addr}{p:Pt}(h:n4 A H a p)(hx:H x=some (.dK kv)):n4 A (L2.upd H x o) a p:=by
 obtain⟨dx,vf,pu,cu,vo,h0,h1,h2,h3,h4⟩:=h
 exact⟨dx,vf,pu,cu,vo,by rw[c_ (iz h0 hx (λz=>by cases z))];exact h0,h1,h2.dk hx,h3.dk hx,h4⟩
end
def Bw(l:List Str)(m:Str):List Str:=if m∈l then l else l++[m]
theorem By{l:List Str}{m x:Str}:x∈Bw l m↔x∈l\/x=m:=by
 unfold Bw
 split
 ·rename_i h
  exact⟨.inl,λz=>z.elim id λz=>z▸h⟩
 ·simp
theorem Di{l:List Str}{m:Str}(h:l.Nodup):(Bw l m).Nodup:=by
 unfold Bw
 split
 ·exact h
 ·rename_i hm
  rw[aaV]
  exact⟨h,by simp,λa ha b hb z=>hm (by rw[Oy.mp hb] at z;exact z▸ha)⟩
theorem yz{dk:List (Key×V)}{l:List Str}(h:dk.map (·.1)=l.map sk)(m:Str)(v:V):(putK dk (sk m) v).map (·.1)=(Bw l m).map sk:=by
 rw[n5,h]
 unfold Bw
 by_cases e:m∈l
 ·rw[aah (wQ.mpr e),aah e]
 ·rw[aab (λz=>e (wQ.mp z)),aab e,aai];rfl
theorem yA:∀(more:List (Key×V))(dk:List (Key×V))(l r:List Str),dk.map (·.1)=l.map sk->more.map (·.1)=r.map sk->l.Nodup->∃l':List Str,(putAll dk more).map (·.1)=l'.map sk/\l'.Nodup/\∀m,m∈l'↔m∈l\/m∈r
 | [],dk,l,r,h1,h2,nd=>by
  have:r=[]:=by cases r with|nil=>rfl|cons _ _=>cases h2
  subst this
  exact⟨l,h1,nd,λm=>by simp⟩
 | p::t,dk,l,r,h1,h2,nd=>by
  cases r with
  | nil=>cases h2
  | cons x r=>
   rw[aam,aam] at h2
   injection h2 with e1 e2
   rw[pJ,e1]
   obtain⟨l',z1,z2,z3⟩:=yA t (putK dk (sk x) p.2) (Bw l x) r (yz h1 x _) e2 (Di nd)
   refine⟨l',z1,z2,λm=>?_⟩
   rw[z3 m,By,RT,or_assoc]
section
variable{P:Program}{w:World}{K:Qqy}{mg:Qqx}{base:Heap}{A:Ad}
def Dj(A:Ad):Sp:=λvs H Q E=>∃(d:Addr)(D:Dk)(W:Addr->Prop)(s:Str),vs=[.ref d,.str s]/\i0 A H d D W/\um s/\D.stores.length<1000/\(¬Good s->E (.ref A.i3) none H)/\(Good s->s∈D.stores->E (.ref A.fE) none H)/\
 (Good s->s∉D.stores->∀H' W',i0 A H' d (D.begin s) W'->Dh W H H'->(∀b,W' b->W b\/H b=none)->Q .iQ H')
theorem Bz(T:Txt mg)(O:Ok K mg A):gS P w K mg base (vt P w) 2 A.sQ A.sR ["self","store"] (Dj A):=by
 have oV:=@rq P w K mg base A T O
 refine O.kR.f.y9 xI λjm A0 outer s H vs Q E hr h=>?_
 obtain⟨d,D,W,st,rfl,X,hf,hlen,q1,q2,q3⟩:=h
 obtain⟨Y,x⟩:=id X
 have sz:sizeLine=16777216:=aaC
 refine⟨_,(de (gY (Uj bx O.rN oV hr (b_ (pv 1) eV)))
   (de (iw (iR (pH (by exact iB hr) (pv 1) (fS (pv 0) rfl))) (d_ (lZ bx O.mL (by rfl) (ow (iC jC (iC (rH (pv 1)) (iC jC rG)))))) gQ)
   (d_ (i4 (by exact iB hr) (fS (pv 0) rfl) (pv 1) lX rfl)))),?_⟩
 refine Cb ?_;intro _ _
 refine⟨_,rfl,st,rfl,hf,λg=>?_,λng=>q1 ng⟩
 refine⟨_,rfl,_,rfl,d,A.fI,Y.dx,_,_,rfl,x.hd,O.g7,O.ig,n6 _ _ _,Y.h,_,rfl,i_.k (k:=sk st) x.hh,_,rfl,?_⟩
 rw[qE x.kh]
 by_cases hs:st∈D.stores
 ·rw[Ug hs]
  refine nv ⟨_,rfl,by decide+kernel,⟨_,rfl,_,rfl,hf.1,_,rfl,hf.1,⟨_,rfl,by decide+kernel,λ_=>q2 g hs⟩⟩⟩
 ·rw[aaa hs]
  refine lY ?_
  intro p BR
  have fr:∀{b o},H b=some o->b≠p:=λe=>fz e BR
  have OL:(upd H p (.dK [])) Y.h=some (.dK Y.kH):=by rw[c_ (fr x.hh)];exact x.hh
  have JH:=kU x.kh
  refine⟨_,rfl,d,A.fI,Y.dx,_,_,rfl,by rw[c_ (fr x.hd)];exact x.hd,O.g7,O.ig,n6 _ _ _,_,rfl,Y.h,_,rfl,lW.k (k:=sk st) OL (by omega),?_⟩
  have s1:fG H (upd H p (.dK [])):=(fG.refl H).new BR
  have up:∀{b o},H b=some o->b≠Y.h->upd (upd H p (.dK [])) Y.h (.dK (putK Y.kH (sk st) (.ref p))) b=some o:=λ{b o} e n=>by rw[c_ n];exact s1 _ _ e
  have SS:p≠Y.h:=(fr x.hh).symm
  refine q3 g hs _ (λb=>W b\/b=p) ⟨⟨Y.dx,Y.m,Y.n,Y.h,λt=>if t=st then p else Y.ha t,Y.kM,Y.kN,putK Y.kH (sk st) (.ref p)⟩,?_⟩ (λb o e nw=>?_) (λb hb=>?_)
  ·exact{
    hd:=up x.hd (iz x.hd x.hh (λz=>by cases z))
    hm:=up x.hm x.mh
    hn:=up x.hn x.nh
    hh:=a_
    mn:=x.mn
    mh:=x.mh
    nh:=x.nh
    wm:=.inl x.wm
    wn:=.inl x.wn
    wh:=.inl x.wh
    km:=x.km
    vm:=λq hq=>by obtain⟨a,h1,h2⟩:=x.vm q hq;exact⟨a,h1,(h2.same s1).dk OL⟩
    kn:=x.kn
    vn:=λy hy=>by
     obtain⟨a,kv,l,h1,h2,h3,h4⟩:=x.vn y hy
     exact⟨a,kv,l,h1,λz=>z.elim h2 (fr h3),up h3 (λ(z:a=Y.h)=>h2 (by rw[z];exact x.wh)),h4⟩
    kh:=qF x.kh hs _
    vh:=λt ht=>by
     show hZ (putK Y.kH (sk st) (.ref p)) (sk t)=some (.ref (if t=st then p else Y.ha t))/\(W (if t=st then p else Y.ha t)\/(if t=st then p else Y.ha t)=p)/\(if t=st then p else Y.ha t)≠Y.m/\(if t=st then p else Y.ha t)≠Y.n/\(if t=st then p else Y.ha t)≠Y.h/\∃kv:List (Key×V),(upd (upd H p (.dK [])) Y.h (.dK (putK Y.kH (sk st) (.ref p)))) (if t=st then p else Y.ha t)=some (.dK kv)/\kv.map (·.1)=(if t=st then[] else D.held t).map sk
     rw[jt]
     by_cases e:t=st
     ·subst e
      rw[aah rfl,aah rfl,aah rfl]
      exact⟨rfl,.inr rfl,(fr x.hm).symm,(fr x.hn).symm,SS,[],by rw[c_ SS];exact a_,rfl⟩
     ·have Mt:t∈D.stores:=(Ue.mp ht).elim id λz=>absurd (Oy.mp z) e
      rw[aab (λz=>e (acm z)),aab e,aab e]
      obtain⟨h1,h2,h3,h4,h5,kv,h6,h7⟩:=x.vh t Mt
      exact⟨h1,.inl h2,h3,h4,h5,kv,up h6 h5,h7⟩
    inj:=λt ht u hu e=>by
     have e:(if t=st then p else Y.ha t)=(if u=st then p else Y.ha u):=e
     by_cases e1:t=st
     ·by_cases e2:u=st
      ·rw[e1,e2]
      ·have SU:u∈D.stores:=(Ue.mp hu).elim id λz=>absurd (Oy.mp z) e2
       rw[aah e1,aab e2] at e
       obtain⟨_,_,_,_,_,kv,h6,_⟩:=x.vh u SU
       exact absurd e.symm (fr h6)
     ·have Mt:t∈D.stores:=(Ue.mp ht).elim id λz=>absurd (Oy.mp z) e1
      by_cases e2:u=st
      ·rw[aab e1,aah e2] at e
       obtain⟨_,_,_,_,_,kv,h6,_⟩:=x.vh t Mt
       exact absurd e (fr h6)
      ·have SU:u∈D.stores:=(Ue.mp hu).elim id λz=>absurd (Oy.mp z) e2
       rw[aab e1,aab e2] at e
       exact x.inj t Mt u SU e
    dk:=λb hb=>by
     by_cases e:b=Y.h
     ·rw[e];exact⟨_,a_⟩
     ·rcases hb with hb|hb
      ·obtain⟨kv,h⟩:=x.dk b hb;exact⟨kv,up h e⟩
      ·rw[hb];exact⟨[],by rw[c_ SS];exact a_⟩}
  ·exact up e (λ(z:b=Y.h)=>nw (by rw[z];exact x.wh))
  ·rcases hb with hb|hb
   ·exact .inl hb
   ·rw[hb];exact .inr BR
def NG(A:Ad):Sp:=λvs H Q E=>∃(d l:Addr)(D:Dk)(W:Addr->Prop)(x:Str)(fs:List Str),vs=[.ref d,.str x,.ref l]/\i0 A H d D W/\H l=some (.lst (fZ fs))/\fs.length<=1000/\(∀y∈x::fs,um y)/\
 ((¬∀y∈x::fs,Good y)->∀H',fG H H'->E (.ref A.i3) none H')/\((∀y∈x::fs,Good y)->x∈D.names->∀H',fG H H'->E (.ref A.fE) none H')/\((∀y∈x::fs,Good y)->x∉D.names->∀H',fG H H'->Q .iQ H')
theorem zG(T:Txt mg)(O:Ok K mg A):gS P w K mg base (vt P w) 2 A.nU A.nV ["self","patch","files"] (NG A):=by
 have oV:=@rq P w K mg base A T O
 refine O.qa.f.y9 mF λjm A0 outer s H vs Q E hr h=>?_
 obtain⟨d,l,D,W,y,fs,rfl,X,hl,SV,JN,q1,q2,q3⟩:=h
 obtain⟨Y,x⟩:=id X
 have sz:sizeLine=16777216:=aaC
 refine⟨_,(de (ip M3 rfl (ib (gU Kk (jq (b_ (pv 1) eV)) (pv 2))) (vv 3 mF) (d_ (gY (Uj bx O.rN oV hr (b_ (pv 3) eV)))))
   (d_ (iw (iR (pH (by exact iB hr) (pv 1) (fS (pv 0) rfl))) (d_ (lZ bx O.mL (by rfl) (ow (iC jC (iC (rH (pv 1)) (iC jC rG)))))) gQ))),?_⟩
 refine Fc ?_;intro _
 refine⟨_,rfl,L2.lU,λa ha=>?_⟩
 have s1:fG H (upd H a (.lst [V.str y])):=(fG.refl H).new ha
 refine⟨_,rfl,a,l,_,_,rfl,rfl,a_,s1 _ _ hl,by rw[Ou];show 1+_<=_;omega,λb hb=>?_⟩
 have s2:=s1.new (o:=.lst ([V.str y]++fZ fs)) hb
 have LS:(upd (upd H a (.lst [V.str y])) b (.lst ([V.str y]++fZ fs))) b=some (.lst (fZ (y::fs))):=a_
 generalize upd (upd H a (.lst [V.str y])) b (.lst ([V.str y]++fZ fs))=H2 at s2 LS
 let Jv:=λ(i:Nat) (Z:St) (H3:Hp)=>∃v,Z=[rr d,rs y,rr l,v]/\H3=H2/\∀z∈(y::fs).take i,Good z
 refine⟨b,rfl,⟨_,gP.of LS⟩,jh (K:=K) (a:=b) (xs:=fZ (y::fs)) Jv ⟨none,rfl,rfl,λz hz=>by rw[abJ] at hz;cases hz⟩ (by rintro _ _ _ _ ⟨_,_,e,_⟩;rw[e];exact gP.of LS) ?_ ?_⟩
 ·rintro i v Z H3 hx ⟨v0,rfl,rfl,hg⟩
  obtain⟨z,hz,rfl⟩:=qw hx
  refine⟨_,rfl,z,rfl,JN z (Um hz),λg=>?_,λng=>q1 (λh=>ng (h z (Um hz))) _ s2⟩
  refine⟨_,rfl,rfl,λt ht=>?_⟩
  rw[take_snoc hz] at ht
  rcases Ue.mp ht with ht|ht
  ·exact hg t ht
  ·rw[Oy.mp ht];exact g
 ·rintro Z H3 ⟨v0,rfl,rfl,hg⟩
  rw[Ou,aaq] at hg
  refine⟨_,rfl,_,rfl,d,A.fI,Y.dx,_,_,rfl,s2 _ _ x.hd,O.g7,O.iu,qj _ _ _,Y.m,_,rfl,i_.k (k:=sk y) (s2 _ _ x.hm),_,rfl,?_⟩
  rw[qE x.km]
  have hf:=JN y aae
  by_cases hm:y∈D.names
  ·rw[Ug hm]
   exact nv ⟨_,rfl,by decide+kernel,⟨_,rfl,_,rfl,hf.1,_,rfl,hf.1,⟨_,rfl,by decide+kernel,λ_=>q2 hg hm _ s2⟩⟩⟩
  ·rw[aaa hm]
   exact q3 hg hm _ s2
def Lg(A:Ad):Sp:=λvs H Q _=>∃(d a:Addr)(D:Dk)(W:Addr->Prop)(s:Str)(p:Pt),vs=[.ref d,.str s,.ref a]/\i0 A H d D W/\Inv D/\xB D.made.length/\s∈D.stores/\n4 A H a p/\p.nm∉D.names/\xB p.gW.length/\xB p.iU.length/\(∀y∈gT p,y∈D.names)/\
 ∀H',i0 A H' d (D.keep s p) W->Dh W H H'->Q .iQ H'
theorem zH(p:Pt):(gT p).length<=p.iU.length+2*p.gW.length+1:=by
 unfold gT
 rw[RX,Ou]
 have h1:=aaJ (λn:Nm=>decide (n.1≠p.nm)) (named p)
 have h2:=yx p
 have h3:p.other.toList.length<=1:=by cases p.other<;>simp
 omega
theorem Ir(T:Txt mg)(O:Ok K mg A):gS P w K mg base lR 3 A.uW A.uX ["self","store","patch"] (Lg A):=by
 have qP:=@qi P w K mg base A T O
 refine O.yt.f.qW oQ λjm A0 outer s H vs Q E hr h=>?_
 obtain⟨d,a,D,W,st,p,rfl,X,I,lU,hs,Hf,fresh,CQ,BL,yH,q⟩:=h
 obtain⟨Y,x⟩:=id X
 have BJ:D.made.length<=4000:=lU
 have JL:p.gW.length<=4000:=CQ
 have GW:p.iU.length<=4000:=BL
 have sz:sizeLine=16777216:=aaC
 have OT:D.names.length=D.made.length:=by unfold Dk.names;rw[Ou]
 have RD:=zH p
 refine⟨_,(de (nA 3 oQ lX)
   (de (ip aat rfl (ib (sy O.mJ qP hr (b_ (pv 2) eV))) (vv 4 oQ) (de (i4 (by exact iB hr) (pv 3) (pv 4) lH rfl)
   (d_ (gY (Fx (pv 3) (BO hr (fS (pv 0) rfl) (pv 4)) ⟨rfl,rfl,rfl,rfl⟩)))))
   (de (i4 (by exact iB hr) (fS (pv 0) rfl) (fS (pv 2) rfl) (pv 3) rfl)
   (de (i4 (by exact iB hr) (fS (pv 0) rfl) (fS (pv 2) rfl) (pv 2) rfl)
   (d_ (i4 (by exact iB hr) (BO hr (fS (pv 0) rfl) (pv 1)) (fS (pv 2) rfl) lH rfl)))))),?_⟩
 refine M6 ?_;intro _ _ _ _
 intro nd LJ
 have s1:fG H (upd H nd (.dK [])):=(fG.refl H).new LJ
 have LZ:(upd H nd (.dK [])) nd=some (.dK []):=a_
 generalize upd H nd (.dK [])=H1 at s1 LZ
 refine⟨_,rfl,a,p,rfl,Hf.same s1,CQ,BL,λr H2 s2 tJ EF=>?_⟩
 have Mu:=s1.trans s2
 have YA:r≠nd:=λz=>by rw[z,LZ] at tJ;cases tJ
 have Qn:¬W nd:=X.iQ LJ
 let Jv:=λ(i:Nat) (Z:St) (H3:Hp)=>∃(v:Option V)(kv:List (Key×V))(l:List Str),Z=[rr d,rs st,rr a,rr nd,v]/\(∀b o,H2 b=some o->b≠nd->H3 b=some o)/\H3 nd=some (.dK kv)/\kv.map (·.1)=l.map sk/\l.Nodup/\∀y,y∈l↔∃z∈(gT p).take i,y=z\/y∈D.ic z
 refine⟨r,rfl,⟨_,gP.of EF⟩,jh (K:=K) (a:=r) (xs:=fZ (gT p)) Jv
  ⟨none,[],[],rfl,λb o e _=>e,s2 _ _ LZ,rfl,aa8,λy=>by simp⟩ (by rintro _ _ _ _ ⟨_,_,_,_,e,_⟩;exact gP.of (e _ _ EF YA)) ?_ ?_⟩
 ·rintro i v Z H3 hx ⟨v0,kv,l,rfl,e1,e2,e3,e4,e5⟩
  obtain⟨z,hz,rfl⟩:=qw hx
  have YB:z∈gT p:=Um hz
  have Vg:z∈D.names:=yH z YB
  obtain⟨az,kz,lz,z1,z2,z3,z4,z5,z6⟩:=x.vn z Vg
  have tI:∀y∈l,y∈D.names:=λy hy=>by
   obtain⟨t,ht,h⟩:=(e5 y).mp hy
   have Vh:=yH t (List.mem_of_mem_take ht)
   rcases h with h|h
   ·rw[h];exact Vh
   ·exact I.vz Vh h
  have UY:=wU e4 tI
  have hlz:=wU z5 λy hy=>I.vz Vg ((z6 y).mp hy)
  have JH:=kU e3
  have hkz:=kU z4
  have UN:=iN kv (sk z) (V.bl true)
  have SW:az≠nd:=λe=>by rw[e,LJ] at z3;cases z3
  refine⟨_,rfl,_,rfl,nd,_,rfl,lW.k (k:=sk z) e2 (by omega),?_⟩
  have up:∀{b o},H b=some o->upd H3 nd (.dK (putK kv (sk z) (V.bl true))) b=some o:=λ{b o} e=>by
   have n:b≠nd:=λz=>by rw[z,LJ] at e;cases e
   rw[c_ n];exact e1 _ _ (Mu _ _ e) n
  refine⟨_,rfl,nd,rfl,.inl ⟨_,.inl a_⟩,_,rfl,d,A.fI,Y.dx,_,_,rfl,up x.hd,O.g7,O.jc,yy _ _ _,_,rfl,Y.n,.ref az,rfl,?_,az,_,kz,rfl,a_,.inl (up z3),SW.symm,by omega,?_⟩
  ·have:=i_.k (k:=sk z) (up x.hn)
   rw[z1] at this
   exact this
  ·obtain⟨l',w1,w2,w3⟩:=yA kz _ (Bw l z) lz (yz e3 z (V.bl true)) z4 (Di e4)
   refine⟨_,_,l',rfl,λb o e n=>by rw[c_ n,c_ n];exact e1 b o e n,a_,w1,w2,λy=>?_⟩
   rw[w3 y,By,e5 y,z6 y,take_snoc hz]
   constructor
   ·rintro((⟨t,ht,h⟩|h)|h)
    ·exact⟨t,aad _ ht,h⟩
    ·exact⟨z,by simp,.inl h⟩
    ·exact⟨z,by simp,.inr h⟩
   ·rintro⟨t,ht,h⟩
    rcases Ue.mp ht with ht|ht
    ·exact .inl (.inl ⟨t,ht,h⟩)
    ·rw[Oy.mp ht] at h
     exact h.elim (λh=>.inl (.inr h)) .inr
 ·rintro Z H3 ⟨v0,kv,l,rfl,e1,e2,e3,e4,e5⟩
  rw[Ou,aaq] at e5
  have s3:fG H H3:=λb o e=>e1 b o (Mu _ _ e) (λz=>by rw[z,LJ] at e;cases e)
  obtain⟨dx,vf,pu,cu,vo,g1,g2⟩:=Hf.same s3
  have y:=x.same s3
  have hnM:=kU x.km
  have hnN:=kU x.kn
  obtain⟨v1,v2,v3,v4,v5,Vi,v6,v7⟩:=y.vh st hs
  have hkv0:=kU v7
  have hhl:=wU (I.uN st hs) λt ht=>(I.mB st hs t ht).1
  refine⟨_,rfl,_,rfl,d,A.fI,Y.dx,_,_,rfl,y.hd,O.g7,O.jc,yy _ _ _,_,rfl,a,A.fR,dx,_,_,rfl,g1,O.ir,O.h_,qc,Y.n,_,rfl,lW.k (k:=sk p.nm) y.hn (by omega),?_⟩
  have f1:∀{b o},H3 b=some o->b≠Y.n->upd H3 Y.n (.dK (putK Y.kN (sk p.nm) (.ref nd))) b=some o:=λ{b o} e n=>by rw[c_ n];exact e
  have He:d≠Y.n:=iz y.hd y.hn (λz=>by cases z)
  have Vj:a≠Y.n:=iz g1 y.hn (λz=>by cases z)
  have Qm:d≠Y.m:=iz y.hd y.hm (λz=>by cases z)
  have YC:a≠Y.m:=iz g1 y.hm (λz=>by cases z)
  refine⟨_,rfl,_,rfl,d,A.fI,Y.dx,_,_,rfl,f1 y.hd He,O.g7,O.iu,qj _ _ _,_,rfl,a,A.fR,dx,_,_,rfl,f1 g1 Vj,O.ir,O.h_,qc,Y.m,_,rfl,lW.k (k:=sk p.nm) (f1 y.hm x.mn) (by omega),?_⟩
  have f2:∀{b o},H3 b=some o->b≠Y.n->b≠Y.m->upd (upd H3 Y.n (.dK (putK Y.kN (sk p.nm) (.ref nd)))) Y.m (.dK (putK Y.kM (sk p.nm) (.ref a))) b=some o:=λ{b o} e n m=>by rw[c_ m];exact f1 e n
  refine⟨_,rfl,d,A.fI,Y.dx,_,_,rfl,f2 y.hd He Qm,O.g7,O.ig,n6 _ _ _,_,rfl,Y.h,.ref (Y.ha st),rfl,?_,_,rfl,a,A.fR,dx,_,_,rfl,f2 g1 Vj YC,O.ir,O.h_,qc,Y.ha st,_,rfl,lW.k (k:=sk p.nm) (f2 v6 v4 v3) (by omega),?_⟩
  ·have:=i_.k (k:=sk st) (f2 y.hh x.nh.symm x.mh.symm)
   rw[v1] at this
   exact this
  ·have YD:p.nm∉D.held st:=λz=>fresh (I.mB st hs _ z).1
   have f3:∀{b o},H3 b=some o->b≠Y.n->b≠Y.m->b≠Y.ha st->upd (upd (upd H3 Y.n (.dK (putK Y.kN (sk p.nm) (.ref nd)))) Y.m (.dK (putK Y.kM (sk p.nm) (.ref a)))) (Y.ha st) (.dK (putK Vi (sk p.nm) (V.bl true))) b=some o:=λ{b o} e n m h=>by rw[c_ h];exact f2 e n m
   have f4:∀{b q},n4 A H3 b q->n4 A (upd (upd (upd H3 Y.n (.dK (putK Y.kN (sk p.nm) (.ref nd)))) Y.m (.dK (putK Y.kM (sk p.nm) (.ref a)))) (Y.ha st) (.dK (putK Vi (sk p.nm) (V.bl true)))) b q:=λz=>((z.dk y.hn).dk (f1 y.hm x.mn)).dk (f2 v6 v4 v3)
   have nW:∀{b},¬W b->b≠Y.n/\b≠Y.m/\b≠Y.ha st:=λ{b} h=>⟨λz=>h (by rw[z];exact x.wn),λz=>h (by rw[z];exact x.wm),λz=>h (by rw[z];exact v2)⟩
   refine q _ ⟨{Y with kM:=putK Y.kM (sk p.nm) (.ref a),kN:=putK Y.kN (sk p.nm) (.ref nd)},?_⟩ λb o e n=>f3 (s3 _ _ e) (nW n).1 (nW n).2.1 (nW n).2.2
   have CT:(D.keep st p).names=D.names++[p.nm]:=by
    show(D.made++[p]).map (·.nm)=_
    rw[aai];rfl
   exact{
    hd:=f3 y.hd He Qm (iz y.hd v6 (λz=>by cases z))
    hm:=by
     show upd _ (Y.ha st) _ Y.m=_
     rw[c_ v3.symm];exact a_
    hn:=by
     show upd _ (Y.ha st) _ Y.n=_
     rw[c_ v4.symm,c_ x.mn.symm];exact a_
    hh:=f3 y.hh x.nh.symm x.mh.symm v5.symm
    mn:=x.mn
    mh:=x.mh
    nh:=x.nh
    wm:=x.wm
    wn:=x.wn
    wh:=x.wh
    km:=by rw[CT];exact qF x.km fresh _
    vm:=λq hq=>by
     show ∃b,hZ (putK Y.kM (sk p.nm) (.ref a)) (sk q.nm)=some (.ref b)/\_
     rw[jt]
     rcases Ue.mp hq with hq|hq
     ·obtain⟨b,w1,w2⟩:=y.vm q hq
      have n9:q.nm≠p.nm:=λz=>fresh (by rw[<-z];exact Q3 hq)
      rw[aab (λz=>n9 (acm z))]
      exact⟨b,w1,f4 w2⟩
     ·rw[Oy.mp hq,aah rfl]
      exact⟨a,rfl,f4 (Hf.same s3)⟩
    kn:=by rw[CT];exact qF x.kn fresh _
    vn:=λt ht=>by
     rw[CT] at ht
     show ∃(b:Addr)(kv:List (Key×V))(l:List Str),hZ (putK Y.kN (sk p.nm) (.ref nd)) (sk t)=some (.ref b)/\¬W b/\_/\kv.map (·.1)=l.map sk/\l.Nodup/\∀u,u∈l↔u∈(if t=p.nm then oF D.ic p else D.ic t)
     rw[jt]
     by_cases e:t=p.nm
     ·rw[aah (by rw[e]),aah e]
      refine⟨nd,kv,l,rfl,Qn,f3 e2 (nW Qn).1 (nW Qn).2.1 (nW Qn).2.2,e3,e4,λu=>?_⟩
      rw[e5 u]
      unfold oF
      rw[aaU]
      exact⟨λ⟨z,h1,h2⟩=>⟨z,h1,RT.mpr h2⟩,λ⟨z,h1,h2⟩=>⟨z,h1,RT.mp h2⟩⟩
     ·rw[aab (λz=>e (acm z)),aab e]
      have Mt:t∈D.names:=(Ue.mp ht).elim id λz=>absurd (Oy.mp z) e
      obtain⟨b,SX,l',w1,w2,w3,w4⟩:=y.vn t Mt
      exact⟨b,SX,l',w1,w2,f3 w3 (nW w2).1 (nW w2).2.1 (nW w2).2.2,w4⟩
    kh:=x.kh
    vh:=λt ht=>by
     obtain⟨h1,h2,h3,h4,h5,SX,h6,h7⟩:=y.vh t ht
     refine⟨h1,h2,h3,h4,h5,?_⟩
     show ∃kv:List (Key×V),_/\kv.map (·.1)=(if t=st then D.held st++[p.nm] else D.held t).map sk
     by_cases e:t=st
     ·subst e
      rw[aah rfl]
      exact⟨_,a_,qF v7 YD _⟩
     ·rw[aab e]
      exact⟨SX,f3 h6 h4 h3 (λz=>e (x.inj t ht st hs z)),h7⟩
    inj:=x.inj
    dk:=λb hb=>by
     by_cases h1:b=Y.ha st
     ·rw[h1];exact⟨_,a_⟩
     ·by_cases h2:b=Y.m
      ·rw[h2,c_ v3.symm];exact⟨_,a_⟩
      ·by_cases h3:b=Y.n
       ·rw[h3,c_ v4.symm,c_ x.mn.symm];exact⟨_,a_⟩
       ·obtain⟨kv,h⟩:=y.dk b hb
        exact⟨kv,f3 h h3 h2 h1⟩}
theorem wV(l:List Str):Paired (λ(x:Str) (v:V)=>v=.str x) l (fZ l):=by
 induction l with
 | nil=>exact .nil
 | cons x r ih=>exact .cons rfl ih
theorem zI{n:Nat}{K:Qqy}{H:Hp}{a c:Addr}{x y:List Str}(h1:gP K H a (fZ x))(h2:gP K H c (fZ y)):qT K H (n+1) (.ref a) (.ref c) (decide (x=y)):=
 qT.Hz (F:=λ(x:Str) (v:V)=>v=.str x) (λp q u v hu hv=>by subst hu hv;exact qT.Ku p q) h1 h2 (wV x) (wV y)
def Jp(A:Ad):Sp:=λvs H Q E=>∃(d t:Addr)(D:Dk)(W:Addr->Prop)(s x f:Str)(texts:List Str),vs=[.ref d,.str s,.str x,.str f,.ref t]/\i0 A H d D W/\Inv D/\Small D.made/\(D.made.flatMap (·.gW)).length<=1000/\um s/\um x/\um f/\H t=some (.lst (fZ texts))/\texts.length<=1000/\
 (s∉D.stores->E (.ref A.iP) none H)/\
 (s∈D.stores->¬(Good x/\Good f)->∀H',fG H H'->E (.ref A.i3) none H')/\
 (s∈D.stores->Good x->Good f->x∈D.names->∀H',fG H H'->E (.ref A.fE) none H')/\
 (s∈D.stores->Good x->Good f->x∉D.names->D.pL s f≠[]->∀H',fG H H'->E (.ref A.jn) none H')/\
 (s∈D.stores->Good x->Good f->x∉D.names->D.pL s f=[]->(D.row s f).map (·.tx)=texts->∀H',fG H H'->E (.ref A.pW) none H')/\
 (s∈D.stores->Good x->Good f->x∉D.names->D.pL s f=[]->(D.row s f).map (·.tx)≠texts->∀H',i0 A H' d (D.keep s (jk x f (D.row s f) texts)) W->Dh W H H'->Q .iQ H')
theorem qG{x f:Str}:(∀y∈[x,f],Good y)↔Good x/\Good f:=by
 constructor
 ·exact λh=>⟨h x (by simp),h f (by simp)⟩
 ·rintro⟨h1,h2⟩ y hy
  rcases RT.mp hy with z|z
  ·rw[z];exact h1
  ·rw[Oy.mp z];exact h2
theorem tm{D:Dk}(I:Inv D){s f x:Str}(hs:s∈D.stores)(texts:List Str):∀y∈gT (jk x f (D.row s f) texts),y∈D.names:=by
 intro y hy
 unfold gT at hy
 rcases Ue.mp hy with hy|hy
 ·obtain⟨m,hm,rfl⟩:=aak.mp hy
  obtain⟨hm,hn⟩:=Yj.mp hm
  have hn:m.1≠x:=aaz hn
  have fin:m∈(D.row s f).map (·.nm)->m.1∈D.names:=λh=>by
   obtain⟨l,hl,rfl⟩:=aak.mp h
   obtain⟨p,h1,_,h3⟩:=I.qz hl
   have hp:=(Inv.ke.mp h1).1
   rw[lx (I.xA p hp) (Q3 h3)]
   exact Q3 hp
  rcases Ue.mp hm with hm|hm
  ·obtain⟨l,hl,rfl⟩:=aak.mp hm
   exact fin (Q3 (Yj.mp hl).1)
  ·obtain⟨l,hl,hm⟩:=aaU.mp hm
   have Hc:l.up=some m\/l.lo=some m:=by
    rcases Ue.mp hm with hm|hm
    ·exact .inl (by simpa using hm)
    ·exact .inr (by simpa using hm)
   rcases vy texts 0 0 none l hl m Hc with(z|⟨t,z⟩)|z
   ·cases z
   ·obtain⟨q,_,_,l',ED,rfl⟩:=zc z
    exact fin (Q3 (Um ED))
   ·rw[sE] at z
    obtain⟨j,_,rfl⟩:=aak.mp z
    exact absurd rfl hn
 ·cases hy
theorem tq{x f:Str}{row:List Ln}{texts:List Str}:(jk x f row texts).gW.length<=texts.length/\(jk x f row texts).iU.length<=row.length:=by
 have rise:=qx (row.map (·.tx)) texts
 rw[Ou] at rise
 have h:=HS rise x
 refine⟨by show(jF x texts _).length<=_;omega,?_⟩
 show((row.filter _).map _).length<=_
 rw[Ou]
 exact aaJ _ _
theorem yB(T:Txt mg)(O:Ok K mg A):gS P w K mg base (vt P w) 6 A.rb A.rg ["self","store","patch","file","texts"] (Jp A):=by
 have j3:=@ql P w K mg base A T O
 have uD:=@zG P w K mg base A T O
 have vg:=@Bv P w K mg base A T O
 have qQ:=@wM P w K mg base A T O
 have uE:=@tf P w K mg base A T O
 have BN:=@Ir P w K mg base A T O
 refine O.lj.f.y9 l9 λjm A0 outer s H vs Q E hr h=>?_
 obtain⟨d,t,D,W,st,y,f,texts,rfl,X,I,sm,SY,Ex,YE,Pb,ht,Mm,q1,q2,q3,q4,q5,q6⟩:=h
 obtain⟨Y,x⟩:=id X
 have sz:sizeLine=16777216:=aaC
 have GH:(D.row st f).length<=1000:=aag (I.Dc st f) SY
 refine⟨_,(de (gY (KO bx (pv 0) O.g7 O.kS j3 hr (b_ (pv 1) eV)))
   (de (gY (KO bx (pv 0) O.g7 O.qa uD hr (b_ (pv 2) (b_ (jq (b_ (pv 3) eV)) eV))))
   (de (nA 5 l9 (KO bx (pv 0) O.g7 O.rm vg hr (b_ (pv 1) (b_ (pv 3) eV))))
   (de (iw (sj (vN (pv 5) O.jZ O.kl.t qQ (hr.mono (by decide)) O.kl.b .nil pe) (λ_=>rfl)) (d_ (lZ bx O.Bf (by rfl) (ow (iC jC (iC (rH (pv 3)) (iC jC rG)))))) gQ)
   (de (iw (jo (Ca 3 (by exact Q1 hr)) (C6 qZ (e_ k7).names [6] rfl (ib (fS (pv 5) rfl)) rfl (by decide+kernel) (λ_ _ _ _=>(iI (i:=6) l9.nd rfl (Or.inl rfl))) (λ_ _ _ _=>yY) (λ_ _ _ _=>EB (fS (pv 6) rfl))) (pv 4) (jS _)) (d_ (lZ bx O.K0 (by rfl) (ow (iC jC (iC (rH (pv 3)) (iC jC rG)))))) gQ)
   (d_ (gY (HL (pv 0) O.g7 O.yt BN hr (b_ (pv 1) (b_ (sy O.p9 uE hr (b_ (pv 2) (b_ (pv 3) (b_ (fS (pv 5) rfl) (b_ (pv 4) eV))))) eV)))))))))),?_⟩
 refine Uh ?_;intro _ _ _ _ _
 refine⟨_,rfl,d,Y.dx,_,rfl,x.hd,qk,_,rfl,d,D,W,st,rfl,X,Ex,λhs=>?_,λhs=>q1 hs⟩
 refine⟨_,rfl,d,Y.dx,_,rfl,x.hd,zE,_,rfl,_,rfl,L2.lU,λl hl=>?_⟩
 have s1:fG H (upd H l (.lst [V.str f])):=(fG.refl H).new hl
 refine⟨d,l,D,W,y,[f],rfl,X.same s1,a_,by show 1<=1000;decide,λz hz=>?_,λh H' s'=>q2 hs (λg=>h (qG.mpr g)) H' (s1.trans s'),λh hn H' s'=>q3 hs (qG.mp h).1 (qG.mp h).2 hn H' (s1.trans s'),λh hn H2 s2=>?_⟩
 ·rcases RT.mp hz with z|z
  ·rw[z];exact YE
  ·rw[Oy.mp z];exact Pb
 obtain⟨gy,gf⟩:=qG.mp h
 have Mu:=s1.trans s2
 have X2:=X.same Mu
 refine⟨_,rfl,d,Y.dx,_,rfl,Mu _ _ x.hd,Bt,_,rfl,_,rfl,d,D,W,st,f,rfl,X2,Ex,sm,I,λh=>absurd hs h,λ_ p H3 s3 BR sg=>?_⟩
 obtain⟨px,ah,ln,g1,g2,⟨as,g3,g4⟩⟩:=id sg
 have YF:=Mu.trans s3
 have hlen:=aaj g4
 refine⟨_,rfl,p,px,_,rfl,g1,K_ ah ln,p,_,_,rfl,sg,Lf I st f,aag GH (by decide),λr H4 vs s4 tJ EF GU=>?_⟩
 have JM:=YF.trans s4
 have OW:=aaj GU
 by_cases hq:D.pL st f=[]
 case neg=>
  have S3:vs≠[]:=λz=>hq (by
   have e:(ju (Ah (fA (D.jx st) f)) (D.row st f)).length=0:=by rw[OW,z];rfl
   exact aao.mp e)
  refine⟨true,.inl ⟨_,gP.of EF,by simpa using S3⟩,nv ?_⟩
  exact⟨_,rfl,by decide+kernel,⟨_,rfl,_,rfl,Pb.1,_,rfl,Pb.1,⟨_,rfl,by decide+kernel,λ_=>q4 hs gy gf hn hq _ JM⟩⟩⟩
 have S3:vs=[]:=by
  have e:(ju (Ah (fA (D.jx st) f)) (D.row st f)).length=0:=by rw[show ju (Ah (fA (D.jx st) f)) (D.row st f)=[] from hq];rfl
  rw[OW] at e
  exact aao.mp e
 refine⟨false,.inl ⟨_,gP.of EF,by rw[S3];rfl⟩,lY ?_⟩
 have Vk:=s4 _ _ g1
 have S4:=s4 _ _ g3
 let Jv:=λ(i:Nat) (ys:List V) (Z:St) (H5:Hp)=>∃(v6:Option V),Z=[rr d,rs st,rs y,rs f,rr t,rr p,v6]/\H5=H4/\ys=fZ (((D.row st f).take i).map (·.tx))
 refine⟨_,rfl,p,A.fY,px,_,_,rfl,Vk,O.jZ,O.g6,lV ah ln,ln,rfl,⟨_,gP.of S4⟩,kZ (K:=K) (a:=ln) (xs:=as.map V.ref) (by rw[Ou];omega) Jv
  ⟨none,rfl,rfl,rfl⟩ (by rintro _ _ _ _ _ ⟨_,_,e,e2⟩;rw[e,e2];exact⟨gP.of S4,by rw[Ou,Ou,aaE];omega⟩) ?_ ?_⟩
 ·rintro i v ys Z H5 hx ⟨v6,rfl,rfl,rfl⟩
  obtain⟨b,hb,rfl⟩:=js hx
  obtain⟨l2,IH,dx,vn,vu,vl,k1,k2,k3,k4⟩:=g8 g4 hb
  refine⟨_,rfl,b,A.fT,dx,_,_,rfl,s4 _ _ k1,O.ij,O.jr,Bg,_,rfl,rfl,?_⟩
  rw[take_snoc IH,aai,iD]
  rfl
 ·rintro ys Z H5 ⟨v6,rfl,rfl,rfl⟩ o Qj
  rw[Ou,hlen,aaq]
  have s5:=JM.new (o:=.lst (fZ ((D.row st f).map (·.tx)))) Qj
  have S5:fG H5 (upd H5 o (.lst (fZ ((D.row st f).map (·.tx))))):=(fG.refl H5).new Qj
  refine⟨_,rfl,_,⟨o,t,rfl,rfl⟩,zI (gP.of a_) (gP.of (s5 _ _ ht)),_,rfl,?_⟩
  by_cases he:(D.row st f).map (·.tx)=texts
  ·rw[Ug he]
   refine nv ?_
   exact⟨_,rfl,by decide+kernel,⟨_,rfl,_,rfl,Pb.1,_,rfl,Pb.1,⟨_,rfl,by decide+kernel,λ_=>q5 hs gy gf hn hq he _ s5⟩⟩⟩
  ·rw[aaa he]
   refine lY ?_
   have X5:=X.same s5
   refine⟨_,rfl,d,Y.dx,_,rfl,s5 _ _ x.hd,Im,_,rfl,_,rfl,_,rfl,_,rfl,p,A.fY,px,_,_,rfl,S5 _ _ Vk,O.jZ,O.g6,lV ah ln,_,rfl,y,f,ln,t,D.row st f,texts,rfl,⟨as,S5 _ _ S4,Paired.j5 g4 λ_ _ z=>(z.same s4).same S5⟩,s5 _ _ ht,GH,Mm,λpa H6 s6 hpa0 S6=>?_⟩
   have Vl:=s5.trans s6
   obtain⟨YG,YH⟩:=tq (x:=y) (f:=f) (row:=D.row st f) (texts:=texts)
   refine⟨d,pa,D,W,st,_,rfl,X.same Vl,I,sm.many,hs,S6,hn,aag YG (aag Mm (by decide)),aag YH (aag GH (by decide)),tm I hs texts,λH7 X7 s7=>?_⟩
   exact q6 hs gy gf hn hq he H7 X7 λb o e n=>s7 b o (Vl _ _ e) n
def cellAt(ns:List Int)(k:Int):Int:=(ns[k.toNat]?).getD 0
def zJ(i:Int):Str:=⟨#[(kD.cps[(i%36).toNat]?).getD 0]⟩
noncomputable def jH(cell k:Int):Nat->Str
 | 0=>Str.ofString ""
 | j+1=>jH cell k j++(if(j:Int)=cell/12%(1+cell%12) then zJ (k+cell/144) else zJ (cell/144+5*(j:Int)+cell/5184%2*k*7))
noncomputable def nameOf(cell k:Int):Str:=jH cell k (1+cell%12).toNat
theorem zK:kD.length=36:=by decide+kernel
theorem Gd:kD.cps.size=36:=zK
theorem zL(a b:Str):(a++b).cps.toList=a.cps.toList++b.cps.toList:=Array.toList_append
theorem Dl(a b:Str):(a++b).length=a.length+b.length:=Array.size_append
theorem vB(i:Int):∃c,DK kD.cps.toList (i%36)=some c/\zJ i=⟨#[c]⟩/\c∈kD.cps.toList:=by
 have b:=mod_lt i 36 (by decide)
 obtain⟨c,e,ev⟩:=AL (xs:=kD.cps.toList) b.1 (by rw[aau,Gd];exact b.2)
 rw[aaA] at ev
 exact⟨c,e,by unfold zJ;rw[ev];rfl,Um (i:=(i%36).toNat) (by rw[aaA];exact ev)⟩
theorem vC(cell k:Int):∀j,(jH cell k j).length=j/\∀c∈(jH cell k j).cps.toList,c∈kD.cps.toList
 | 0=>⟨by unfold jH;decide+kernel,λc hc=>by
   have:(jH cell k 0).cps.toList=[]:=by unfold jH;decide+kernel
   rw[this] at hc;cases hc⟩
 | j+1=>by
  have ⟨h1,h2⟩:=vC cell k j
  unfold jH
  obtain⟨c1,_,e1,m1⟩:=vB (k+cell/144)
  obtain⟨c2,_,e2,m2⟩:=vB (cell/144+5*(j:Int)+cell/5184%2*k*7)
  split
  ·rw[e1,Dl,zL]
   refine⟨by rw[h1];rfl,λc hc=>?_⟩
   rcases Ue.mp hc with hc|hc
   ·exact h2 c hc
   ·rw[Oy.mp hc];exact m1
  ·rw[e2,Dl,zL]
   refine⟨by rw[h1];rfl,λc hc=>?_⟩
   rcases Ue.mp hc with hc|hc
   ·exact h2 c hc
   ·rw[Oy.mp hc];exact m2
theorem kW(cell k:Int):Good (nameOf cell k):=by
 obtain⟨h1,h2⟩:=vC cell k (1+cell%12).toNat
 have b:=mod_lt cell 12 (by decide)
 exact⟨by unfold nameOf;rw[h1];omega,by unfold nameOf;rw[h1];omega,h2⟩
theorem Iu{x:Str}(h:x.length<=1000)(hc:∀c∈x.cps.toList,c<1114112):um x:=by
 refine⟨?_,h⟩
 have z:=PySem.StrLaws.reprText_len x λc yF=>Nat.lt_trans (hc c yF) (by decide)
 omega
theorem Ge:∀c∈kD.cps.toList,c<1114112:=by decide+kernel
theorem Good.wW{x:Str}(g:Good x):um x:=Iu (by have:=g.2.1;omega) λc hc=>Ge c (g.2.2 c hc)
def Dm(i:Int):Nat:=(kD.cps[(i%36).toNat]?).getD 0
theorem Ek{i j:Int}(h:Dm i=Dm j):i%36=j%36:=by
 have key:∀a<36,∀b<36,(kD.cps[a]?).getD 0=(kD.cps[b]?).getD 0->a=b:=by decide+kernel
 have b1:=mod_lt i 36 (by decide)
 have b2:=mod_lt j 36 (by decide)
 have:=key (i%36).toNat (by omega) (j%36).toNat (by omega) h
 omega
theorem zM(cell k:Int):∀n j,j<n->(jH cell k n).cps.toList[j]?=some (if(j:Int)=cell/12%(1+cell%12) then Dm (k+cell/144) else Dm (cell/144+5*(j:Int)+cell/5184%2*k*7))
 | 0,j,h=>by omega
 | n+1,j,h=>by
  have hl:(jH cell k n).cps.toList.length=n:=by rw[aau];exact(vC cell k n).1
  rw[jH,zL]
  by_cases e:j=n
  ·subst e
   rw[abh (by omega),hl,Nat.sub_self]
   split<;>rfl
  ·rw[abH (by omega)]
   exact zM cell k n j (by omega)
theorem jW{c i j:Int}(h0:0<=i)(h1:i<36)(h2:0<=j)(h3:j<36)(h:nameOf c i=nameOf c j):i=j:=by
 have b:=mod_lt c 12 (by decide)
 have b2:=mod_lt (c/12) (1+c%12) (by omega)
 have e1:=zM c i (1+c%12).toNat (c/12%(1+c%12)).toNat (by omega)
 have e2:=zM c j (1+c%12).toNat (c/12%(1+c%12)).toNat (by omega)
 have h:jH c i (1+c%12).toNat=jH c j (1+c%12).toNat:=h
 rw[h] at e1
 rw[e1] at e2
 rw[aah (by omega),aah (by omega)] at e2
 have:=Ek (aaf e2)
 omega
def Lh(K:Qqy):Sp:=λvs H Q _=>∃(a:Addr)(ns:List Int)(k:Int),vs=[.ref a,.int k]/\gP K H a (ns.map V.int)/\0<=k/\Q (.int (cellAt ns k)) H
theorem Iv(T:Txt mg)(O:Ok K mg A):gS P w K mg base lR 1 A.pU A.pV ["script","k"] (Lh K):=by
 refine O.jO.f.qW va λjm A outer s H vs Q E hr h=>?_
 obtain⟨a,ns,k,rfl,ha,h0,q⟩:=h
 refine⟨_,(de (iw (jo MN (pv 1) (hU gR (by rfl) T.q0 aaS (b_ (pv 0) eV)) (jS _)) (d_ (f_ (G8 (pv 0) (pv 1)))) gQ)
   (d_ (f_ fJ))),?_⟩
 refine Fc ?_;intro _
 refine⟨_,rfl,_,rfl,a,_,rfl,.inl ha,_,_,rfl,rfl,_,rfl,?_⟩
 refine tQ (λhc=>?_) (λhc=>?_)
 ·have hc:k<((ns.map V.int).length:Int):=aaz hc
  obtain⟨v,e,ev⟩:=AL h0 hc
  rw[W3] at ev
  cases en:ns[k.toNat]? with
  | none=>rw[en] at ev;cases ev
  | some z=>
   rw[en] at ev
   cases ev
   unfold cellAt at q
   rw[en] at q
   exact⟨_,rfl,_,rfl,a,_,_,_,rfl,rfl,ha,e,q⟩
 ·have hc:¬k<((ns.map V.int).length:Int):=by simpa using hc
  unfold cellAt at q
  rw[Ou] at hc
  rw[ab7 (by omega)] at q
  exact q
def Li:Sp:=λvs H Q _=>∃(c k:Int),vs=[.int c,.int k]/\Q (.str (nameOf c k)) H
theorem Iw(T:Txt mg)(O:Ok K mg A):gS P w K mg base lR 1 A.uY A.uZ ["cell","k"] Li:=by
 refine O.qB.f.qW iJ λjm A outer s H vs Q E hr h=>?_
 obtain⟨c,k,rfl,q⟩:=h
 refine⟨_,(de (nA 2 iJ jC)
   (de (nA 3 iJ (gU iS fJ (gU mS (pv 0) fJ)))
   (de (nA 4 iJ (gU yO (pv 0) fJ))
   (de (nA 5 iJ (gU BW (gU BW (gU mS (gU yO (pv 0) fJ) fJ) (pv 1)) fJ))
   (de (nA 6 iJ jC)
   (de (ip aat rfl (nq rfl T.qA (b_ (pv 3) eV)) (vv 7 iJ) (d_ (iw (jo uF (pv 7) (gU mS (gU yO (pv 0) fJ) (pv 3)) (jS _)) (d_ (nA 6 iJ (gU vM (pv 6) (k_ EW (pv 2) (gU mS (gU iS (pv 1) (pv 4)) fJ) (λ_ _=>rfl))))) (d_ (nA 6 iJ (gU vM (pv 6) (k_ EW (pv 2) (gU mS (gU iS (gU iS (pv 4) (gU BW fJ (pv 7))) (pv 5)) fJ) (λ_ _=>rfl))))))))
   (d_ (f_ (pv 6))))))))),?_⟩
 refine WW ?_;intro _ _ _ _ _ _
 have b:=mod_lt c 12 (by decide)
 have b2:=mod_lt (c/5184) 2 (by decide)
 refine⟨_,rfl,_,_,rfl,rfl,(by show(0:Int)<12;decide),_,_,rfl,rfl,?_⟩
 refine⟨_,rfl,_,_,rfl,rfl,⟨by decide,by decide⟩,?_⟩
 refine⟨_,rfl,_,_,rfl,rfl,⟨by decide,by decide⟩,_,_,rfl,rfl,(by show(0:Int)<2;decide),_,rfl,_,_,rfl,rfl,.inl ⟨by omega,by omega⟩,_,_,rfl,rfl,.inr ⟨by decide,by decide⟩,?_⟩
 refine⟨_,rfl,_,rfl,by omega,by omega,?_⟩
 let Jv:=λ(j:Nat) (Z:St) (H2:Hp)=>∃v,Z=[ri c,ri k,rs kD,ri (1+c%12),ri (c/144),ri (c/5184%2*k*7),rs (jH c k j),v]/\H2=H
 refine lT Jv ⟨none,rfl,rfl⟩ ?_ ?_
 ·rintro j Z H2 hj ⟨v,rfl,rfl⟩
  have hlen:=(vC c k j).1
  have hz:(jH c k j).length+1<=sizeLine:=aag (m:=13) (by omega) (by decide)
  refine⟨_,rfl,_,rfl,_,_,rfl,rfl,⟨by decide,by decide⟩,_,rfl,_,_,rfl,rfl,(by show(0:Int)<1+c%12;omega),rfl,_,rfl,?_⟩
  refine tQ (λhc=>?_) (λhc=>?_)
  ·have hc:(0:Int)+(j:Int)=c/12%(1+c%12):=V.int.inj (aaz hc)
   obtain⟨cp,e,es,_⟩:=vB (k+c/144)
   refine⟨_,rfl,_,rfl,_,rfl,_,rfl,_,_,rfl,rfl,_,_,rfl,rfl,(by show(0:Int)<36;decide),_,_,cp,rfl,rfl,by rw[zK];decide,e,_,_,rfl,rfl,hz,some (.int (0+(j:Int))),?_,rfl⟩
   rw[jH,aah (by omega),es]
   rfl
  ·have hc:¬(0:Int)+(j:Int)=c/12%(1+c%12):=λz=>hc (Ug (aaT V.int z))
   obtain⟨cp,e,es,_⟩:=vB (c/144+5*(j:Int)+c/5184%2*k*7)
   refine⟨_,rfl,_,rfl,_,rfl,_,rfl,_,_,rfl,rfl,.inl ⟨by decide,by decide⟩,_,_,rfl,rfl,_,rfl,_,_,rfl,rfl,_,_,rfl,rfl,(by show(0:Int)<36;decide),_,_,cp,rfl,rfl,by rw[zK];decide,by rw[Int.zero_add];exact e,_,_,rfl,rfl,hz,some (.int (0+(j:Int))),?_,rfl⟩
   rw[jH,aab (by omega),es]
   rfl
 ·rintro Z H2 ⟨v,rfl,rfl⟩
  refine⟨_,rfl,?_⟩
  have:(1+c%12-0).toNat=(1+c%12).toNat:=by rw[Int.sub_zero]
  exact q
structure Sz(k:Nat)(D:Dk):Prop where
 many:D.made.length<=k
 gW:(D.made.flatMap (·.gW)).length<=3*k
 iU:(D.made.flatMap (·.iU)).length<=3*(k*k)
theorem Dq(k:Nat):(k+1)*(k+1)=k*k+2*k+1:=by simp only [Nat.mul_add,Nat.add_mul];omega
theorem Sz.up{k:Nat}{D:Dk}(z:Sz k D):Sz (k+1) D:=⟨Nat.le_succ_of_le z.many,by have:=z.gW;omega,by have:=z.iU;have:=Dq k;omega⟩
theorem Sz.keep{k:Nat}{D:Dk}(z:Sz k D)(s:Str){p:Pt}(hp:p.gW.length<=3)(hc:p.iU.length<=3*k+3):Sz (k+1) (D.keep s p):=by
 refine⟨?_,?_,?_⟩
 ·show(D.made++[p]).length<=_
  rw[RX];have:=z.many;show _+1<=_;omega
 ·show((D.made++[p]).flatMap (·.gW)).length<=_
  rw[aaR,RX,aav,abq,aaB];have:=z.gW;omega
 ·show((D.made++[p]).flatMap (·.iU)).length<=_
  rw[aaR,RX,aav,abq,aaB];have:=z.iU;have:=Dq k;omega
theorem Sz.small{k:Nat}{D:Dk}(z:Sz k D)(h:k<=36):Small D.made:=by
 have h2:k*k<=36*36:=Nat.mul_le_mul h h
 exact⟨aag z.many (by omega),aag z.gW (by omega),aag z.iU (by omega)⟩
theorem Sz.row{k:Nat}{D:Dk}(z:Sz k D)(I:Inv D)(s f:Str):(D.row s f).length<=3*k:=aag (I.Dc s f) z.gW
theorem wX(D:Dk)(s:Str)(p:Pt):(D.keep s p).names=D.names++[p.nm]:=by
 show(D.made++[p]).map (·.nm)=_
 rw[aai];rfl
theorem vD{K:Qqy}{H H':Hp}{a:Addr}{xs:List V}(h:gP K H a xs)(s:fG H H'):gP K H' a xs:=by
 rcases h with(h|⟨u,h⟩)|h
 ·exact .inl (.inl (s _ _ h))
 ·exact .inl (.inr ⟨u,s _ _ h⟩)
 ·exact .inr h
abbrev Lj(ns:List Int)(i:Int):Int:=cellAt ns i%20736
noncomputable def L7(ns:List Int):List Str:=[nameOf (Lj ns 0) 0,nameOf (Lj ns 0) 1,nameOf (Lj ns 0) 2]
noncomputable def G7(ns:List Int):List Str:=[nameOf (Lj ns 1) 0,nameOf (Lj ns 1) 1]
end
end PK
namespace L2
open PySem PySem.Spec PyProof.Rows
theorem wY{Z:Type}:∀{l:List Z} {i:Nat} (h:i<l.length),(l[i]::l.eraseIdx i).Perm l
 | x::l,0,h=>.refl _
 | x::l,i+1,h=>(List.Perm.swap x _ _).trans (List.Perm.cons x (wY (l:=l) (i:=i) (Nat.lt_of_succ_lt_succ h)))
theorem Dr{Z:Type}(f:Nat->Nat):∀(n k:Nat)(l:List Z)(out:Array Z),l.length=n->(pickOrder.go f n k l out).toList.Perm (out.toList++l)
 | 0,k,l,out,h=>by
  have:l=[]:=aao.mp h
  subst this
  unfold pickOrder.go
  rw[aaB]
 | n+1,k,l,out,h=>by
  have hi:f k%l.length<l.length:=Nat.mod_lt _ (by omega)
  unfold pickOrder.go
  rw[QU hi]
  dsimp only
  refine(Dr f n (k+1) _ _ (by rw[List.length_eraseIdx_of_lt hi,h];rfl)).trans ?_
  rw[Array.toList_push,aaY]
  exact List.Perm.append_left _ (wY hi)
theorem Gf{Z:Type}(f:Nat->Nat)(xs:Array Z):(pickOrder f xs).toList.Perm xs.toList:=by
 have:=Dr f xs.size 0 xs.toList #[] (by simp)
 unfold pickOrder
 simpa using this
section
variable{prog:Program}{w:World}{A:Around}{E:Qqq}
theorem CF{s:Shared}{src:Source}{n:Nat}{Q:Nat->Shared->Prop}(hn:n≠0)(h:∀i d,i<n->Q i {s with drawn:=d}):wpAny (model prog w) A (choose src n) Q E s:=λΓ p _=>by
 unfold choose
 rw[Sem.wp_choose]
 exact⟨hn,h _ _ (Nat.mod_lt _ (Nat.pos_of_ne_zero hn))⟩
theorem BA{Z:Type}:∀(n:Nat)(xs:List Z){s:Shared}{Q:List Z->Shared->Prop},xs.length=n->(∀ys d,ys.Perm xs->Q ys {s with drawn:=d})->wpAny (model prog w) A (drawOrder n xs) Q E s
 | 0,xs,s,Q,h,hQ=>by
  have:xs=[]:=aao.mp h
  subst this
  unfold drawOrder
  exact Oz (hQ [] s.drawn .nil)
 | n+1,[],s,Q,h,hQ=>by cases h
 | n+1,x::xs,s,Q,h,hQ=>by
  unfold drawOrder
  refine M9 (CF (by simp) λi d hi=>?_)
  rw[QU hi]
  refine M9 (BA n _ (by rw[List.length_eraseIdx_of_lt hi,h];rfl) λys d' hp=>?_)
  exact Oz (hQ _ d' ((List.Perm.cons _ hp).trans (wY hi)))
end
abbrev Mf(w:World)(e:Int×Value):Prop:=∃y t,e=(hashStr w y,.str y t)
def jU(w:World)(h:Heap)(a:Addr)(xs:List Str)(led:Bool):Prop:=
 ∃o es ep t,h.get? a=some o/\o.ExactSet/\o.data=.set es ep t/\(∀e∈es.toList,Mf w e)/\(es.toList.map λe=>strOf e.2).Perm xs/\t.fits es.size=true/\(es.size≠0->t.plain=false)/\t.led=led
theorem jU.at{w:World}{h h':Heap}{a:Addr}{xs:List Str}{led:Bool}(x:jU w h a xs led)(k:∀o,h.get? a=some o->h'.get? a=some o):jU w h' a xs led:=by
 obtain⟨o,es,ep,t,ho,r⟩:=x
 exact⟨o,es,ep,t,k o ho,r⟩
theorem CG(t:SetTable)(es:Array (Int×Value))(h:Int)(x:Value):(layNew t es h x).2.1.led=t.led:=by
 unfold layNew
 split
 ·dsimp only
  unfold SetTable.orStandIn
  split<;>rfl
 ·rfl
theorem CH{t t':SetTable}{hs:Array Int}{n:Nat}{o:Array Nat}(h:t.relaid hs n=some (t',o)):t'.led=t.led/\t'.plain=t.plain:=by
 unfold SetTable.relaid SetTable.laid at h
 cases hc:SetTable.layClean (SetTable.sizeAbove n-1) hs with
 | none=>rw[hc] at h;cases h
 | some v=>rw[hc] at h;cases h;exact⟨rfl,rfl⟩
theorem zN(t:SetTable)(es:Array (Int×Value))(n:Nat):(relayAll t es n).2.1.led=t.led/\(t.plain=false->(relayAll t es n).2.1.plain=false):=by
 unfold relayAll
 split
 ·rename_i t' o h
  have:=CH h
  dsimp only
  split
  ·exact⟨this.1,λe=>this.2.trans e⟩
  ·exact⟨rfl,λ_=>rfl⟩
 ·exact⟨rfl,λ_=>rfl⟩
def lQ(xs:List Str)(x:Str):List Str:=if x∈xs then xs else xs++[x]
section
variable{prog:Program}{w:World}{A:Around}{E:Qqq}{s:Shared}{a:Addr}{led:Bool}
theorem Lk{l:List (Int×Value)}(h:∀e∈l,Mf w e):ElemsOf (PySem.strKind prog w) l:=λe he=>by
 obtain⟨y,t,rfl⟩:=h e he
 exact⟨⟨y,by simp[PySem.strKind,Value.isStrOf],rfl⟩,rfl⟩
theorem jU.put{h:Heap}{o:Obj}{es es':Array (Int×Value)}{ep:Nat}{t t':SetTable}{xs:List Str}(ho:h.get? a=some o)(hex:o.ExactSet)(hd:o.data=.set es ep t)(EG:∀e∈es'.toList,Mf w e)
  (hp:(es'.toList.map λe=>strOf e.2).Perm xs) (hf:t'.fits es'.size=true) (n_:t'.plain=false) (hl:t'.led=led) :
  (h.update a (Obj.putSet es' t')).get? a=some {o with data:=.set es' (ep+1) t'}/\jU w (h.update a (Obj.putSet es' t')) a xs led:=by
 have hg:(h.update a (Obj.putSet es' t')).get? a=some {o with data:=.set es' (ep+1) t'}:=by
  have:=aaI (Obj.putSet es' t') ho (by rw[putSet_of es' t' hd];rfl)
  rwa [putSet_of es' t' hd] at this
 exact⟨hg,_,es',ep+1,t',hg,hex,rfl,EG,hp,hf,λ_=>n_,hl⟩
theorem add_str{x:Str}{tk:Tok}{xs:List Str}{Q:Bool->Shared->Prop}(hS:jU w s.heap a xs led)(hroom:xs.length+1<scanBound)
  (h:∀h' b,Heap.SameBut a s.heap h'->jU w h' a (lQ xs x) led->Q b {s with heap:=h'}):wpAny (model prog w) A (setAddHashed a (.str x tk) (hashStr w x)) Q E s:=by
 obtain⟨o,es,ep,t,ho,hex,hd,EG,hp,hf,n_,hl⟩:=id hS
 have hlen:es.size=xs.length:=by rw[<-hp.length_eq,Ou,aau]
 have hE:ElemsOf (PySem.strKind prog w) es.toList:=Lk EG
 have hk:(PySem.strKind prog w).is x (.str x tk)=true:=by simp[PySem.strKind,Value.isStrOf]
 have gw:∀(b:Bool){s1:Shared}{Q':Unit->Shared->Prop},Q' () s1->wpAny (model prog w) A (match b with|true=>rule "set.scan.the-table-gave-way"|false=>pure ()) Q' E s1:=λb _ _ q=>by
  cases b
  ·exact Oz q
  ·exact wpAny_rule q
 unfold setAddHashed setAddHashedIn
 refine aa0 (M9 (wpAny_setState_of ho hd hf ?_))
 dsimp only
 rw[byScan_of (knd:=PySem.strKind prog w) rfl (by omega) hE,aah rfl]
 unfold setAddByScan
 refine M9 (M9 (wpAny_rule (M9 (wpAny_setScan_of (knd:=PySem.strKind prog w) hk ho hd hf hE ?_))))
 cases hr:List.findIdx? (λe=>(PySem.strKind prog w).is x e.2) es.toList with
 | some j=>
  dsimp only
  obtain⟨hj,YJ,_⟩:=List.findIdx?_eq_some_iff_getElem.mp hr
  obtain⟨t',e'⟩:=Value.isStrOf_shape (x:=x) (v:=es.toList[j].2) YJ
  have hm:x∈xs:=hp.mem_iff.mp (aak.mpr ⟨_,List.getElem_mem hj,by rw[e'];rfl⟩)
  refine Oz (Oz (h s.heap _ (Heap.SameBut.refl a s.heap) ?_))
  unfold lQ
  rw[aah hm]
  exact hS
 | none=>
  dsimp only
  have hm:¬x∈xs:=λhx=>by
   obtain⟨e,he,q⟩:=aak.mp (hp.mem_iff.mpr hx)
   obtain⟨y,u,rfl⟩:=EG e he
   have q:y=x:=q
   have:=List.findIdx?_eq_none_iff.mp hr _ he
   simp[PySem.strKind,Value.isStrOf,q] at this
  have lp:=layNew_perm t es (hashStr w x) (.str x tk)
  have lf:=layNew_fits t es (hashStr w x) (.str x tk)
  have ll:=CG t es (hashStr w x) (.str x tk)
  show wpAny _ _ (match layNew t es (hashStr w x) (.str x tk) with|(es,t,wasDummy,gave)=>_) _ _ _
  generalize layNew t es (hashStr w x) (.str x tk)=L at lp lf ll ⊢
  obtain⟨xZ,t1,wd,gv⟩:=L
  dsimp only at lp lf ll ⊢
  rw[Array.toList_push] at lp
  have Pc:∀e∈xZ.toList,Mf w e:=λe he=>by
   rcases Ue.mp (lp.mem_iff.mp he) with z|z
   ·exact EG e z
   ·rw[Oy.mp z];exact⟨x,tk,rfl⟩
  have xW:(xZ.toList.map λe=>strOf e.2).Perm (lQ xs x):=by
   refine(lp.map _).trans ?_
   unfold lQ
   rw[aab hm,aai]
   exact List.Perm.append_right _ hp
  have hsz1:xZ.size=xs.length+1:=by rw[<-aau,lp.length_eq,RX,aau,hlen];rfl
  refine M9 (gw _ ?_)
  have key:∀t2:SetTable,t2.fits xZ.size=true->t2.plain=false->t2.led=led->wpAny (model prog w) A (do
    storeSet a xZ t2
    if(
      !wd&&t2.tooFull)=true then do
      (match (relayAll t2 xZ (SetTable.grown xZ.size)).2.2 with|true=>rule "set.scan.the-table-gave-way"|false=>pure ())
      storeSet a (relayAll t2 xZ (SetTable.grown xZ.size)).1 (relayAll t2 xZ (SetTable.grown xZ.size)).2.1
      pure (some true)
     else pure (some true)) (λr s'=>wpAny (model prog w) A (match r with|some added=>pure added|none=>setAddHashedIn a (.str x tk) (hashStr w x) 99999) Q E s') E s:=λt2 f2 p2 l2=>by
   refine M9 (wpAny_storeSet_of ho hd ?_ (fits_of_scanBound (by omega)))
   obtain⟨g1,S1⟩:=jU.put ho hex hd Pc xW f2 p2 l2
   have Vm:=aaO s.heap a (Obj.putSet xZ t2)
   split
   ·have rp:=relayAll_perm t2 xZ (SetTable.grown xZ.size)
    have rf:=relayAll_fits t2 xZ (SetTable.grown xZ.size)
    have rl:=zN t2 xZ (SetTable.grown xZ.size)
    generalize relayAll t2 xZ (SetTable.grown xZ.size)=R at rp rf rl ⊢
    obtain⟨Vn,t3,g2⟩:=R
    dsimp only at rp rf rl ⊢
    have hsz2:Vn.size=xZ.size:=by rw[<-aau,rp.length_eq,aau]
    refine M9 (gw _ (M9 (wpAny_storeSet_of g1 rfl ?_ (fits_of_scanBound (by omega)))))
    obtain⟨_,S2⟩:=jU.put (w:=w) (led:=led) (es':=Vn) (t':=t3) g1 hex rfl (λe he=>Pc e (rp.mem_iff.mp he)) ((rp.map _).trans xW) rf (rl.2 p2) (rl.1.trans l2)
    exact Oz (Oz (h _ _ (Vm.trans (aaO _ a _)) S2))
   ·exact Oz (Oz (h _ _ Vm S1))
  split
  ·refine M9 ?_
   rw[hashByValue_scannable 8 rfl]
   refine Oz ?_
   rw[show plainKind (.str x tk)=false from rfl,aab (by decide)]
   exact key _ (SetTable.fits_plain_off lf) rfl (ll.trans hl)
  ·rename_i S8
   refine M9 (Oz ?_)
   rw[aah rfl]
   exact key _ lf (by simpa using S8) (ll.trans hl)
end
theorem El(xs:List Str)(x:Str):(lQ xs x).length<=xs.length+1:=by
 unfold lQ
 split
 ·exact abS _
 ·rw[RX];exact Q2 _
theorem Em{xs:List Str}{x y:Str}:y∈lQ xs x↔y∈xs\/y=x:=by
 unfold lQ
 split
 ·rename_i h
  exact⟨.inl,λz=>z.elim id λe=>e▸h⟩
 ·rw[Ue,Oy]
theorem Gg{xs:List Str}{x:Str}(h:xs.Nodup):(lQ xs x).Nodup:=by
 unfold lQ
 split
 ·exact h
 ·rename_i hx
  exact aaV.mpr ⟨h,by simp,λa ha b hb e=>hx (by rw[<-Oy.mp hb,<-e];exact ha)⟩
abbrev wZ(ss:List Str)(i:Nat):List Str:=(ss.take i).foldl lQ []
theorem En{ss:List Str}{i:Nat}{x:Str}(h:ss[i]?=some x):wZ ss (i+1)=lQ (wZ ss i) x:=by
 unfold wZ
 rw[List.take_add_one,h,List.foldl_append]
 rfl
theorem Gh:∀(ss xs:List Str),(ss.foldl lQ xs).length<=xs.length+ss.length/\(∀y,y∈ss.foldl lQ xs↔y∈xs\/y∈ss)/\(xs.Nodup->(ss.foldl lQ xs).Nodup)
 | [],xs=>⟨Q2 _,λy=>by simp,id⟩
 | x::ss,xs=>by
  obtain⟨h1,h2,h3⟩:=Gh ss (lQ xs x)
  refine⟨?_,λy=>?_,λh=>h3 (Gg h)⟩
  ·rw[ab4,S7]
   have:=El xs x
   omega
  ·rw[ab4,h2,Em,RT,or_assoc]
theorem Gi(ss:List Str)(i:Nat):(wZ ss i).length<=i:=by
 have:=(Gh (ss.take i) []).1
 rw[aaE] at this
 simp only [List.length_nil] at this
 unfold wZ
 omega
section
variable{prog:Program}{w:World}{A:Around}{R:Result->Shared->Prop}{I:Addr}{fp wr:List Addr}{G:Array GenState->Array GenState->Prop}{n:Nat}{P:Nat->Value->Prop}{St:Nat->Shared->Prop}{led:Bool}
theorem BB(W:WalksS prog w A.in1 I fp wr G n P St)(S:Addr)(IT:S∉fp)(ss:List Str)(xX:∀i v,P i v->∃x t,v=.str x t/\ss[i]?=some x)(hb:n+1<scanBound) :
  ∀(k i:Nat)(s:Shared),n-i=k->i<=n->St i s->jU w s.heap S (wZ ss i) led->(∀s',Moved (S::wr) G s s'->jU w s'.heap S (wZ ss n) led->R (.ok (.ret .none)) s')->
   codeAny (model prog w) A (.builtin "set.update.loop" ⟨[.ref S,.ref I],[]⟩) R s
 | 0,i,s,hk,hi,st,hS,hR=>by
  have:i=n:=by omega
  subst this
  refine abP PyProof.Rows.F.entry_set_update_loop ?_
  rw[abt PyProof.Rows.F.plain_set_update_loop _]
  show wpAny _ A.in1 (pyNext (.ref I) >>= _) _ _ s
  refine M9 (W.done s _ _ st λs' hm=>Oz (hR s' (hm.mono λb hb=>Uk _ hb) (hS.at λo e=>hm.heap S o (λz=>IT (W.sub _ z)) e)))
 | k+1,i,s,hk,hi,st,hS,hR=>by
  refine abP PyProof.Rows.F.entry_set_update_loop ?_
  rw[abt PyProof.Rows.F.plain_set_update_loop _]
  show wpAny _ A.in1 (pyNext (.ref I) >>= _) _ _ s
  refine M9 (W.item i s _ _ (by omega) st λv s' hP uw hm=>?_)
  obtain⟨x,t,rfl,hx⟩:=xX i v hP
  have Hb:=hS.at (h':=s'.heap) λo e=>hm.heap S o (λz=>IT (W.sub _ z)) e
  show wpAny _ A.in1 (holding [Value.str x t] (setAdd S (.str x t)) >>= _) _ _ s'
  refine M9 (aa0 ?_)
  unfold setAdd
  refine aa0 (M9 ((PySem.strKind prog w).pyHash (k:=x) (by simp[PySem.strKind,Value.isStrOf]) ?_))
  refine add_str (s:={s' with toks:=s'.toks+1}) Hb (by have:=Gi ss i;omega) λh' b Jz Vo=>?_
  rw[<-En hx] at Vo
  refine Oz ⟨aca PyProof.Rows.F.plain_set_update_loop _,BB W S IT ss xX hb k (i+1) _ (by omega) (by omega) (W.frame _ s' _ _ uw (abS _) λb hb o e=>?_) Vo λCP S9 S_=>?_⟩
  ·rw[Jz.2 b (λz:b=S=>IT (z▸hb))];exact e
  ·refine hR CP (Moved.trans W.gtrans ((hm.mono λb hb=>Uk _ hb).then_heap (abS _) λb o hb e=>?_) S9) S_
   rw[Jz.2 b (λz:b=S=>hb (z▸aae))];exact e
end
section
variable{prog:Program}{w:World}{A:Around}{E:Qqq}{s:Shared}
noncomputable abbrev zO(led:Bool):Obj:={cls:=.type "set",dict:=none,data:=.set #[] 0 (.fresh 0 0 led)}
abbrev tw(w:World):Bool:=!(w.params.followText "set-order")
theorem Iy(a:Value){Qa:Qqq}(h:Qa (.ref s.heap.objs.size) {s with heap:=s.heap.push (zO (tw w))}) :
  codeAny (model prog w) A (.call (.builtin "set.__new__") ⟨[.type "set",a],[]⟩) (wants Qa E) s:=by
 refine codeAny_of_tree ?_
 show wpAny _ A.in1 (do checkBuiltinCall "set.__new__" ⟨[.type "set",a],[]⟩;again (.builtin "set.__new__" ⟨[.type "set",a],[]⟩)) _ _ s
 refine M9 (wpAny_of_eq (PySem.F.newCall_set_1 a) (Oz ⟨aca PySem.F.plain_set_new _,abP PySem.F.entry_set_new ?_⟩))
 rw[abt PySem.F.plain_set_new _]
 unfold Builtin.«set.__new__» Builtin.Frozenset.newClass
 have tI:=PySem.sub_set_self
 obtain⟨hp,g,d,tk,os⟩:=s
 dsimp only
 wp_walk
 refine wpAny_askSetting (Oz ?_)
 dsimp only
 simp only [newObj]
 exact M9 (wpAny_alloc (Oz (Oz h)))
theorem Eo{l:Addr}{items:Array Value}{ss:List Str}{Q:Qqq}(hh:A.handled=none)(hl:s.heap.IsList l items)(hi:StrsAre items.toList ss)(hb:items.size+1<scanBound)
  (h:∀(h':Heap)(tk:Nat),jU w h' s.heap.objs.size (wZ ss items.size) (tw w)->(∀b o,s.heap.get? b=some o->h'.get? b=some o)->Q (.ref s.heap.objs.size) {s with heap:=h',toks:=tk}) :
  wpAny (model prog w) A (call (.type "set") [.ref l]) Q E s:=by
 obtain⟨c,tl,hmro⟩:=PySem.F.called_set.mro
 have hmade:=PySem.F.called_set.made
 have tI:=PySem.F.called_set.sub
 refine wpAny_call (codeAny_of_tree ?_)
 show wpAny _ _ (callAny (.type "set") _) _ _ _
 refine Oz ⟨Code.quiet_builtin _ (by decide+kernel),abP PySem.F.entry_type_call ?_⟩
 rw[Around.under_plain (weight_type_call_type "set" [.ref l] []) rfl]
 have h1:=PySem.F.called_set.notType
 have h2:=PySem.F.called_set.canCreate
 have hct:=PySem.F.typeCall_set_1 (.ref l)
 repeat (any_goals (first|assumption|wp_step))
 refine abR (Iy (.ref l) (E:=E) (Qa:=λobj s1=>obj=.ref s.heap.objs.size/\s1={s with heap:=s.heap.push (zO (tw w))}) ⟨rfl,rfl⟩) λr s1 hr=>?_
 cases r with
 | error e=>exact hr
 | ok fl=>
  cases fl with
  | ret obj=>
   obtain⟨rfl,rfl⟩:=hr
   have hS:(s.heap.push (zO (tw w))).get? s.heap.objs.size=some (zO (tw w)):=WO _ rfl
   have hT:Shared.TypeIs {s with heap:=s.heap.push (zO (tw w))} (.ref s.heap.objs.size) "set":=⟨_,hS,rfl⟩
   have hli:=PySem.F.called_set.init.lookup
   have O3:=PySem.F.called_set.init.bind (.ref s.heap.objs.size)
   repeat (any_goals (first|assumption|wp_step))
   refine abR (codeAny_call_builtin (R:=wants (λr s2=>r=.none/\∃h' tk,s2={s with heap:=h',toks:=tk}/\jU w h' s.heap.objs.size (wZ ss items.size) (tw w)/\
     (∀b o,s.heap.get? b=some o->h'.get? b=some o)) E) PySem.F.called_set.init.plain PySem.F.entry_set_init (PySem.check_set_init_1 hT ?_)) λr2 s2 Ta=>?_
   ·obtain⟨ol,Vp,JF,nl,P4⟩:=hl
    obtain⟨ocls,Pd,odata,L0⟩:=ol
    simp only at JF P4
    subst JF;subst P4
    have Tc:(s.heap.push (zO (tw w))).get? l=some {cls:=.type "list",dict:=Pd,data:=.seq items nl,slots:=L0}:=QY _ Vp
    have hsls:=PySem.F.sub_list_set
    have hslf:=PySem.F.sub_list_frozenset
    have n9:(Value.type "list" ==Value.type "dict")=false:=by decide
    have Ml:(s.heap.push (zO (tw w))).IsList l items:=⟨_,Tc,rfl,nl,rfl⟩
    unfold Builtin.«set.__init__» noKeywords Builtin.Frozenset.updateFrom
    generalize YK:pyIter=PI
    wp_walk
    subst YK
    refine wpAny_pyIter_list Ml ?_
    refine M9 (wpAny_runValue ?_)
    have Vq:l<s.heap.objs.size:=aac Vp
    have hsz:(s.heap.push (zO (tw w))).objs.size=s.heap.objs.size+1:=abm _ _
    have IT:s.heap.objs.size∉[(s.heap.push (zO (tw w))).objs.size,l]:=by
     rw[hsz];simp only [RT,abY,or_false,not_or]
     exact⟨aar (abE _),abQ Vq⟩
    refine BB ((Walks.list (show A.in1.in1.in1.handled=none by simp[hh]) _ l (by rw[hsz];exact aar (ab9 Vq)) items).toS) s.heap.objs.size IT ss (λi v hv=>?_) hb (items.size-0) 0 _ (by omega) (aaD _)
     ⟨⟨_,WO _ rfl,rfl,rfl⟩,Ml.push _⟩ (led:=tw w) ?_ λs' hm Hb=>?_
    ·have hv:items.toList[i]?=some v:=by rw[aaA];exact hv
     have:=hi.strs
     obtain⟨x,t,rfl⟩:=hi.all v (Um hv)
     refine⟨x,t,rfl,?_⟩
     rw[<-this,W3,hv]
     rfl
    ·exact⟨_,#[],0,_,QY _ hS,⟨rfl,rfl,rfl⟩,rfl,λe he=>by simp at he,.nil,rfl,λz=>absurd rfl z,rfl⟩
    ·obtain⟨h',g',d',Td,NS⟩:=s'
     have eg:g'=s.gens:=hm.gens
     have ed:d'=s.drawn:=hm.drawn
     have eo:NS=s.os:=hm.os
     subst eg;subst ed;subst eo
     show wpAny _ _ _ _ _ _
     refine Oz ?_
     show wpAny _ _ (ret Value.none) _ _ _
     refine Oz ⟨rfl,h',Td,rfl,Hb,λb o e=>?_⟩
     have hb:=aac e
     exact hm.heap b o (by rw[hsz];simp only [RT,abY,or_false,not_or];exact⟨aar hb,aar (ab9 hb)⟩) (QY _ (QY _ e))
   ·cases r2 with
    | error e=>exact Ta
    | ok YL=>
     cases YL with
     | ret r=>
      obtain⟨rfl,h',tk,rfl,Hb,Pe⟩:=Ta
      repeat (any_goals (first|assumption|wp_step))
      exact h _ _ Hb Pe
     | _=>exact Ta.elim
  | _=>exact hr.elim
end
def Iz(h:Heap)(a:Addr)(es:Array (Int×Value))(ep:Nat)(t:SetTable):Prop:=∃o,h.get? a=some o/\o.ExactSet/\o.data=.set es ep t
def IA(h:Heap)(it:Addr)(vs:Array Value):Prop:=h.get? it=some {cls:=.type "set_iterator",dict:=none,data:=.fields vs,slots:=#[]}
def Pz(h:Heap)(r:Addr)(ds:List Nat):Prop:=∃o,h.get? r=some o/\o.data=.seq (ds.map λ(i:Nat)=>rawInt i).toArray 0
noncomputable def pB(w:World)(a:Addr)(es:Array (Int×Value))(ep:Nat)(ds:List Nat):List (Int×Value):=
 if w.params.followText "set-order"=true then(pickOrder (w.params.setOrder a ep) es).toList else if es.size<=1 then es.toList else ds.map λk=>es.toList.getD k (0,.none)
def Way(w:World)(h:Heap)(it a r:Addr)(es:Array (Int×Value))(ep:Nat)(t:SetTable)(ds:List Nat)(i:Nat):Prop:=
 Iz h a es ep t/\((w.params.followText "set-order"=true/\IA h it #[.int 0 0,.int i 0,.ref a,.int es.size 0,.int ep 0])\/
  (w.params.followText "set-order"=false/\es.size<=1/\t.led=true/\∃q:Nat,IA h it #[.int q 0,.int i 0,.ref a,.int es.size 0,.int ep 0]/\SetTable.below t.place q=i)\/
  (w.params.followText "set-order"=false/\¬es.size<=1/\Pz h r ds/\IA h it #[.ref r,.int i 0,.ref a,.int es.size 0,.int ep 0]))
theorem Ep{Z:Type}(d:Z){l:List Z}{ds:List Nat}(hp:ds.Perm (List.range l.length)):(ds.map λi=>l.getD i d).Perm l:=by
 have e:(List.range l.length).map (λi=>l.getD i d)=l:=by
  refine ab_ λk=>?_
  rw[W3]
  by_cases h:k<l.length
  ·rw[abV h,QU h]
   simp[List.getD,QU h]
  ·rw[ab7 (by rw[aa2];omega),ab7 (by omega)]
   rfl
 have:=hp.map (λi=>l.getD i d)
 rwa [e] at this
theorem qm{w:World}{a:Addr}{es:Array (Int×Value)}{ep:Nat}{ds:List Nat}(hp:ds.Perm (List.range es.size)):(pB w a es ep ds).Perm es.toList:=by
 unfold pB
 split
 ·exact Gf _ _
 ·split
  ·exact .refl _
  ·exact Ep _ (by rw[aau];exact hp)
theorem yC{p:Array Nat}{j:Nat}(h:p=#[j]):SetTable.below p 0=0/\SetTable.below p (j+1)=1:=by
 subst h
 constructor
 ·rfl
 ·unfold SetTable.below SetTable.below.go
  simp
  unfold SetTable.below.go
  rfl
section
variable{prog:Program}{w:World}{A:Around}{E:Qqq}{s:Shared}
theorem w5{it:Addr}{vs:Array Value}{Q:Option Value->Shared->Prop}(hh:A.handled=none)(hk:2<vs.size)(hi:IA s.heap it vs)(hQ:∀h',Heap.ExtBut it s.heap h'->Q none {s with heap:=h'}) :
  wpAny (model prog w) A.in1 (do setField (.ref it) 2 .none;let x <-newExc (.type "StopIteration") [];(raiseNew x:Sem PySem.Fin)) (λfin s'=>∃v,fin=Fin.done (Flow.ret v)/\wpAny (model prog w) A (pure (some v)) Q E s')
   (λe s'=>wpAny (model prog w) A (do let b <-isInstance e (.type "StopIteration");if b=true then pure none else throw e) Q E s') s:=by
 refine M9 (wpAny_setField hi rfl hk ?_)
 refine M9 ?_
 simp only [newExc,newTuple]
 refine M9 (abd ?_ (by size_fits))
 refine M9 (m:=firstArgMember _ _) (wpAny_of_eq (a:=Value.none) (by first|rfl|(simp only [firstArgMember];rfl)) ?_)
 refine abd ?_ (by size_fits)
 simp only [raiseNew]
 refine M9 (wpAny_handled ?_)
 rw[show A.in1.handled=none from hh]
 refine M9 (Oz (wpAny_throw ?_))
 refine M9 (wpAny_isInstance (T:="StopIteration") (b:=true) ⟨_,WO _ rfl,rfl⟩ isSubtype_stop ?_)
 exact Oz (hQ _ (((aaO ..).extBut.push _).push _))
theorem IA.keep{h h':Heap}{it:Addr}{vs:Array Value}(x:IA h it vs)(k:∀o,h.get? it=some o->h'.get? it=some o):IA h' it vs:=k _ x
theorem Iz.keep{h h':Heap}{a:Addr}{es:Array (Int×Value)}{ep:Nat}{t:SetTable}(x:Iz h a es ep t)(k:∀o,h.get? a=some o->h'.get? a=some o):Iz h' a es ep t:=by
 obtain⟨o,ho,r⟩:=x
 exact⟨o,k o ho,r⟩
theorem Pz.keep{h h':Heap}{a:Addr}{ds:List Nat}(x:Pz h a ds)(k:∀o,h.get? a=some o->h'.get? a=some o):Pz h' a ds:=by
 obtain⟨o,ho,r⟩:=x
 exact⟨o,k o ho,r⟩
theorem qH{it:Addr}{vs:Array Value}{k:Nat}{x:Value}{Q:Unit->Shared->Prop}(hi:IA s.heap it vs)(hk:k<vs.size)(h:∀h',IA h' it (vs.setIfInBounds k x)->Heap.SameBut it s.heap h'->Q () {s with heap:=h'}):wpAny (model prog w) A (setField (.ref it) k x) Q E s:=
 wpAny_setField_rec hi hk h
theorem BC{it a r:Addr}{es:Array (Int×Value)}{ep:Nat}{t:SetTable}{ds:List Nat}{i:Nat}{Q:Option Value->Shared->Prop}(hh:A.handled=none)(hw:Way w s.heap it a r es ep t ds i)(hf:t.fits es.size=true)(hp:ds.Perm (List.range es.size))(ha:a≠it)(hr:r≠it)
  (h1:∀e h',(pB w a es ep ds)[i]?=some e->Way w h' it a r es ep t ds (i+1)->Heap.SameBut it s.heap h'->Q (some e.2) {s with heap:=h'})
  (h0:(pB w a es ep ds)[i]?=none->∀h',Heap.ExtBut it s.heap h'->Q none {s with heap:=h'}):wpAny (model prog w) A (pyNext (.ref it)) Q E s:=by
 obtain⟨hs,hw⟩:=hw
 obtain⟨o,ho,hx,hd⟩:=id hs
 have S:∀{A:Around} {Q:(Array (Int×Value)×Nat×SetTable)->Shared->Prop} {E:Qqq},Q (es,ep,t) s->wpAny (model prog w) A (setState a) Q E s:=λh=>wpAny_setState_of ho hd hf h
 have Te:∀{A:Around} {Q:Bool->Shared->Prop} {E:Qqq} {b:Bool},w.params.followText "set-order"=b->Q b s->wpAny (model prog w) A setsByText Q E s:=λe h=>M9 (wpAny_askSetting (Oz (by rw[<-e] at h;exact h)))
 have hT:s.TypeIs (.ref it) "set_iterator":=by
  rcases hw with⟨_,q⟩|⟨_,_,_,_,q,_⟩|⟨_,_,_,q⟩<;>exact⟨_,q,rfl⟩
 have Vr:((ep:Int).toNat)=ep:=rfl
 have L1:(((es.size:Nat):Int) != (es.size:Int))=false:=by simp
 have I_:(ep != ep)=false:=by simp
 unfold pyNext
 refine M9 (wpAny_attempt (wpAny_callSpecial?_slot (name:=Str.ofString "__next__") hT jV
  (abb jV hT v_ ?_ (xF _))))
 unfold Builtin.«set_iterator.__next__»
 refine M9 (Oz ?_)
 rcases hw with⟨hb,q⟩|⟨hb,L3,hl,qn,q,Tf⟩|⟨hb,L3,Vs,q⟩
 ·refine M9 (abZ q rfl ?_)
  dsimp only
  refine M9 (M9 (S (Oz ?_)))
  rw[aab (by rw[L1];decide)]
  unfold setNext
  refine M9 (M9 (S (M9 (Te hb ?_))))
  rw[aah rfl,aab (by rw[Vr,I_];decide)]
  unfold setWalk
  refine M9 (M9 (S (M9 (Te hb ?_))))
  rw[aah rfl]
  refine M9 (wpAny_askSetting (Oz (Oz ?_)))
  have eo:(pB w a es ep ds)[i]?=(pickOrder (w.params.setOrder a ep) es)[(i:Int).toNat]?:=by
   unfold pB
   rw[aah hb,aaA]
   rfl
  cases hq:(pickOrder (w.params.setOrder a ep) es)[(i:Int).toNat]? with
  | none=>
   rw[show(pickOrder ((model prog w).w.params.setOrder a ep) es)[(i:Int).toNat]?=none from hq]
   exact w5 hh (by simp) q (h0 (eo.trans hq))
  | some e=>
   rw[show(pickOrder ((model prog w).w.params.setOrder a ep) es)[(i:Int).toNat]?=some e from hq]
   refine M9 (qH q (by simp) λh2 q2 GY=>?_)
   refine M9 (qH (s:={s with heap:=h2}) q2 (by simp) λh3 q3 Pg=>?_)
   refine Oz ⟨_,rfl,Oz (h1 e h3 (eo.trans hq) ⟨hs.keep λo e=>((GY.trans Pg).2 a ha).trans e,.inl ⟨hb,?_⟩⟩ (GY.trans Pg))⟩
   simpa[rawInt] using q3
 ·refine M9 (abZ q rfl ?_)
  dsimp only
  refine M9 (M9 (S (Oz ?_)))
  rw[aab (by rw[L1];decide)]
  unfold setNext
  refine M9 (M9 (S (M9 (Te hb ?_))))
  rw[aab (by decide)]
  refine aa9 (λz=>?_) (λ_=>?_)
  ·have z:(!t.plain&&decide (es.size>1))=true:=z
   simp at z
   omega
  refine M9 ?_
  show wpAny _ _ (if(!t.led&&!es.isEmpty)=true then _ else _) _ _ _
  rw[aab (by rw[hl];simp)]
  refine Oz ?_
  rw[show(qn:Int).toNat=qn from rfl,Tf]
  have eo:(pB w a es ep ds)[i]?=es[i]?:=by
   unfold pB
   rw[aab (by rw[hb];decide),aah L3,aaA]
  have n_:t.place.size=es.size:=by
   simp only [SetTable.fits,aaH,abD] at hf
   exact hf.1
  cases hq:es[i]? with
  | none=>
   refine Oz ?_
   rw[hq]
   exact w5 hh (by simp) q (h0 (eo.trans hq))
  | some e=>
   have jI:=(Array.getElem?_eq_some_iff.mp hq).1
   have YM:i=0:=by omega
   have xW:t.place=#[t.place[0]'(by omega)]:=by
    apply Array.ext
    ·simp;omega
    ·intro j h1 h2
     have:j=0:=by omega
     subst this
     rfl
   subst YM
   have YN:t.place[0]?=some (t.place[0]'(by omega)):=aaF _
   refine Oz ?_
   rw[hq,YN]
   refine M9 (qH q (by simp) λh2 q2 GY=>?_)
   refine M9 (qH (s:={s with heap:=h2}) q2 (by simp) λh3 q3 Pg=>?_)
   refine Oz ⟨_,rfl,Oz (h1 e h3 (eo.trans hq) ⟨hs.keep λo e=>((GY.trans Pg).2 a ha).trans e,.inr (.inl ⟨hb,L3,hl,(t.place[0]'(by omega))+1,?_,?_⟩)⟩ (GY.trans Pg))⟩
   ·simpa[rawInt] using q3
   ·exact(yC xW).2
 ·obtain⟨ot,YO,YQ⟩:=id Vs
  refine M9 (abZ q rfl ?_)
  dsimp only
  refine M9 (M9 (S (Oz ?_)))
  rw[aab (by rw[L1];decide)]
  refine M9 (wpAny_seqItems YO YQ ?_)
  dsimp only
  have eo:(pB w a es ep ds)[i]?=ds[i]?.map λk=>es.toList.getD k (0,.none):=by
   unfold pB
   rw[aab (by rw[hb];decide),aab L3,W3]
  have et:(ds.map λ(i:Nat)=>rawInt i).toArray[(i:Int).toNat]?=ds[i]?.map λ(k:Nat)=>rawInt k:=by
   rw[List.getElem?_toArray,W3]
   rfl
  rw[et]
  cases hq:ds[i]? with
  | none=>
   refine M9 (qH q (by simp) λh2 q2 GY=>?_)
   refine w5 (s:={s with heap:=h2}) hh (by simp) q2 λh3 x3=>h0 (by rw[eo,hq];rfl) h3 λb o' Mi e=>x3 b o' Mi ((GY.2 b Mi).trans e)
  | some k=>
   have hk:k<es.size:=List.mem_range.mp (hp.mem_iff.mp (Um hq))
   have JH:k<es.toList.length:=by rw[aau];exact hk
   have YR:es[k]?=some (es.toList.getD k (0,.none)):=by
    rw[<-aaA,QU JH]
    simp[List.getD,QU JH]
   refine M9 ?_
   unfold setNextDrawn
   refine M9 (S ?_)
   dsimp only
   rw[aab (by rw[Vr,I_];decide),show(k:Int).toNat=k from rfl,YR]
   refine Oz ?_
   refine M9 (qH q (by simp) λh2 q2 GY=>?_)
   refine Oz ⟨_,rfl,Oz (h1 _ h2 (by rw[eo,hq];rfl) ⟨hs.keep λo e=>(GY.2 a ha).trans e,.inr (.inr ⟨hb,L3,Vs.keep λo e=>(GY.2 r hr).trans e,?_⟩)⟩ GY)⟩
   simpa[rawInt] using q2
theorem Er(hh:A.handled=none){it a r:Addr}{es:Array (Int×Value)}{ep:Nat}{t:SetTable}{ds:List Nat}(hf:t.fits es.size=true)(hp:ds.Perm (List.range es.size))(ha:a≠it)(hr:r≠it) :
  Walks prog w A it [it,a,r] [it] es.size (λi v=>∃e,(pB w a es ep ds)[i]?=some e/\v=e.2) (λi h=>Way w h it a r es ep t ds i) where
 sub:=λb hb=>by simp at hb;simp[hb]
 frame:=λi h h' st k=>by
  obtain⟨hs,st⟩:=st
  refine⟨hs.keep λo e=>k a (by simp) o e,?_⟩
  have ki:=λo e=>k it (by simp) o e
  rcases st with⟨hb,q⟩|⟨hb,x1,x2,n,q,x3⟩|⟨hb,x1,x2,q⟩
  ·exact .inl ⟨hb,q.keep ki⟩
  ·exact .inr (.inl ⟨hb,x1,x2,n,q.keep ki,x3⟩)
  ·exact .inr (.inr ⟨hb,x1,x2.keep λo e=>k r (by simp) o e,q.keep ki⟩)
 item:=λi s Q E hi st hQ=>by
  have hlen:(pB w a es ep ds).length=es.size:=by rw[(qm hp).length_eq,aau]
  exact BC hh st hf hp ha hr (λe h' he uw sb=>hQ _ h' s.toks ⟨e,he,rfl⟩ uw λb o hb q=>(sb.2 b (λz=>hb (by simp[z]))).trans q) λhn=>absurd (List.getElem?_eq_none_iff.mp hn) (by omega)
 done:=λs Q E st hQ=>by
  have hlen:(pB w a es ep ds).length=es.size:=by rw[(qm hp).length_eq,aau]
  exact BC hh st hf hp ha hr (λe h' he _ _=>absurd (List.getElem?_eq_some_iff.mp he).1 (by omega)) λ_ h' x=>hQ h' s.toks λb o hb q=>x b o (λz=>hb (by simp[z])) q
 self:=λi s Q E st hQ=>by
  have hT:s.TypeIs (.ref it) "set_iterator":=by
   rcases st.2 with⟨_,q⟩|⟨_,_,_,_,q,_⟩|⟨_,_,_,q⟩<;>exact⟨_,q,rfl⟩
  refine wpAny_pyIter_slot hT qV (abb qV hT wa ?_ (xG _))
  show wpAny _ _ (ret (.ref it)) _ _ s
  exact Oz ⟨_,rfl,"set_iterator",_,hT,jV.lookup,hQ⟩
theorem Gj{a:Addr}{xs:List Str}{Q:Qqq}(hh:A.handled=none)(hS:jU w s.heap a xs (!(w.params.followText "set-order")))(Vt:xs.length<=sizeLine)
  (hQ:∀h' d it r es ep t ds,s.heap.objs.size<=it->(r=a\/s.heap.objs.size<=r)->(∀b o,s.heap.get? b=some o->h'.get? b=some o)->t.fits es.size=true->ds.Perm (List.range es.size)->a≠it->r≠it->(∀e∈es.toList,Mf w e)->(es.toList.map λe=>strOf e.2).Perm xs->Way w h' it a r es ep t ds 0->Q (.ref it) {s with heap:=h',drawn:=d}):wpAny (model prog w) A (pyIter (.ref a)) Q E s:=by
 obtain⟨o,es,ep,t,ho,hx,hd,EG,hp,hf,n_,hl⟩:=hS
 have hT:s.TypeIs (.ref a) "set":=⟨o,ho,hx.1⟩
 have jI:a<s.heap.objs.size:=aac ho
 have hlen:es.size=xs.length:=by rw[<-hp.length_eq,Ou,aau]
 refine wpAny_pyIter_slot hT PySem.F.slot_set_iter (abb PySem.F.slot_set_iter hT vZ ?_ (xE _))
 unfold Builtin.«frozenset.__iter__»
 have S:∀{A:Around} {Q:(Array (Int×Value)×Nat×SetTable)->Shared->Prop} {E:Qqq},Q (es,ep,t) s->wpAny (model prog w) A (setState a) Q E s:=λh=>wpAny_setState_of ho hd hf h
 refine M9 (Oz ?_)
 refine M9 (M9 (M9 (S (Oz (Oz ?_)))))
 refine M9 (M9 (S ?_))
 dsimp only
 unfold setsByText
 refine M9 (M9 (wpAny_askSetting (Oz (Oz ?_))))
 refine aa9 (λh=>?_) (λh=>?_)
 ·rw[aaH] at h
  have hb:w.params.followText "set-order"=false:=by
   have:(!(w.params.followText "set-order"))=true:=h.1
   simpa using this
  have h2:(!t.plain&&decide (es.size>1))=true:=h.2
  have hgt:es.size>1:=by simp at h2;exact h2.2
  refine M9 (BA es.size (List.range es.size) (by simp) λds d Mv=>?_)
  refine M9 (wpAny_newTuple ?_ (by rw[Ou,Mv.length_eq,aa2];omega))
  have kp:∀b o',s.heap.get? b=some o'->(s.heap.push {cls:=.type "tuple",data:=.seq (ds.map λ(i:Nat)=>rawInt i).toArray}).get? b=some o':=λb o' e=>QY _ e
  refine M9 (M9 (wpAny_setState_of (kp _ _ ho) hd hf (Oz ?_)))
  refine M9 (abd (Oz ⟨_,rfl,"set_iterator",_,⟨_,WO _ rfl,rfl⟩,jV.lookup,?_⟩))
  have hsz:(s.heap.push {cls:=.type "tuple",data:=.seq (ds.map λ(i:Nat)=>rawInt i).toArray}).objs.size=s.heap.objs.size+1:=abm _ _
  refine hQ _ _ _ s.heap.objs.size es ep t ds (by rw[hsz];exact abS _) (.inr (Q2 _)) (λb o e=>QY _ (kp b o e)) hf Mv (by rw[hsz];exact aar (ab9 jI)) (by rw[hsz];exact aar (abE _)) EG hp ?_
  refine⟨⟨o,QY _ (kp _ _ ho),hx,hd⟩,.inr (.inr ⟨hb,by omega,⟨_,QY _ (WO _ rfl),rfl⟩,?_⟩)⟩
  exact WO _ rfl
 ·refine M9 (Oz (M9 (M9 (S (Oz ?_)))))
  refine M9 (abd (Oz ⟨_,rfl,"set_iterator",_,⟨_,WO _ rfl,rfl⟩,jV.lookup,?_⟩))
  refine hQ _ s.drawn _ a es ep t (List.range es.size) (Q2 _) (.inl rfl) (λb o e=>QY _ e) hf (.refl _) (aar jI) (aar jI) EG hp ?_
  refine⟨⟨o,QY _ ho,hx,hd⟩,?_⟩
  cases hb:w.params.followText "set-order" with
  | true=>exact .inl ⟨rfl,WO _ rfl⟩
  | false=>
   have L3:es.size<=1:=by
    by_cases z:es.size<=1
    ·exact z
    ·refine absurd ?_ h
     rw[aaH]
     refine⟨?_,?_⟩
     ·show(!(w.params.followText "set-order"))=true
      rw[hb];rfl
     ·show(!t.plain&&decide (es.size>1))=true
      rw[n_ (by omega)]
      simp;omega
   refine .inr (.inl ⟨rfl,L3,by rw[hl,hb];rfl,0,WO _ rfl,?_⟩)
   have hpl2:t.place.size=es.size:=by
    simp only [SetTable.fits,aaH,abD] at hf
    exact hf.1
   by_cases z:es.size=0
   ·have:t.place=#[]:=Array.eq_empty_of_size_eq_zero (by omega)
    rw[this];rfl
   ·have xW:t.place=#[t.place[0]'(by omega)]:=by
     apply Array.ext
     ·simp;omega
     ·intro j h1 h2
      have:j=0:=by omega
      subst this
      rfl
    exact(yC xW).1
theorem Gk{w:World}{a:Addr}{es:Array (Int×Value)}{ep:Nat}{ds:List Nat}{acc:Array Value}(hp:ds.Perm (List.range es.size))(EG:∀e∈es.toList,Mf w e)(ha:ItemsOf (λi v=>∃e,(pB w a es ep ds)[i]?=some e/\v=e.2) acc es.size) :
  StrsAre acc.toList ((pB w a es ep ds).map λe=>strOf e.2):=by
 have hlen:(pB w a es ep ds).length=es.size:=by rw[(qm hp).length_eq,aau]
 have e:acc.toList=(pB w a es ep ds).map λe=>e.2:=by
  refine ab_ λk=>?_
  rw[W3,aaA]
  cases hq:acc[k]? with
  | none=>
   have:=Array.getElem?_eq_none_iff.mp hq
   rw[ab7 (by rw[hlen,<-ha.1];exact this)]
   rfl
  | some v=>
   obtain⟨e,he,hv⟩:=ha.2 k v hq
   rw[he,hv]
   rfl
 rw[e]
 have:=strsAre_map ((pB w a es ep ds).map λe=>e.2) λv hv=>by
  obtain⟨e,he,rfl⟩:=aak.mp hv
  obtain⟨y,t,rfl⟩:=EG e ((qm hp).mem_iff.mp he)
  exact⟨y,t,rfl⟩
 rwa [List.map_map] at this
theorem zP{a:Addr}{xs:List Str}{Q:List Value->Shared->Prop}(hh:A.handled=none)(hS:jU w s.heap a xs (tw w))(Vt:xs.length<=sizeLine)
  (hQ:∀vs ys h' tk d,StrsAre vs ys->ys.Perm xs->s.heap.objs.size<h'.objs.size->(∀b o,s.heap.get? b=some o->h'.get? b=some o)->Q vs {s with heap:=h',toks:=tk,drawn:=d}):wpAny (model prog w) A (collect (.ref a)) Q E s:=by
 have jI:a<s.heap.objs.size:=by obtain⟨o,_,_,_,ho,_⟩:=hS;exact aac ho
 unfold collect
 refine M9 (wpAny_runValue (abP PySem.F.entry_proto_collect ?_))
 rw[abt PySem.F.plain_proto_collect _]
 show wpAny _ A.in1 (newList [] >>= λl=>again (.builtin "list.__iadd__" ⟨[l,.ref a],[]⟩)) _ _ s
 refine M9 (abd ?_)
 refine Oz ⟨aca PySem.F.plain_list_iadd _,abP PySem.F.entry_list_iadd ?_⟩
 rw[abt PySem.F.plain_list_iadd _]
 have RL:(s.heap.push {cls:=.type "list",data:=.seq ([]:List Value).toArray}).get? s.heap.objs.size=some {cls:=.type "list",data:=.seq ([]:List Value).toArray}:=WO _ rfl
 have Vu:(s.heap.push {cls:=.type "list",data:=.seq ([]:List Value).toArray}).objs.size=s.heap.objs.size+1:=abm _ _
 have k1:∀b o,s.heap.get? b=some o->(s.heap.push {cls:=.type "list",data:=.seq ([]:List Value).toArray}).get? b=some o:=λb o e=>QY _ e
 have hT:Shared.TypeIs {s with heap:=s.heap.push {cls:=.type "list",data:=.seq ([]:List Value).toArray}} (.ref a) "set":=by
  obtain⟨o,_,_,_,ho,hx,_⟩:=hS
  exact⟨o,k1 _ _ ho,hx.1⟩
 show wpAny _ A.in1 (Builtin.List.listExtendWith (.ref s.heap.objs.size) (.ref a) (.ref s.heap.objs.size)) _ _ _
 unfold Builtin.List.listExtendWith
 refine M9 (wpAny_typeOf hT ?_)
 have h1:Builtin.List.listSameRef (.ref s.heap.objs.size) (.ref a)=false:=by
  unfold Builtin.List.listSameRef
  simp only [abj]
  exact abQ jI
 rw[aab (by rw[h1];decide)]
 refine M9 (Gj hh (hS.at λo e=>k1 a o e) Vt λh2 d it r es ep t ds hit hr k2 hf Mv ha YS EG hp hw=>?_)
 have YT:Shared.TypeIs {s with heap:=h2,drawn:=d} (.ref a) "set":=by
  obtain⟨⟨o,ho,hx,_⟩,_⟩:=hw
  exact⟨o,ho,hx.1⟩
 have IT:s.heap.objs.size∉[it,a,r]:=by
  rw[Vu] at hit hr
  simp only [RT,abY,or_false,not_or]
  refine⟨aar hit,abQ jI,?_⟩
  rcases hr with rfl|z
  ·exact abQ jI
  ·exact aar z
 have hn:es.size=xs.length:=by rw[<-hp.length_eq,Ou,aau]
 have W:=(Er (prog:=prog) (w:=w) (ep:=ep) (show A.in1.handled=none from hh) hf Mv ha YS)
 have key:∀h3 c,Way w h3 it a r es ep t ds 0->(∀b o,s.heap.get? b=some o->h3.get? b=some o)->h3.get? s.heap.objs.size=some {cls:=.type "list",data:=.seq #[] c}->
   codeAny (model prog w) A (.builtin "list.extend.loop" ⟨[.ref s.heap.objs.size,.ref it,.ref s.heap.objs.size],[]⟩) (λr s'=>match r with
    | .ok (.ret v)=>wpAny (model prog w) A (match v with|.ref a=>(do let o <-load a;match o.data with|.seq xs _=>pure xs.toList|_=>unsupported "internal:collect")|_=>unsupported "internal:collect") Q E s'
    | .ok _=>False
    | .error e=>E e s') {s with heap:=h3,drawn:=d}:=λh3 c YU k3 YV=>by
  refine codeAny_extend_loopS W.toS (by omega) s.heap.objs.size IT _ es.size 0 _ #[] c rfl (aaD _) YU YV (ItemsOf.nil _) λs' GG c' hm Hb qO=>?_
  show wpAny _ A (load s.heap.objs.size >>= _) _ _ _
  refine M9 (wpAny_load Hb ?_)
  obtain⟨h',g',d',Td,NS⟩:=s'
  have eg:g'=s.gens:=hm.gens
  have ed:d'=d:=hm.drawn
  have eo:NS=s.os:=hm.os
  subst eg;subst ed;subst eo
  refine Oz (hQ _ _ h' Td d' (Gk Mv EG qO) (((qm Mv).map _).trans hp) (aac Hb) λb o e=>?_)
  have hb:=aac e
  rw[Vu] at hit
  refine hm.heap b o ?_ (k3 _ _ e)
  simp only [RT,abY,or_false,not_or]
  exact⟨aar hb,aar (aal (ab9 hb) hit)⟩
 refine M9 (aa0 (Fq YT ?_))
 have JB:=k2 _ _ RL
 refine aa9 (λ_=>?_) (λ_=>Oz ⟨aca abI _,key h2 0 hw (λb o e=>k2 _ _ (k1 _ _ e)) JB⟩)
 refine M9 (wpAny_rule ?_)
 refine M9 ?_
 show wpAny _ _ (updateSeq s.heap.objs.size (·.push .none) >>= λ_=>updateSeq s.heap.objs.size (·.pop)) _ _ _
 refine M9 (wpAny_updateSeq JB rfl ?_)
 have Of:=aaI (Obj.mapSeq (·.push Value.none)) JB rfl
 refine wpAny_updateSeq (hz:=by seq_fits) Of rfl ?_
 have RM:=aaI (Obj.mapSeq (·.pop)) Of rfl
 have ne:∀b o,b≠s.heap.objs.size->h2.get? b=some o->((h2.update s.heap.objs.size (Obj.mapSeq (·.push Value.none))).update s.heap.objs.size (Obj.mapSeq (·.pop))).get? b=some o:=λb o hb e=>
  (aa6 _ _ (abz hb)).trans ((aa6 _ _ (abz hb)).trans e)
 exact Oz ⟨aca abI _,key _ _ (W.frame 0 _ _ hw λb hb o e=>ne b o (λz=>IT (z▸hb)) e) (λb o e=>ne b o (aar (aac e)) (k2 _ _ (k1 _ _ e))) RM⟩
theorem BD{a:Addr}{xs:List Str}{Q:Qqq}(hh:A.handled=none)(hS:jU w s.heap a xs (tw w))(YW:xs.length<64)
  (hQ:∀(L:Addr) h' tk d vs zs c,s.heap.objs.size<=L->(∀b o,s.heap.get? b=some o->h'.get? b=some o)->h'.get? L=some {cls:=.type "list",data:=.seq vs c}->StrsAre vs.toList zs->zs.Perm xs->sortedS zs=true->Q (.ref L) {s with heap:=h',toks:=tk,drawn:=d}) :
  wpAny (model prog w) A (call (.builtin "sorted") [.ref a]) Q E s:=by
 refine Calls.call_function_entry kind_sorted plain_sorted entry_sorted (args_sorted1 _) ?_
 unfold Builtin.«sorted»
 refine M9 (m:=checkCount "sorted" 1 1 _) (Oz ?_)
 refine M9 (zP (A:=A.in1) hh hS (by rw[ach];omega) λvs ys h1 tk d hv hp jI k1=>?_)
 have hvl:vs.length=xs.length:=by rw[StrsAre.length hv,hp.length_eq]
 refine M9 (wpAny_newList ?_ (by rw[ach];omega))
 have NQ:(h1.push (seqObj "list" vs.toArray 0)).get? h1.objs.size=some (seqObj "list" vs.toArray 0):=WO _ rfl
 refine M9 (aa0 (abb slot_list_sort ⟨_,NQ,rfl⟩ entry_list_sort (list_sort_treeK strKind_oneLt (vs:=vs) NQ hv.keysOf (λv1 v2 rest e=>keyKind_strs (by rw[<-e];exact hv)) (by omega) λuw a1 a2=>⟨_,rfl,?_⟩) (args_list_sort _)))
 obtain⟨c,hc⟩:=sortedHeap_at (out:=Array.map (λx=>x.snd) (arrOf uw)) NQ
 obtain⟨zs,z1,z2,z3⟩:=sorted_out_str hv a1 a2
 refine Oz ⟨_,rfl,hQ h1.objs.size _ tk d _ zs c (Nat.le_of_lt jI) (λb o e=>?_) hc z1 (z2.trans hp) z3⟩
 have hb:b<h1.objs.size:=aac (k1 b o e)
 rw[sortedHeap_old (aar hb) (aal hb (by show h1.objs.size<=(h1.push _).objs.size;rw[abm];exact abS _))]
 exact QY _ (k1 b o e)
end
def sx(a b:Str):Bool:=ltCps a.cps.toList b.cps.toList
theorem Jq(a b:Str):sx a b=decide (a.cps.toList<b.cps.toList):=ltCps_eq _ _
theorem Gm{a b:Str}(h1:sx a b=false)(h2:sx b a=false):a=b:=by
 rw[Jq] at h1 h2
 have:a.cps.toList=b.cps.toList:=PyProof.Rows.strKind.total _ _ h1 h2
 cases a;cases b
 exact aaT Str.mk (Array.toList_inj.mp this)
theorem NH{a b c:Str}(h1:sx a b=true)(h2:sx b c=true):sx a c=true:=by
 rw[Jq] at h1 h2 ⊢
 exact PyProof.Rows.strKind.trans _ _ _ h1 h2
theorem NI{a b c:Str}(h1:sx b a=false)(h2:sx c b=false):sx c a=false:=by
 cases h:sx c a with
 | false=>rfl
 | true=>
  cases h3:sx a b with
  | false=>rw[Gm h3 h1] at h;rw[h] at h2;exact h2
  | true=>rw[NH h h3] at h2;exact h2
abbrev Jr(zs:List Str):Prop:=zs.Pairwise λa b=>sx b a=false
theorem w6:∀(p:Str)(l:List Str),risingS p l=true->(p::l).Pairwise λa b=>sx b a=false
 | p,[],_=>by simp
 | p,x::r,h=>by
  have h':(!ltCps x.cps.toList p.cps.toList&&risingS x r)=true:=h
  rw[aaH] at h'
  have h1:sx x p=false:=by simpa[sx] using h'.1
  have ih:=w6 x r h'.2
  refine List.pairwise_cons.mpr ⟨λy hy=>?_,ih⟩
  rcases RT.mp hy with rfl|hy
  ·exact h1
  ·exact NI h1 (List.rel_of_pairwise_cons ih hy)
theorem w_:∀{l:List Str},sortedS l=true->Jr l
 | [],_=>.nil
 | x::r,h=>w6 x r h
theorem Gn{x y:List Str}(hx:Jr x)(hy:Jr y)(nx:x.Nodup)(ny:y.Nodup)(h:∀z,z∈x↔z∈y):x=y:=
 List.Perm.eq_of_pairwise (le:=λa b=>sx b a=false) (λa b _ _ h1 h2=>Gm h2 h1) hx hy ((List.perm_ext_iff_of_nodup nx ny).mpr λz=>h z)
theorem CI{x:List Str}(h:Jr x)(p:Str->Bool):Jr (x.filter p):=List.Pairwise.filter p h
section
variable{X:Cx}
theorem uq:∀{xs:List Str} {us:List Value},Vals (xs.map V.str) us->StrsAre us xs
 | [],_,.nil=>.nil
 | x::xs,_,.cons r t=>by
  obtain⟨tk,rfl⟩:=r
  exact .cons x tk (uq t)
theorem ur:∀{xs:List Str} {us:List Value},StrsAre us xs->Vals (xs.map V.str) us
 | _,_,.nil=>.nil
 | _,_,.cons x t r=>.cons ⟨t,rfl⟩ (ur r)
theorem Inv.drew{ak:Qqz}{Z:St}{H:Hp}{s:Shared}(I:Inv X ak Z H s)(d:Drawn):Inv X ak Z H {s with drawn:=d}:=
 ⟨I.ok,I.os,I.bare,I.base,I.loc,I.cell,I.free,I.kC,I.pin,I.gX,I.len⟩
def Ll(K:Qqy)(ta:TA):TE:=λZ H Q=>ta Z H λvs H1=>∃a,∃xs:List Str,vs=[.ref a]/\gP K H1 a (xs.map V.str)/\xs.length<63/\∀p,∀zs:List Str,H1 p=none->Jr zs->zs.Nodup->(∀y,y∈zs↔y∈xs)->zs.length<=xs.length->Q (.ref p) (upd H1 p (.lst (zs.map V.str)))
theorem CJ{a:Expr}{ta:TA}{p1 p2 LH zV:Pos}(hc:X.calm=true)(JC:Gl X "sorted")(Oh:X.mg "sorted"=none)(hg:Gl X "set")(hm:X.mg "set"=none)(ha:PA X [a] ta)(hs:starEach [a] X.env=[(false,eval a X.env)]:=by rfl)
  (Oi:starEach [.Call (.Name "set" p2) [a] [] zV] X.env=[(false,eval (.Call (.Name "set" p2) [a] [] zV) X.env)]:=by rfl):PE X (.Call (.Name "sorted" p1) [.Call (.Name "set" p2) [a] [] zV] [] LH) (Ll X.K ta):=by
 intro ak s Z H Q I h
 have hh:=I.ok.hd hc
 refine Call_ (lr I JC Oh boot_sorted (PyProof.Rows.callWith_builtin1 ?_ Oi rfl))
 rw[Oi]
 refine aa3 ?_
 refine Call_ (lr I hg hm boot_set (aaG (il (ha zV ak s Z H _ I h) λus s1 ⟨vs,H1,I1,r1,q1⟩=>?_) hs rfl))
 obtain⟨l,xs,rfl,hq,hn,q⟩:=q1
 obtain⟨u,rfl,ru⟩:=vals1 r1
 cases (show u=Value.ref l from ru)
 obtain⟨fW,rv,pp,hz⟩:=I1.list hq
 have hS:=uq rv
 have hl:=StrsAre.length hS
 refine Eo (ss:=xs) hh pp.isList (by simpa using hS) (by rw[WZ];unfold scanBound;omega) λh' tk Ph k1=>abk ?_
 obtain⟨f1,f2,f3⟩:=Gh (xs.take fW.toArray.size) []
 have et:xs.take fW.toArray.size=xs:=List.take_of_length_le (by rw[WZ];omega)
 have jI:s1.heap.objs.size<h'.objs.size:=by obtain⟨o,_,_,_,ho,_⟩:=Ph;exact aac ho
 have SV:(wZ xs fW.toArray.size).length<=xs.length:=by rw[et] at f1;unfold wZ;rw[et];simpa using f1
 refine BD (s:={s1 with heap:=h',toks:=tk}) hh Ph (by omega) λL h2 YX d vs zs c hL k2 YY z1 z2 z3=>?_
 have hsz:s1.heap.objs.size<=L:=aag (Nat.le_of_lt jI) hL
 have zl:zs.length<=xs.length:=by rw[z2.length_eq];exact SV
 refine⟨.ref L,upd H1 L (.lst (zs.map V.str)),(I1.laid (t':=YX) (h':=h2) (λb o e=>k2 b o (k1 b o e)) hsz ?_).drew d,rfl,q _ _ (I1.gX.fresh hsz) (w_ z3) (z2.nodup_iff.mpr (f3 aa8)) (λy=>?_) zl⟩
 ·exact⟨by rw[Ou,ach];omega,vs.toList,c,ur z1,by rw[abK];exact YY⟩
 ·rw[z2.mem_iff,f2,et];simp
theorem BE:qR X (.builtin "sorted") (λxs H Q=>∃p,∃ys:List Str,xs=[.ref p]/\gP X.K H p (ys.map V.str)/\ys.length<64/\∀l,∀zs:List Str,H l=none->zs.Perm ys->Jr zs->Q (.ref l) (upd H l (.lst (zs.map V.str)))):=by
 intro ak s Z H xs us Q I r h
 obtain⟨a,ys,rfl,hq,YW,q⟩:=h
 obtain⟨u,rfl,ru⟩:=vals1 r
 cases (show u=Value.ref a from ru)
 obtain⟨fW,rv,pp,hz⟩:=I.list hq
 have hS:=uq rv
 have hl:=StrsAre.length hS
 refine sorted_strs (vs:=fW) pp.isList hS (by omega) λout Vv a1 a2 a3=>?_
 obtain⟨c,hc⟩:=sortedAll_at s.heap fW out
 refine⟨.ref (s.heap.objs.size+1),upd H (s.heap.objs.size+1) (.lst (Vv.map V.str)),I.laid (t':=s.toks) (λb o e=>sortedAll_old e) (abS _) (show ia X.prog X.w _ _ _ (.lst (Vv.map V.str)) from ⟨by rw[Ou,a2.length_eq];rw[ach];omega,out.toList,c,ur a1,by rw[abK];exact hc⟩),rfl,?_⟩
 exact q _ _ (I.gX.fresh (abS _)) a2 (w_ a3)
end
def ov(R H:Hp):Hp:=λb=>match R b with|some o=>some o|none=>H b
structure Apart(R H:Hp):Prop where
 lst:∀b o,R b=some o->∃xs,o=.lst xs
 iQ:∀b o,R b=some o->H b=none
section
variable{R H H':Hp}{b p:Addr}{o:HO}
theorem jv(e:R b=some o):ov R H b=some o:=by unfold ov;rw[e]
theorem mY(e:R b=none):ov R H b=H b:=by unfold ov;rw[e]
theorem Apart.out(a:Apart R H)(e:H b=some o):R b=none:=by
 cases h:R b with
 | none=>rfl
 | some u=>rw[a.iQ b u h] at e;cases e
theorem Apart.at(a:Apart R H)(e:H b=some o):ov R H b=some o:=by rw[mY (a.out e)];exact e
theorem Apart.same(a:Apart R H):fG H (ov R H):=λ_ _ e=>a.at e
theorem kr(h:ov R H b=none):R b=none/\H b=none:=by
 cases e:R b with
 | none=>rw[mY e] at h;exact⟨rfl,h⟩
 | some u=>rw[jv e] at h;cases h
theorem tD(h:ov R H b=some o)(hl:∀xs,o≠.lst xs)(a:Apart R H):H b=some o:=by
 cases e:R b with
 | none=>rw[mY e] at h;exact h
 | some u=>
  rw[jv e] at h
  cases h
  obtain⟨xs,z⟩:=a.lst b _ e
  exact absurd z (hl xs)
theorem Lm(e:R p=none):upd (ov R H) p o=ov R (upd H p o):=by
 funext c
 by_cases h:c=p
 ·subst h;rw[a_,mY e,a_]
 ·rw[c_ h]
  cases hc:R c with
  | none=>rw[mY hc,mY hc,c_ h]
  | some u=>rw[jv hc,jv hc]
theorem ml:upd (ov R H) p o=ov (upd R p o) H:=by
 funext c
 by_cases h:c=p
 ·subst h;rw[a_,jv a_]
 ·rw[c_ h]
  cases hc:R c with
  | none=>rw[mY hc,mY (by rw[c_ h];exact hc)]
  | some u=>rw[jv hc,jv (by rw[c_ h];exact hc)]
theorem Apart.nil:Apart (λ_=>none) H:=⟨λ_ _ e=>(by cases e),λ_ _ e=>(by cases e)⟩
theorem Apart.put(a:Apart R H)(hp:H p=none)(xs:List V):Apart (upd R p (.lst xs)) H:=by
 refine⟨λb o e=>?_,λb o e=>?_⟩
 ·by_cases h:b=p
  ·subst h;rw[a_] at e;cases e;exact⟨xs,rfl⟩
  ·rw[c_ h] at e;exact a.lst b o e
 ·by_cases h:b=p
  ·subst h;exact hp
  ·rw[c_ h] at e;exact a.iQ b o e
theorem Apart.new(a:Apart R H)(e:R p=none):Apart R (upd H p o):=⟨a.lst,λb u z=>by
 rw[c_ (λh=>by rw[h,e] at z;cases z)]
 exact a.iQ b u z⟩
end
def xa(sp:Sp):Sp:=λvs H Q E=>∃R H1,Apart R H1/\H=ov R H1/\sp vs H1 (λv H'=>Apart R H'->Q v (ov R H')) E
theorem gS.xa{P:Program}{w:World}{K:Qqy}{mg:Qqx}{base:Heap}{k:Nat}{f:Addr}{fd:FuncData}{ps:List Str}{sp:Sp}(F:gS P w K mg base lR k f fd ps sp):gS P w K mg base lR k f fd ps (L2.xa sp):=by
 refine⟨λvs H Q E ⟨_,_,_,_,h⟩=>F.len _ _ _ _ h,λA outer s H args us vs Q E hr e hb hv h=>?_⟩
 obtain⟨R,H1,ap,rfl,h⟩:=h
 have Tg:og P w H1 s.heap:=λa o z=>(e.gX a o (ap.at z)).rZ (λ_ _ _ q=>q) (λb q=>tD q (λ_ z=>by cases z) ap) (λb xs q=>tD q (λ_ z=>by cases z) ap)
 have e1:Ay P w K mg base A outer s H1:=⟨e.frames,e.mod,λb o z=>⟨(e.bs b o z).1,(kr (e.bs b o z).2).2⟩,e.Ez,e.pC,λb z=>(kr (e.EA b z)).2,Tg,e.bare⟩
 refine abR (F.run A outer s H1 args us vs _ E hr e1 hb hv h) λr s' hq=>?_
 cases r with
 | error x=>exact hq
 | ok fl=>
  cases fl with
  | ret u=>
   obtain⟨v,H',os,bare,un,gX,rv,q⟩:=hq
   have kp:∀b o,R b=some o->(∃ob,s.heap.get? b=some ob)/\b∉pd outer:=λb o z=>by
    obtain⟨xs,rfl⟩:=ap.lst b o z
    obtain⟨_,_,_,_,g⟩:=e.gX b _ (jv z)
    exact⟨⟨_,g⟩,λm=>by have:=(kr (e.EA b m)).1;rw[z] at this;cases this⟩
   have Hg:Apart R H':=⟨ap.lst,λb o z=>by
    obtain⟨⟨ob,g⟩,_⟩:=kp b o z
    exact un.free b ob g (ap.iQ b o z) (by simp)⟩
   refine⟨v,ov R H',os,bare,⟨λb o g n hb hx=>un.keep b o g (kr n).2 hb hx,λb o g n hb hx=>un.slot b o g (kr n).2 hb hx,λb o g n hx=>?_,un.there,λb xs g=>?_,λb o u g=>?_,λb ps g=>?_⟩,λa o z=>?_,rv,q Hg⟩
   ·rw[mY (kr n).1]
    exact un.free b o g (kr n).2 hx
   ·exact Hg.at (un.oh b xs (tD g (λ_ z=>by cases z) ap))
   ·exact Hg.at (un.qJ b o u (tD g (λ_ z=>by cases z) ap))
   ·obtain⟨more,g'⟩:=un.r9 b ps (tD g (λ_ z=>by cases z) ap)
    exact⟨more,Hg.at g'⟩
   ·cases hc:R a with
    | none=>
     rw[mY hc] at z
     exact(gX a o z).rZ (λ_ _ _ q=>q) (λb q=>Hg.at q) (λb xs q=>Hg.at q)
    | some u=>
     rw[jv hc] at z
     cases z
     obtain⟨xs,rfl⟩:=ap.lst a _ hc
     obtain⟨z1,fW,n,r,g⟩:=e.gX a _ (jv hc)
     exact⟨z1,fW,n,r,un.keep a _ g (ap.iQ a _ hc) (kp a _ hc).2 (by simp)⟩
  | next=>exact False.elim hq
  | brk=>exact False.elim hq
  | cont=>exact False.elim hq
end L2
namespace PM
open PySem (Str)
open Dk
theorem BF{D:Dk}{s:Str}{p:Pt}(hp:p.nm∉D.names):D.made.filter (λq=>decide (q.nm∈(D.keep s p).held s))=D.jx s:=by
 unfold jx
 refine List.filter_congr λq hq=>?_
 rw[decide_eq_decide]
 show q.nm∈(if s=s then D.held s++[p.nm] else D.held s)↔_
 rw[aah rfl,Ue,Oy]
 exact⟨λz=>z.resolve_right λe=>hp (e▸Q3 hq),.inl⟩
theorem BG{D:Dk}{s:Str}{p:Pt}(hp:p.nm∉D.names):(D.keep s p).jx s=D.jx s++[p]:=by
 rw[<-BF (s:=s) hp]
 unfold jx
 show(D.made++[p]).filter _=_
 rw[aay]
 congr 1
 have:decide (p.nm∈(D.keep s p).held s)=true:=by
  rw[aa4]
  show p.nm∈(if s=s then D.held s++[p.nm] else D.held s)
  rw[aah rfl];simp
 rw[ace,aah this];rfl
theorem zQ{D:Dk}(I:Inv D){s f:Str}(h:∀p∈D.made,p.file≠some f):D.row s f=[]:=by
 cases e:D.row s f with
 | nil=>rfl
 | cons l r=>
  obtain⟨p,hp,hf,_⟩:=I.qz (s:=s) (f:=f) (l:=l) (by rw[e];exact aae)
  exact absurd hf (h p (Yj.mp hp).1)
theorem Gp{D:Dk}(I:Inv D){s f:Str}(h:∀p∈D.made,p.file≠some f):D.pL s f=[]:=by
 unfold Dk.pL
 rw[zQ I h]
 simp[ju]
theorem yD{ps:List Pt}{p:Pt}(ho:p.other=none):live (ps++[p])=live ps++[p]:=by
 unfold live
 rw[List.reverse_append]
 show(lJ (p::ps.reverse) []).reverse=_
 rw[show lJ (p::ps.reverse) []=if p.nm∈([]:List Str) then lJ ps.reverse [] else p::lJ ps.reverse (match p.other with|some o=>o::[]|none=>[]) from rfl,aab (by simp),ho,acd]
theorem IB{D:Dk}(I:Inv D){p:Pt}(hp:p∈D.made){n:Nm}(hn:n∈p.iU):n.1∈D.names:=by
 have h1:n.1∈gT p:=aad _ (Q3 (Yj.mpr ⟨aad _ hn,Ug (I.FJ p hp n hn)⟩))
 obtain⟨i,hi⟩:=aaK.mp hp
 have h2:=I.before i p hi n.1 ((I.need p hp n.1).mpr ⟨n.1,h1,.inl rfl⟩)
 obtain⟨q,hq,e⟩:=aak.mp h2
 exact e▸Q3 (List.mem_of_mem_take hq)
theorem Es{lt:Nm->Nm->Prop}{rk:Nm->Nat}(hr:∀m n,lt m n->rk m<rk n){ls R:List Ln}(nd:(ls.map (·.nm)).Nodup)(hp:R.Perm ls)(hc:R.Pairwise λa b=>lt a.nm b.nm):rowOf lt ls=R:=by
 have pm:=wj hr nd
 refine List.Perm.eq_of_pairwise (le:=λa b=>lt a.nm b.nm) (λa b _ _ h1 h2=>?_) ?_ hc (pm.trans hp.symm)
 ·have:=hr _ _ h1
  have:=hr _ _ h2
  omega
 ·have GL:(rowOf lt ls).Pairwise λa b=>a.nm≠b.nm:=abx.mp ((pm.map _).nodup_iff.mpr nd)
  have YZ:∀a∈R,∀b∈R,a.nm≠b.nm->lt a.nm b.nm\/lt b.nm a.nm:=λa ha b hb ne=>by
   obtain⟨i,hi,rfl⟩:=List.mem_iff_getElem.mp ha
   obtain⟨j,hj,rfl⟩:=List.mem_iff_getElem.mp hb
   have hp:=aaQ.mp hc
   rcases Nat.lt_trichotomy i j with z|z|z
   ·exact .inl (hp i j hi hj z)
   ·subst z;exact absurd rfl ne
   ·exact .inr (hp j i hj hi z)
  refine((za hr nd).and GL).imp_of_mem λha hb h=>?_
  exact(YZ _ ((pm.trans hp.symm).subset ha) _ ((pm.trans hp.symm).subset hb) h.2).resolve_right h.1
open Classical in
theorem CK{lt:Nm->Nm->Prop}{row:List Ln}(h:row.Pairwise λa b=>lt a.nm b.nm):ju lt row=[]:=by
 unfold ju
 rw[List.flatMap_eq_nil_iff]
 intro i hi
 rw[List.map_eq_nil_iff,ab1]
 intro j hj z
 have z:¬ltAt lt row i j:=aaz z
 apply z
 have hi:=List.mem_range.mp hi
 obtain⟨k,hk,e⟩:=List.mem_range'.mp hj
 have hj:j<row.length:=by omega
 exact⟨row[i],row[j],QU hi,QU hj,aaQ.mp h i j hi hj (by omega)⟩
def vc(row:List Ln):List (Nat×Nat)->Nat->Option Ln
 | [],_=>none
 | q::r,s=>if q.2=s then row[q.1]? else vc row r s
theorem NJ(row:List Ln)(qs:List (Nat×Nat)):kA row qs=λs=>(vc row qs s).map (·.nm):=by
 funext s
 induction qs with
 | nil=>rfl
 | cons q r ih=>
  unfold kA vc
  split
  ·rfl
  ·exact ih
theorem xb{row:List Ln}{qs:List (Nat×Nat)}{s:Nat}{l:Ln}(h:vc row qs s=some l):∃q∈qs,q.2=s/\row[q.1]?=some l:=by
 induction qs with
 | nil=>cases h
 | cons q r ih=>
  unfold vc at h
  by_cases e:q.2=s
  ·rw[aah e] at h
   exact⟨q,aae,e,h⟩
  ·rw[aab e] at h
   obtain⟨q',hq,z⟩:=ih h
   exact⟨q',Uk _ hq,z⟩
theorem Js{row:List Ln}{m:Nat}:∀{qs:List (Nat×Nat)},A1 row.length m qs->∀q∈qs,vc row qs q.2=row[q.1]?
 | [],_,q,hq=>by cases hq
 | q'::r,h,q,hq=>by
  have hr:A1 row.length m r:=⟨(List.pairwise_cons.mp h.1).2,λx hx=>h.2 x (Uk _ hx)⟩
  unfold vc
  rcases RT.mp hq with e|hq
  ·rw[e,aah rfl]
  ·have:=(List.pairwise_cons.mp h.1).1 q hq
   rw[aab (by omega)]
   exact Js hr q hq
section
variable(p:Str)(ln:Nat->Option Ln)
noncomputable def mg:Nat->Nat->Option Nm->List Str->List Ln
 | _,_,_,[]=>[]
 | i,j,u,t::r=>match ln i with
  | some l=>l::mg (i+1) j (some l.nm) r
  | none=>⟨(p,j),t,u,C_ (λs=>(ln s).map (·.nm)) r.length i⟩::mg (i+1) (j+1) (some (p,j)) r
noncomputable abbrev IC(i j:Nat)(u:Option Nm)(r:List Str):List Ln:=oE p (λs=>(ln s).map (·.nm)) i j u r
variable{p ln}
theorem tE{i j:Nat}{u:Option Nm}{t:Str}{r:List Str}{l:Ln}(h:ln i=some l):mg p ln i j u (t::r)=l::mg p ln (i+1) j (some l.nm) r/\IC p ln i j u (t::r)=IC p ln (i+1) j (some l.nm) r:=by
 constructor
 ·rw[mg,h]
 ·unfold IC
  rw[oE]
  simp only [h,abB]
theorem tF{i j:Nat}{u:Option Nm}{t:Str}{r:List Str}(h:ln i=none):mg p ln i j u (t::r)=⟨(p,j),t,u,C_ (λs=>(ln s).map (·.nm)) r.length i⟩::mg p ln (i+1) (j+1) (some (p,j)) r/\IC p ln i j u (t::r)=⟨(p,j),t,u,C_ (λs=>(ln s).map (·.nm)) r.length i⟩::IC p ln (i+1) (j+1) (some (p,j)) r:=by
 constructor
 ·rw[mg,h]
 ·unfold IC
  rw[oE]
  simp only [h,Option.map_none]
theorem Gq:∀(r:List Str)(i j:Nat)(u:Option Nm),(∀k l,ln (i+k)=some l->k<r.length->r[k]?=some l.tx)->(mg p ln i j u r).map (·.tx)=r
 | [],_,_,_,_=>rfl
 | t::r,i,j,u,h=>by
  have hr:∀k l,ln (i+1+k)=some l->k<r.length->r[k]?=some l.tx:=λk l e hk=>by
   have:=h (k+1) l (by rw[<-e];congr 1;omega) (by rw[S7];omega)
   rwa [List.getElem?_cons_succ] at this
  cases e:ln i with
  | some l=>
   rw[(tE e).1,aam,Gq r (i+1) j _ hr]
   have:=h 0 l e (by rw[S7];omega)
   rw[List.getElem?_cons_zero] at this
   rw[<-aaf this]
  | none=>rw[(tF e).1,aam,Gq r (i+1) (j+1) _ hr]
theorem CL{l:Ln}:∀(r:List Str)(i j:Nat)(u:Option Nm),l∈mg p ln i j u r↔(∃k,k<r.length/\ln (i+k)=some l)\/l∈IC p ln i j u r
 | [],_,_,_=>⟨λh=>(by cases h),λh=>h.elim (λ⟨k,hk,_⟩=>absurd hk (Nat.not_lt_zero _)) λh=>(by cases h)⟩
 | t::r,i,j,u=>by
  have sh:(∃k,k<(t::r).length/\ln (i+k)=some l)↔ln i=some l\/∃k,k<r.length/\ln (i+1+k)=some l:=by
   constructor
   ·rintro⟨k,hk,e⟩
    cases k with
    | zero=>exact .inl e
    | succ k=>exact .inr ⟨k,by rw[S7] at hk;omega,by rw[<-e];congr 1;omega⟩
   ·rintro(e|⟨k,hk,e⟩)
    ·exact⟨0,by rw[S7];omega,e⟩
    ·exact⟨k+1,by rw[S7];omega,by rw[<-e];congr 1;omega⟩
  rw[sh]
  cases e:ln i with
  | some l'=>
   rw[(tE e).1,(tE e).2,RT,CL r (i+1) j,Option.some_inj,or_assoc]
   exact⟨λh=>h.imp (λz=>z.symm) id,λh=>h.imp (λz=>z.symm) id⟩
  | none=>
   rw[(tF e).1,(tF e).2,RT,RT,CL r (i+1) (j+1)]
   exact⟨λh=>h.elim (λz=>.inr (.inl z)) λz=>z.elim (λz=>.inl (.inr z)) λz=>.inr (.inr z),λh=>h.elim (λz=>z.elim (λz=>(by cases z)) λz=>.inr (.inl z)) λz=>z.elim .inl λz=>.inr (.inr z)⟩
theorem xc{LN:List Ln}(hk:∀s t a b,ln s=some a->ln t=some b->s<t->Ah LN a.nm b.nm):∀(r:List Str)(i j:Nat)(u:Option Nm),(∀l∈IC p ln i j u r,l∈LN)->
  (∀m,u=some m->(∃s l,s<i/\ln s=some l/\l.nm=m)\/∃l'∈LN,l'.nm=m/\∀b,ln i=some b->r≠[]->l'.lo=some b.nm)->
  (∀l∈mg p ln i j u r,∀m,u=some m->Ah LN m l.nm)/\(mg p ln i j u r).Pairwise λa b=>Ah LN a.nm b.nm
 | [],_,_,_,_,_=>⟨λl hl=>(by cases hl),List.Pairwise.nil⟩
 | t::r,i,j,u,hl,hu=>by
  cases e:ln i with
  | some l=>
   rw[(tE e).2] at hl
   rw[(tE e).1]
   have hd:∀m,u=some m->Ah LN m l.nm:=λm hm=>by
    rcases hu m hm with⟨s,l',hs,h1,rfl⟩|⟨l',h1,rfl,h2⟩
    ·exact hk s i l' l h1 e hs
    ·exact .one ⟨l',h1,.inr ⟨rfl,h2 l e (by simp)⟩⟩
   obtain⟨h1,h2⟩:=xc hk r (i+1) j (some l.nm) hl λm hm=>.inl ⟨i,l,by omega,e,aaf hm⟩
   refine⟨λo ho m hm=>?_,List.Pairwise.cons (λo ho=>h1 o ho _ rfl) h2⟩
   rcases RT.mp ho with rfl|ho
   ·exact hd m hm
   ·exact(hd m hm).trans (h1 o ho _ rfl)
  | none=>
   rw[(tF e).2] at hl
   rw[(tF e).1]
   have hn:=hl _ aae
   have hd:∀m,u=some m->Ah LN m (p,j):=λm hm=>.one ⟨_,hn,.inl ⟨rfl,hm⟩⟩
   obtain⟨h1,h2⟩:=xc hk r (i+1) (j+1) (some (p,j)) (λo ho=>hl o (Uk _ ho)) λm hm=>.inr ⟨_,hn,aaf hm,λb hb hr=>by
    show C_ _ r.length i=some b.nm
    cases r with
    | nil=>exact absurd rfl hr
    | cons t' r'=>
     rw[S7,C_]
     simp only [hb,abB]⟩
   refine⟨λo ho m hm=>?_,List.Pairwise.cons (λo ho=>h1 o ho _ rfl) h2⟩
   rcases RT.mp ho with rfl|ho
   ·exact hd m hm
   ·exact(hd m hm).trans (h1 o ho _ rfl)
end
def tr(l:Ln):Str×Nat×Str:=(l.nm.1,l.nm.2,l.tx)
section
variable{D:Dk}{s f x:Str}
structure Lo(D D':Dk)(s f x:Str)(texts:List Str):Prop where
 tx:(D'.row s f).map (·.tx)=texts
 qu:D'.pL s f=[]
theorem Gr(I:Inv D)(hs:s∈D.stores)(fresh:x∉D.names)(hq:D.pL s f=[])(texts:List Str):Lo D (D.keep s (jk x f (D.row s f) texts)) s f x texts:=by
 have I2:=I.record hs fresh hq texts
 have rise:=qx ((D.row s f).map (·.tx)) texts
 rw[Ou] at rise
 generalize eqs:K01.kept ((D.row s f).map (·.tx)) texts=qs at rise
 have rel:∀q∈qs,∃l,(D.row s f)[q.1]?=some l/\texts[q.2]?=some l.tx:=by
  have g:=K01.yp ((D.row s f).map (·.tx)) texts
  rw[eqs] at g
  have key:∀{i j qs},K01.Good ((D.row s f).map (·.tx)) texts i j qs->∀q∈qs,∃l,(D.row s f)[q.1]?=some l/\texts[q.2]?=some l.tx:=by
   intro i j qs g
   induction g with
   | nil=>intro q hq;cases hq
   | @cons i j p q r h1 h2 a e1 e2 h3 t ih=>
    intro z hz
    rcases RT.mp hz with rfl|hz
    ·rw[W3] at e1
     obtain⟨l,hl,e⟩:=Option.map_eq_some_iff.mp e1
     exact⟨l,hl,by rw[e];exact e2⟩
    ·exact ih z hz
  exact key g
 have rowL:∀l∈D.row s f,l∈fA (D.jx s) f:=λl hl=>(i5 _ f).subset ((I.lh s f).subset hl)
 have old:∀l∈D.row s f,l.nm.1≠x:=λl hl e=>by
  obtain⟨p,hp,_,h3⟩:=I.qz hl
  exact fresh (by rw[<-e,lx (I.xA p (Yj.mp hp).1) (Q3 h3)];exact Q3 (Yj.mp hp).1)
 generalize ep:jk x f (D.row s f) texts=p at I2
 have Vw:p.nm=x:=by rw[<-ep];rfl
 have Vx:p.gW=IC x (vc (D.row s f) qs) 0 0 none texts:=by
  rw[<-ep]
  show jF x texts (kA (D.row s f) (K01.kept ((D.row s f).map (·.tx)) texts))=_
  rw[eqs,NJ];rfl
 have Th:p.iU=((D.row s f).filter λl=>l.nm∉oC (D.row s f) qs).map (·.nm):=by
  rw[<-ep,<-eqs];rfl
 have Vy:p.file=some f:=by rw[<-ep];rfl
 have Y0:p.other=none:=by rw[<-ep];rfl
 have Pj:∀l∈p.gW,l.nm.1=x:=λl hl=>by
  have h:=I2.xA p (by show p∈D.made++[p];simp)
  rw[<-Vw]
  exact lx h (Q3 hl)
 have e2:(D.keep s p).jx s=D.jx s++[p]:=BG (by rw[Vw];exact fresh)
 have lp:fA (D.jx s++[p]) f=fA (D.jx s) f++p.gW:=by
  unfold fA
  rw[aay,aaR,ace,aah (by rw[aa4];exact Vy)]
  simp
 let R:=mg x (vc (D.row s f) qs) 0 0 none texts
 have Y1:∀k l,vc (D.row s f) qs k=some l->l∈D.row s f:=λk l h=>by
  obtain⟨q,_,_,h2⟩:=xb h
  exact Um h2
 have ch:R.Pairwise λa b=>Ah (fA (D.jx s) f++p.gW) a.nm b.nm:=by
  have c0:=Inv.chain hq
  refine(xc (LN:=fA (D.jx s) f++p.gW) (λa b l l' h1 h2 zU=>?_) texts 0 0 none (λl hl=>aas _ (by rw[Vx];exact hl)) (λm h=>by cases h)).2
  obtain⟨q1,m1,e1,r1⟩:=xb h1
  obtain⟨q2,m2,e2,r2⟩:=xb h2
  have jI:q1.1<q2.1:=by
   obtain⟨i,hi,ei⟩:=List.mem_iff_getElem.mp m1
   obtain⟨j,hj,ej⟩:=List.mem_iff_getElem.mp m2
   have hp:=aaQ.mp rise.1
   rcases Nat.lt_trichotomy i j with z|z|z
   ·have:=hp i j hi hj z;rw[ei,ej] at this;exact this.1
   ·subst z;rw[ei] at ej;subst ej;omega
   ·have:=hp j i hj hi z;rw[ei,ej] at this;omega
  obtain⟨g1,w1⟩:=List.getElem?_eq_some_iff.mp r1
  obtain⟨g2,w2⟩:=List.getElem?_eq_some_iff.mp r2
  have:=aaQ.mp c0 _ _ g1 g2 jI
  rw[w1,w2] at this
  exact this.mono λl hl=>aad _ hl
 have left:∀l∈D.row s f,l.nm∈oC (D.row s f) qs↔∃k,k<texts.length/\vc (D.row s f) qs (0+k)=some l:=λl hl=>by
  have nd:((D.row s f).map (·.nm)).Nodup:=((I.lh s f).map _).nodup_iff.mpr (I.Cp s f)
  constructor
  ·intro h
   obtain⟨q,hq,e⟩:=abF.mp h
   obtain⟨l',ED,e⟩:=Option.map_eq_some_iff.mp e
   have:l'=l:=by
    obtain⟨i,hi,ei⟩:=List.mem_iff_getElem.mp (Um ED)
    obtain⟨j,hj,ej⟩:=List.mem_iff_getElem.mp hl
    have:=(List.getElem_inj (i:=i) (j:=j) (h₀:=by rw[Ou];exact hi) (h₁:=by rw[Ou];exact hj) nd).mp (by rw[List.getElem_map,List.getElem_map,ei,ej];exact e)
    subst this
    rw[<-ei,<-ej]
   subst this
   exact⟨q.2,(rise.2 q hq).2,by rw[Nat.zero_add,Js rise q hq];exact ED⟩
  ·rintro⟨k,_,h⟩
   obtain⟨q,hq,_,h2⟩:=xb h
   exact abF.mpr ⟨q,hq,by rw[h2];rfl⟩
 have mem:∀l,l∈R↔l∈ik (D.jx s++[p]) f:=λl=>by
  show l∈mg x (vc (D.row s f) qs) 0 0 none texts↔_
  rw[CL]
  unfold ik
  rw[yD Y0]
  have Y2:fA (live (D.jx s)++[p]) f=fA (live (D.jx s)) f++p.gW:=by
   unfold fA
   rw[aay,aaR,ace,aah (by rw[aa4];exact Vy)]
   simp
  have gl:gone (live (D.jx s)++[p])=gone (live (D.jx s))++p.iU:=by
   unfold gone
   rw[aaR];simp
  rw[Y2,gl,Yj,Ue,aa4,Ue,<-Vx]
  have GZ:∀l,l∈D.row s f↔l∈fA (live (D.jx s)) f/\l.nm∉gone (live (D.jx s)):=λl=>by
   rw[(I.lh s f).mem_iff]
   unfold ik
   rw[Yj,aa4]
  have IU:∀m∈gone (live (D.jx s)),m.1≠x:=λm hm e=>by
   obtain⟨q,hq,hn⟩:=aaU.mp hm
   exact fresh (e▸IB I (Yj.mp ((sA _).subset hq)).1 hn)
  have L4:∀m∈p.iU,m.1≠x:=λm hm=>by
   rw[Th] at hm
   obtain⟨l,hl,rfl⟩:=aak.mp hm
   exact old l (Yj.mp hl).1
  constructor
  ·rintro(⟨k,hk,e⟩|h)
   ·have hr:=Y1 _ l e
    refine⟨.inl ((GZ l).mp hr).1,λz=>z.elim ((GZ l).mp hr).2 λz=>?_⟩
    rw[Th] at z
    obtain⟨l',ED,e'⟩:=aak.mp z
    exact aaz (Yj.mp ED).2 (by rw[e'];exact(left l hr).mpr ⟨k,hk,e⟩)
   ·exact⟨.inr h,λz=>z.elim (λz=>IU _ z (Pj l h)) λz=>L4 _ z (Pj l h)⟩
  ·rintro⟨h|h,z⟩
   ·have hr:=(GZ l).mpr ⟨h,λw=>z (.inl w)⟩
    refine .inl ((left l hr).mp ?_)
    refine Classical.byContradiction λw=>z (.inr ?_)
    rw[Th]
    exact Q3 (Yj.mpr ⟨hr,Ug w⟩)
   ·exact .inr h
 obtain⟨rk,GK⟩:=I2.KS s f
 rw[e2,lp] at GK
 have Y3:R.Nodup:=ch.imp λh e=>by rw[e] at h;exact aba _ (GK.ah h)
 have LQ:=I2.Cp s f
 rw[e2] at LQ
 have er:(D.keep s p).row s f=R:=by
  unfold Dk.row
  rw[e2,lp]
  exact Es (rk:=rk) (λm n h=>GK.ah h) LQ ((List.perm_ext_iff_of_nodup Y3 ((abx.mp LQ).imp λh e=>h (aaT _ e))).mpr mem) ch
 refine⟨?_,?_⟩
 ·rw[er]
  refine Gq texts 0 0 none λk l e hk=>?_
  rw[Nat.zero_add] at e
  obtain⟨q,hq,rfl,h2⟩:=xb e
  obtain⟨l',h3,h4⟩:=rel q hq
  rw[h2] at h3
  rw[aaf h3]
  exact h4
 ·unfold Dk.pL
  rw[er,e2,lp]
  exact CK ch
end
section
variable{D:Dk}{s t f f' x:Str}
theorem CM(I:Inv D){l l':Ln}{o:Str}(h:l∈fA (D.jx s) f)(h':l'∈fA (D.jx o) f')(e:l.nm=l'.nm):f=f':=by
 obtain⟨p,hp,hf,hl⟩:=i6.mp h
 obtain⟨p',Ry,Vz,ED⟩:=i6.mp h'
 have hm:=(Yj.mp hp).1
 have Hc:=(Yj.mp Ry).1
 have:=HV I.nd hm Hc (by rw[<-lx (I.xA p hm) (Q3 hl),<-lx (I.xA p' Hc) (Q3 ED),e])
 subst this
 rw[hf] at Vz
 exact aaf Vz
structure Cg(D:Dk)(s f x:Str)(p:Pt):Prop where
 nm:p.nm=x
 file:p.file=some f
 other:p.other=none
 iU:∀m∈p.iU,m∈(D.row s f).map (·.nm)
theorem Et(texts:List Str):Cg D s f x (jk x f (D.row s f) texts):=⟨rfl,rfl,rfl,λm hm=>by
 obtain⟨l,hl,rfl⟩:=aak.mp hm
 exact Q3 (Yj.mp hl).1⟩
theorem Cg.CN{p:Pt}(c:Cg D s f x p)(I:Inv D)(fresh:x∉D.names)(hf:f'≠f):(D.keep s p).row s f'=D.row s f'/\(D.keep s p).pL s f'=D.pL s f':=by
 have e2:(D.keep s p).jx s=D.jx s++[p]:=BG (by rw[c.nm];exact fresh)
 have n9:¬p.file=some f':=λe=>by rw[c.file] at e;exact hf (aaf e).symm
 have lp:∀ps:List Pt,fA (ps++[p]) f'=fA ps f':=λps=>by
  unfold fA
  rw[aay,aaR,YI (by rw[aa4];exact n9)]
  simp
 have st:ik (D.jx s++[p]) f'=ik (D.jx s) f':=by
  unfold ik
  rw[yD c.other,lp]
  refine List.filter_congr λl hl=>?_
  rw[decide_eq_decide]
  have gl:gone (live (D.jx s)++[p])=gone (live (D.jx s))++p.iU:=by
   unfold gone
   rw[aaR];simp
  rw[gl,Ue]
  refine⟨λh z=>h (.inl z),λh z=>z.elim h λz=>?_⟩
  obtain⟨l',ED,e⟩:=aak.mp (c.iU _ z)
  have h1:l'∈fA (D.jx s) f:=(i5 _ f).subset ((I.lh s f).subset ED)
  have h2:l∈fA (D.jx s) f':=(sC (sA _) f').subset hl
  exact hf (CM I h2 h1 e.symm)
 have er:(D.keep s p).row s f'=D.row s f':=by
  unfold Dk.row
  rw[e2,lp,st]
 refine⟨er,?_⟩
 unfold Dk.pL
 rw[er,e2,lp]
end
end PM
namespace PK
open PySem L2 PM
theorem CO{ps:List Pt}{f:Str}(h:ik ps f≠[]):f∈ps.filterMap (·.file):=by
 obtain⟨l,hl⟩:=List.exists_mem_of_ne_nil _ h
 obtain⟨p,hp,e,_⟩:=i6.mp ((i5 ps f).subset hl)
 exact abF.mpr ⟨p,hp,e⟩
theorem Gs{Z Y:Type}(f:Z->Option Y)(l:List Z):(l.filterMap f).length<=l.length:=List.length_filterMap_le _ _
structure Fl(fs:List Str)(has:Str->Prop):Prop where
 asc:Jr fs
 nd:fs.Nodup
 mem:∀f,f∈fs↔has f
theorem Fl.uniq{x y:List Str}{p:Str->Prop}(a:Fl x p)(b:Fl y p):x=y:=Gn a.asc b.asc a.nd b.nd λz=>(a.mem z).trans (b.mem z).symm
section
variable{P:Program}{w:World}{K:Qqy}{mg:Qqx}{base:Heap}{A:Ad}
def NK(A:Ad):Sp:=λvs H Q _=>∃(a:Addr)(ps:List Pt),vs=[.ref a]/\uj A H a ps/\Small ps/\ps.length<63/\∀p H' fs,fG H H'->H p=none->H' p=some (.lst (fZ fs))->Fl fs (λf=>ik ps f≠[])->Q (.ref p) H'
theorem qN(T:Txt mg)(O:Ok K mg A):gS P w K mg base lR 3 A.ma A.me ["patches"] (NK A):=by
 have kX:=@mQ P w K mg base A T O
 refine O.nZ.f.qW je λjm A0 outer s H vs Q E hr h=>?_
 obtain⟨a,ps,rfl,pa,sm,Y4,q⟩:=h
 obtain⟨as,ha,pl⟩:=id pa
 have hlen:=aaj pl
 have sz:sizeLine=16777216:=aaC
 refine⟨_,(de (y0 (j:=1) j1 (e_ iV).names [2] je.nd rfl rfl rfl (ib (pv 0)) rfl (by decide+kernel) (λ_ _ _ _=>(iI (i:=2) je.nd rfl (Or.inl rfl))) (λ_ _ _ _=>⟨_,oq (iR (j6 (fS (pv 2) rfl))),by(try simp only [j9]);rfl⟩) (λ_ _ _ _=>EB (fS (pv 2) rfl)))
   (d_ (f_ (vS j1 (e_ iV).names [3] rfl (ib (CJ rfl (by rfl) T.A8 (by rfl) T.Ni (b_ (pv 1) eV))) rfl (by decide+kernel) (λ_ _ _ _=>(iI (i:=3) je.nd rfl (Or.inl rfl))) (λ_ _ _ _=>⟨_,oq (sj (sy O.mj kX hr (b_ (pv 0) (b_ (pv 3) eV))) (λ_=>rfl)),by(try simp only [j9]);rfl⟩) (λ_ _ _ _=>EB (pv 3)))))),?_⟩
 refine Fc ?_;intro _
 refine⟨_,rfl,a,rfl,⟨_,gP.of ha⟩,kZ (K:=K) (a:=a) (xs:=as.map V.ref) (by rw[Ou,hlen];omega) (λi ys Z H3=>∃(v2:Option V),Z=[rr a,none,v2,none]/\H3=H/\ys=fZ ((ps.take i).filterMap (·.file)))
  ⟨none,rfl,rfl,rfl⟩ (by rintro _ _ _ _ _ ⟨_,_,e,e2⟩;subst e e2;exact⟨gP.of ha,by rw[Ou];exact aag (Gs _ _) (by rw[aaE];omega)⟩) ?_ ?_⟩
 ·rintro i v ys Z H3 hx ⟨v2,rfl,rfl,rfl⟩
  obtain⟨b,hb,rfl⟩:=js hx
  obtain⟨p,hp,dx,vf,pu,cu,vo,g1,g2,g3,g4,g5⟩:=g8 pl hb
  refine⟨_,rfl,b,A.fR,dx,_,_,rfl,g1,O.ir,O.iO,wI,_,rfl,?_⟩
  rw[take_snoc hp,abG]
  cases hf:p.file with
  | none=>
   rw[hf] at g2
   cases g2
   refine su (by rfl) ⟨_,rfl,rfl,?_⟩
   rw[List.filterMap_cons_none hf,List.filterMap_nil,aaB]
  | some f=>
   rw[hf] at g2
   cases g2
   refine AM (by rfl) ⟨_,rfl,b,A.fR,dx,_,_,rfl,g1,O.ir,O.iO,wI,_,rfl,rfl,?_⟩
   rw[List.filterMap_cons_some hf,List.filterMap_nil,iD]
 ·rintro ys Z H3 ⟨v2,rfl,rfl,rfl⟩ l hl
  rw[Ou,hlen,aaq]
  have s1:fG H3 (upd H3 l (.lst (fZ (ps.filterMap (·.file))))):=(fG.refl H3).new hl
  have SV:=Gs (·.file) ps
  refine⟨_,rfl,l,_,rfl,gP.of a_,by omega,λp zs hp asc nd mem zl=>?_⟩
  have s2:=s1.new (o:=.lst (zs.map V.str)) hp
  have xW:(upd (upd H3 l (.lst (fZ (ps.filterMap (·.file))))) p (.lst (zs.map V.str))) p=some (.lst (fZ zs)):=a_
  have Dx:=s1.free hp
  generalize upd (upd H3 l (.lst (fZ (ps.filterMap (·.file))))) p (.lst (zs.map V.str))=H4 at s2 xW
  refine⟨p,rfl,⟨_,gP.of xW⟩,kZ (K:=K) (a:=p) (xs:=fZ zs) (by rw[Ou];omega) (λi ys Z H5=>∃(v3:Option V),Z=[rr a,rr l,none,v3]/\fG H4 H5/\ys=fZ ((zs.take i).filter λf=>decide (ik ps f≠[])))
   ⟨none,rfl,fG.refl H4,rfl⟩ (by rintro _ _ _ _ _ ⟨_,_,e,e2⟩;subst e2;exact⟨gP.of (e _ _ xW),by rw[Ou];exact aag (aaJ _ _) (by rw[aaE];omega)⟩) ?_ ?_⟩
  ·rintro i v ys Z H5 hx ⟨v3,rfl,s5,rfl⟩
   obtain⟨f,hf,rfl⟩:=qw hx
   refine⟨_,rfl,_,rfl,a,ps,f,rfl,pa.same (s2.trans s5),sm,λr H6 s6 tJ h6=>?_⟩
   obtain⟨Y5,VA,Y6⟩:=h6
   have Ti:=aaj Y6
   rw[take_snoc hf,aay]
   by_cases hs:ik ps f=[]
   ·rw[hs] at Ti
    refine⟨false,.inl ⟨_,gP.of VA,by rw[aao.mp Ti];rfl⟩,lY ⟨_,rfl,s5.trans s6,?_⟩⟩
    rw[YI (by simpa using hs),aaW,aaB]
   ·refine⟨true,.inl ⟨_,gP.of VA,?_⟩,nv ⟨_,rfl,_,rfl,s5.trans s6,?_⟩⟩
    ·cases Y5 with
     | nil=>exact absurd (aao.mp Ti.symm) hs
     | cons=>rfl
    ·rw[W5 (by simpa using hs),aaW,iD]
  ·rintro ys Z H5 ⟨v3,rfl,s5,rfl⟩ r tJ
   rw[show(fZ zs).length=zs.length from Ou _,aaq]
   have s6:=(s2.trans s5).new (o:=.lst (fZ (zs.filter λf=>decide (ik ps f≠[])))) tJ
   refine q r _ _ s6 ((s2.trans s5).free tJ) a_ ⟨CI asc _,nd.filter _,λf=>?_⟩
   rw[Yj,mem,abw]
   exact⟨λh=>h.2,λh=>⟨CO h,h⟩⟩
def ID(A:Ad):Sp:=λvs H Q E=>∃(d:Addr)(D:Dk)(W:Addr->Prop)(s:Str),vs=[.ref d,.str s]/\i0 A H d D W/\um s/\Small D.made/\D.made.length<63/\Inv D/\(s∉D.stores->E (.ref A.iP) none H)/\(s∈D.stores->∀p H' fs,fG H H'->H p=none->H' p=some (.lst (fZ fs))->Fl fs (λf=>D.row s f≠[])->Q (.ref p) H')
theorem Gu(T:Txt mg)(O:Ok K mg A):gS P w K mg base (vt P w) 5 A.sS A.sT ["self","store"] (ID A):=by
 have kx:=@rA P w K mg base A T O
 have rQ:=@qN P w K mg base A T O
 refine O.rO.f.y9 xK λjm A0 outer s H vs Q E hr h=>?_
 obtain⟨d,D,W,st,rfl,X,hf,sm,Y4,I,qe,q⟩:=h
 obtain⟨Y,x⟩:=id X
 refine⟨_,(d_ (f_ (sy O.nZ rQ hr (b_ (KO bx (pv 0) O.g7 O.lE kx hr (b_ (pv 1) eV)) eV)))),?_⟩
 refine⟨_,rfl,d,Y.dx,_,rfl,x.hd,rn,_,rfl,d,D,W,st,rfl,X,hf,sm.many,λhs=>qe hs,λhs a H1 s1 Yz SQ=>?_⟩
 have hl:(D.jx st).length<=D.made.length:=(Inv.qy st).length_le
 refine⟨a,D.jx st,rfl,SQ,sm.sub (Inv.qy st),by omega,λp H' fs s2 hp xW F=>q hs p H' fs (s1.trans s2) (s1.free hp) xW ⟨F.asc,F.nd,λf=>(F.mem f).trans ?_⟩⟩
 have:=(I.lh st f).length_eq
 constructor
 ·exact λh z=>h (aao.mp (by rw[<-this,z];rfl))
 ·exact λh z=>h (aao.mp (by rw[this,z];rfl))
def IE:Sp:=λvs H Q _=>∃(a b:Addr)(x y:List Str),vs=[.ref a,.ref b]/\H a=some (.lst (fZ x))/\H b=some (.lst (fZ y))/\Q (.bl (decide (x=y))) H
theorem Lp:W.kitOne K (.type "list") (.type "list")=some true:=aah (by decide)
theorem Lq:W.kitOne K (.type "str") (.type "str")=some true:=aah (by decide)
theorem zR(T:Txt mg)(O:Ok K mg A):gS P w K mg base lR 1 A.nX A.nY ["found","due"] IE:=by
 refine O.ko.f.qW mG λjm A outer s H vs Q E hr h=>?_
 obtain⟨a,b,x,y,rfl,ha,hb,q⟩:=h
 refine⟨_,(de (iw ((pw_or (tM (vG (hU uM (by rfl) T.sL PyProof.Rows.boot_isinstance (b_ (pv 0) (b_ (CW (v:=.ty "list") (by rfl) T.uh abC rfl) eV))))) (pw_or1 (jo EM (hU gR (by rfl) T.q0 aaS (b_ (pv 0) eV)) (hU gR (by rfl) T.q0 aaS (b_ (pv 1) eV)) (jS _)))).pt) (d_ (f_ lH)) gQ)
   (de (ip aat rfl (ib (pv 0)) (vv 2 mG) (d_ (iw (tM (vG (hU uM (by rfl) T.sL PyProof.Rows.boot_isinstance (b_ (pv 2) (b_ (CW (v:=.ty "str") (by rfl) T.Nh PyProof.Rows.boot_str rfl) eV))))) (d_ (f_ lH)) gQ)))
   (d_ (f_ (C2 (Ca 3 (by exact Q1 hr)) (pv 0) (pv 1) (jS _)))))),?_⟩
 refine Cb ?_;intro _ _
 refine⟨_,rfl,_,_,_,_,rfl,.lst ha,Lp,_,rfl,lY ?_⟩
 refine⟨_,rfl,a,_,rfl,.inl (gP.of ha),_,rfl,b,_,rfl,.inl (gP.of hb),rfl,_,rfl,?_⟩
 refine tQ (λhc=>?_) (λhc=>?_)
 ·rw[aaa λz=>?_] at q
  ·exact q
  ·subst z;simp at hc
 ·let Jv:=λ(i:Nat) (Z:St) (H2:Hp)=>∃v,Z=[rr a,rr b,v]/\H2=H
  refine⟨_,rfl,a,rfl,⟨_,gP.of ha⟩,jh (K:=K) (a:=a) (xs:=fZ x) Jv ⟨none,rfl,rfl⟩ (by rintro _ _ _ _ ⟨_,_,e⟩;subst e;exact gP.of ha) ?_ ?_⟩
  ·rintro i v Z H2 hv ⟨u,rfl,rfl⟩
   obtain⟨z,_,rfl⟩:=qw hv
   refine⟨_,rfl,_,_,_,_,rfl,.str z,Lq,_,rfl,lY ?_⟩
   exact⟨_,rfl,rfl⟩
  ·rintro Z H2 ⟨u,rfl,rfl⟩
   exact⟨_,rfl,_,rfl,_,⟨a,b,rfl,rfl⟩,zI (gP.of ha) (gP.of hb),q⟩
end
theorem Sz.mono{k m:Nat}{D:Dk}(z:Sz k D)(h:k<=m):Sz m D:=by
 obtain⟨j,rfl⟩:=Nat.exists_eq_add_of_le h
 induction j with
 | zero=>exact z
 | succ j ih=>exact(ih (by omega)).up
theorem yE{D:Dk}{s t:Str}(h:t≠s):(D.begin s).jx t=D.jx t:=by
 unfold Dk.jx
 rw[show(D.begin s).held t=D.held t from aab h]
 rfl
theorem uu{D:Dk}{s t:Str}(h:t≠s)(f:Str):(D.begin s).row t f=D.row t f:=by
 unfold Dk.row
 rw[yE h]
structure BQ(c:Int)(a b n:Nat)(D:Dk):Prop where
 inv:Inv D
 st:D.stores=nameOf c 35::(List.range a).map λ(j:Nat)=>nameOf c j
 xA:∀x∈D.names,∃j:Int,x=nameOf c j/\(0<=j/\j<b\/10<=j/\j<10+b)
 fl:∀p∈D.made,∃j:Nat,j<b/\p.file=some (nameOf c j)
 rw:∀j:Nat,j<b->D.row (nameOf c 35) (nameOf c j)≠[]
 hl:∀j:Nat,j<a->D.held (nameOf c j)=[]
 sz:Sz n D
section
variable{c:Int}{a b n:Nat}{D:Dk}
theorem BQ.first(h:BQ c a b n D):nameOf c 35∈D.stores:=by rw[h.st];exact aae
theorem BQ.store(h:BQ c a b n D)(ha:a<=5):nameOf c a∉D.stores:=λhm=>by
 rw[h.st] at hm
 rcases RT.mp hm with e|e
 ·have:=jW (by omega) (by omega) (by omega) (by omega) e
  omega
 ·obtain⟨j,hj,e⟩:=aak.mp e
  have hj:=List.mem_range.mp hj
  have:=jW (by omega) (by omega) (by omega) (by omega) e
  omega
theorem BQ.begin(h:BQ c a b n D)(ha:a<=5)(hb:b<=6):BQ c (a+1) b n (D.begin (nameOf c a)):=by
 have CU:nameOf c 35≠nameOf c a:=λe=>by
  have:=jW (by omega) (by omega) (by omega) (by omega) e
  omega
 refine⟨h.inv.begin (h.store ha),?_,h.xA,h.fl,λj hj=>?_,λj hj=>?_,⟨h.sz.many,h.sz.gW,h.sz.iU⟩⟩
 ·show D.stores++[_]=_
  rw[h.st,ack,aai]
  rfl
 ·rw[uu CU]
  exact h.rw j hj
 ·show(if nameOf c j=nameOf c a then[] else D.held (nameOf c j))=[]
  split
  ·rfl
  ·rename_i n9
   exact h.hl j (by
    by_cases e:j=a
    ·subst e;exact absurd rfl n9
    ·omega)
theorem BQ.fresh(h:BQ c a b n D){j:Int}(hj:0<=j/\j<36)(h1:¬(j<b))(h2:¬(10<=j/\j<10+b))(hb:b<=6):nameOf c j∉D.names:=λhm=>by
 obtain⟨i,e,hi⟩:=h.xA _ hm
 have:=jW (by omega) (by omega) (by omega) (by omega) e
 omega
theorem BQ.new(h:BQ c a b n D)(hb:b<=5):(∀p∈D.made,p.file≠some (nameOf c b)):=λp hp e=>by
 obtain⟨j,hj,e2⟩:=h.fl p hp
 rw[e] at e2
 have:=jW (by omega) (by omega) (by omega) (by omega) (aaf e2)
 omega
theorem BQ.record(h:BQ c a b n D){b' i:Nat}{j:Int}{t:Str}{r:List Str}(ha:a<=6)(hb:b<=b')(Mi:b'<=5)(hj:0<=j/\j<b'\/10<=j/\j<10+b')(fresh:nameOf c j∉D.names)(hi:i<b')(hk:∀k,k<b'->k<b\/k=i)(hq:D.pL (nameOf c 35) (nameOf c i)=[])(hr:r.length<=2) :
  BQ c a b' (n+1) (D.keep (nameOf c 35) (jk (nameOf c j) (nameOf c i) (D.row (nameOf c 35) (nameOf c i)) (t::r)))/\Lo D (D.keep (nameOf c 35) (jk (nameOf c j) (nameOf c i) (D.row (nameOf c 35) (nameOf c i)) (t::r))) (nameOf c 35) (nameOf c i) (nameOf c j) (t::r):=by
 have R:=Gr h.inv h.first fresh hq (t::r)
 have CU:∀k:Nat,k<6->nameOf c k≠nameOf c 35:=λk hk e=>by
  have:=jW (by omega) (by omega) (by omega) (by omega) e
  omega
 refine⟨⟨h.inv.record h.first fresh hq _,h.st,λx hx=>?_,λp hp=>?_,λk Pe=>?_,λk Pe=>?_,?_⟩,R⟩
 ·rw[wX] at hx
  rcases Ue.mp hx with hx|hx
  ·obtain⟨i,e,z⟩:=h.xA x hx
   exact⟨i,e,by omega⟩
  ·exact⟨j,Oy.mp hx,hj⟩
 ·rcases Ue.mp hp with hp|hp
  ·obtain⟨i,z,e⟩:=h.fl p hp
   exact⟨i,by omega,e⟩
  ·rw[Oy.mp hp]
   exact⟨i,hi,rfl⟩
 ·by_cases e:k=i
  ·subst e
   intro z
   have:=R.tx
   rw[z] at this
   cases this
  ·have n9:nameOf c k≠nameOf c i:=λz=>by
    have:=jW (by omega) (by omega) (by omega) (by omega) z
    omega
   rw[((Et (D:=D) (s:=nameOf c 35) (f:=nameOf c i) (x:=nameOf c j) (t::r)).CN h.inv fresh n9).1]
   exact h.rw k ((hk k Pe).resolve_right e)
 ·show(if nameOf c k=nameOf c 35 then _ else D.held (nameOf c k))=[]
  rw[aab (CU k (by omega))]
  exact h.hl k Pe
 ·obtain⟨l1,l2⟩:=tq (x:=nameOf c j) (f:=nameOf c i) (row:=D.row (nameOf c 35) (nameOf c i)) (texts:=t::r)
  have:=h.sz.row h.inv (nameOf c 35) (nameOf c i)
  exact h.sz.keep _ (by rw[S7] at l1;omega) (by omega)
end
section
variable{P:Program}{w:World}{K:Qqy}{mg:Qqx}{base:Heap}{A:Ad}
def IF(A:Ad):Sp:=λvs H Q _=>∃(d:Addr)(D:Dk)(W:Addr->Prop)(s x f:Str),vs=[.ref d,.str s,.str x,.str f]/\i0 A H d D W/\Inv D/\Small D.made/\(D.made.flatMap (·.gW)).length<=1000/\Good s/\Good x/\Good f/\s∈D.stores/\x∈D.names/\D.stores.length<1000/\∀H',fG H H'->Q (.int 2) H'
theorem Gv(T:Txt mg)(O:Ok K mg A):gS P w K mg base lR 8 A.sU A.sV ["desk","store","patch","file"] (IF A):=by
 have ky:=@Bz P w K mg base A T O
 have k9:=@yB P w K mg base A T O
 refine O.wH.f.qW k8 λjm A0 outer s H vs Q E hr h=>?_
 obtain⟨d,D,W,st,x,f,rfl,X,I,sm,hp,gs,gx,gf,hs,hx,hl,q⟩:=h
 obtain⟨Y,y⟩:=id X
 refine⟨_,(de (nA 4 k8 fJ)
  (de (Fh ⟨rfl,rfl,rfl⟩ O.mL.m (by rfl) (λZ0 pn E' EX hp=>(d_ (gY (AJ (pv 0) O.g7 O.kR.t ky (hr.mono (by decide)) O.kR.b .nil hp (b_ (pv 1) eV))))) (λe=>(d_ (nA 4 k8 (gU iS (pv 4) fJ)))))
  (de (Fh ⟨rfl,rfl,rfl⟩ O.mL.m (by rfl) (λZ0 pn E' EX hp=>(d_ (gY (AJ (pv 0) O.g7 O.lj.t k9 (hr.mono (by decide)) O.lj.b .nil hp (b_ (pv 1) (b_ (pv 2) (b_ (pv 3) (b_ (jq (b_ jC (b_ jC (b_ jC eV)))) eV)))))))) (λe=>(d_ (nA 4 k8 (gU iS (pv 4) fJ)))))
  (d_ (f_ (pv 4)))))),?_⟩
 refine L9 ?_;intro _ _ _
 refine⟨rfl,_,rfl,d,Y.dx,_,rfl,y.hd,tj,_,rfl,d,D,W,st,rfl,X,gs.wW,hl,λh=>absurd gs h,λ_ _=>?_,λ_ h=>absurd hs h⟩
 refine⟨_,rfl,O.jQ,?_⟩
 refine⟨_,rfl,_,_,rfl,rfl,?_⟩
 refine⟨rfl,_,rfl,d,Y.dx,_,rfl,y.hd,uo,_,rfl,_,rfl,_,rfl,L2.lU,λt ht=>?_⟩
 have s1:fG H (upd H t (.lst (fZ [Str.ofString "b",Str.ofString "b",Str.ofString "b"]))):=(fG.refl H).new ht
 refine⟨d,t,D,W,st,x,f,[Str.ofString "b",Str.ofString "b",Str.ofString "b"],rfl,X.same s1,I,sm,hp,gs.wW,gx.wW,gf.wW,a_,by decide,λh=>absurd hs h,λ_ h=>absurd ⟨gx,gf⟩ h,λ_ _ _ _ H' s'=>?_,λ_ _ _ h=>absurd hx h,λ_ _ _ h=>absurd hx h,λ_ _ _ h=>absurd hx h⟩
 refine⟨_,rfl,O.jQ,?_⟩
 refine⟨_,rfl,_,_,rfl,rfl,?_⟩
 exact⟨_,rfl,q _ (s1.trans s')⟩
noncomputable def An(c:Int)(m:Nat):List Str:=(List.range m).map λ(j:Nat)=>nameOf c j
theorem Gw(c:Int)(m:Nat):An c (m+1)=An c m++[nameOf c m]:=by
 unfold An
 rw[ack,aai]
 rfl
theorem Lr(c:Int){m:Nat}(h:m<=5):(An c m).Nodup:=by
 unfold An
 refine abx.mpr (List.Pairwise.imp_of_mem (λ{a b} ha hb n9 e=>n9 ?_) List.nodup_range)
 have ha:=List.mem_range.mp ha
 have hb:=List.mem_range.mp hb
 have:=jW (by omega) (by omega) (by omega) (by omega) e
 omega
theorem IG{c:Int}{m:Nat}{x:Str}:x∈An c m↔∃j:Nat,j<m/\x=nameOf c j:=by
 unfold An
 rw[aak]
 exact⟨λ⟨j,hj,e⟩=>⟨j,List.mem_range.mp hj,e.symm⟩,λ⟨j,hj,e⟩=>⟨j,List.mem_range.mpr hj,e.symm⟩⟩
structure qI(A:Ad)(H0:Hp)(c:Int)(d ss ps fs:Addr)(a b n:Nat)(D:Dk)(ls lp lf:List Str)(R H:Hp)(W:Addr->Prop):Prop where
 ap:Apart R H
 same:fG H0 H
 uv:i0 A H d D W
 wn:∀b,W b->H0 b=none
 r:BQ c a b n D
 ls:R ss=some (.lst (fZ ls))
 lp:R ps=some (.lst (fZ lp))
 lf:R fs=some (.lst (fZ lf))
 n1:ss≠ps
 n2:ss≠fs
 n3:ps≠fs
section
variable{H0 R H:Hp}{c:Int}{d ss ps fs p t:Addr}{a b n:Nat}{D:Dk}{ls lp lf:List Str}{W:Addr->Prop}{Q:VK}{o:HO}
theorem qI.alloc(h:qI A H0 c d ss ps fs a b n D ls lp lf R H W)(hp:ov R H p=none):upd (ov R H) p o=ov R (upd H p o)/\qI A H0 c d ss ps fs a b n D ls lp lf R (upd H p o) W:=by
 obtain⟨h1,h2⟩:=kr hp
 exact⟨Lm h1,h.ap.new h1,h.same.new h2,h.uv.same ((fG.refl H).new h2),h.wn,h.r,h.ls,h.lp,h.lf,h.n1,h.n2,h.n3⟩
theorem qI.at(h:qI A H0 c d ss ps fs a b n D ls lp lf R H W){xs:List V}(e:R p=some (.lst xs)):H p=none:=h.ap.iQ _ _ e
theorem qI.NL(h:qI A H0 c d ss ps fs a b n D ls lp lf R H W)(l:List Str):qI A H0 c d ss ps fs a b n D l lp lf (upd R ss (.lst (fZ l))) H W:=
 ⟨h.ap.put (h.at h.ls) _,h.same,h.uv,h.wn,h.r,a_,by rw[c_ h.n1.symm];exact h.lp,by rw[c_ h.n2.symm];exact h.lf,h.n1,h.n2,h.n3⟩
theorem qI.NM(h:qI A H0 c d ss ps fs a b n D ls lp lf R H W)(l:List Str):qI A H0 c d ss ps fs a b n D ls l lf (upd R ps (.lst (fZ l))) H W:=
 ⟨h.ap.put (h.at h.lp) _,h.same,h.uv,h.wn,h.r,by rw[c_ h.n1];exact h.ls,a_,by rw[c_ h.n3.symm];exact h.lf,h.n1,h.n2,h.n3⟩
theorem qI.iZ(h:qI A H0 c d ss ps fs a b n D ls lp lf R H W)(l:List Str):qI A H0 c d ss ps fs a b n D ls lp l (upd R fs (.lst (fZ l))) H W:=
 ⟨h.ap.put (h.at h.lf) _,h.same,h.uv,h.wn,h.r,by rw[c_ h.n2];exact h.ls,by rw[c_ h.n3];exact h.lp,a_,h.n1,h.n2,h.n3⟩
theorem qI.NN(h:qI A H0 c d ss ps fs a b n D ls lp lf R H W){H':Hp}(s:Dh W H H'):fG H0 H':=λb o e=>s b o (h.same _ _ e) λhb=>by rw[h.wn b hb] at e;cases e
theorem qI.small(h:qI A H0 c d ss ps fs a b n D ls lp lf R H W)(hn:n<=20):Small D.made/\(D.made.flatMap (·.gW)).length<=1000/\D.made.length<63:=by
 have:=h.r.sz.gW
 have:=h.r.sz.many
 exact⟨h.r.sz.small (by omega),by omega,by omega⟩
theorem qI.PB(h:qI A H0 c d ss ps fs a b n D ls lp lf R H W)(ha:a<=6):D.stores.length<1000:=by
 rw[h.r.st,S7,Ou,aa2];omega
theorem qI.go(h:qI A H0 c d ss ps fs a b n D ls lp lf R H W){H':Hp}(s:fG H H')(ap:Apart R H'){n':Nat}(hn:n<=n'):qI A H0 c d ss ps fs a b n' D ls lp lf R H' W:=
 ⟨ap,h.same.trans s,h.uv.same s,h.wn,⟨h.r.inv,h.r.st,h.r.xA,h.r.fl,h.r.rw,h.r.hl,h.r.sz.mono hn⟩,h.ls,h.lp,h.lf,h.n1,h.n2,h.n3⟩
theorem qI.begin(h:qI A H0 c d ss ps fs a b n D ls lp lf R H W)(ha:a<=5)(hb:b<=6)(q:∀H' W',qI A H0 c d ss ps fs (a+1) b n (D.begin (nameOf c a)) ls lp lf R H' W'->Q .iQ (ov R H')) :
  xa (λvs H Q x=>Dj A vs H Q E0) [.ref d,.str (nameOf c a)] (ov R H) Q E0:=by
 have g:=kW c a
 refine⟨R,H,h.ap,rfl,d,D,W,nameOf c a,rfl,h.uv,g.wW,h.PB (by omega),λz=>absurd g z,λ_ z=>absurd z (h.r.store ha),λ_ _ H' W' X' s' hW Hg=>?_⟩
 exact q H' W' ⟨Hg,h.NN s',X',λb hb=>(hW b hb).elim (h.wn b) λz=>h.same.free z,h.r.begin ha hb,h.ls,h.lp,h.lf,h.n1,h.n2,h.n3⟩
theorem qI.record(h:qI A H0 c d ss ps fs a b n D ls lp lf R H W){b' i:Nat}{j:Int}{x:Str}{r:List Str}(hn:n<=20)(ha:a<=6)(hb:b<=b')(Mi:b'<=5)(hj:0<=j/\j<b'\/10<=j/\j<10+b')(fresh:nameOf c j∉D.names)(hi:i<b')(hk:∀k,k<b'->k<b\/k=i)(hq:D.pL (nameOf c 35) (nameOf c i)=[])(hr:r.length<=2)
  (ht:H t=some (.lst (fZ (x::r)))) (n9:(D.row (nameOf c 35) (nameOf c i)).map (·.tx)≠x::r)
  (q:∀H' D',D'.names=D.names++[nameOf c j]->D'.stores=D.stores->Lo D D' (nameOf c 35) (nameOf c i) (nameOf c j) (x::r)->qI A H0 c d ss ps fs a b' (n+1) D' ls lp lf R H' W->Q .iQ (ov R H')) :
  xa (λvs H Q x=>Jp A vs H Q E0) [.ref d,.str (nameOf c 35),.str (nameOf c j),.str (nameOf c i),.ref t] (ov R H) Q E0:=by
 have g:=kW c 35
 have gj:=kW c j
 have gi:=kW c i
 obtain⟨m1,m2,_⟩:=h.small hn
 obtain⟨r1,r2⟩:=h.r.record (t:=x) ha hb Mi hj fresh hi hk hq hr
 refine⟨R,H,h.ap,rfl,d,t,D,W,_,_,_,x::r,rfl,h.uv,h.r.inv,m1,m2,g.wW,gj.wW,gi.wW,ht,by rw[S7];omega,λz=>absurd h.r.first z,λ_ z=>absurd ⟨gj,gi⟩ z,λ_ _ _ z=>absurd z fresh,λ_ _ _ _ z=>absurd hq z,λ_ _ _ _ _ z=>absurd z n9,λ_ _ _ _ _ _ H' X' s' Hg=>?_⟩
 exact q H' (D.keep (nameOf c 35) (jk (nameOf c j) (nameOf c i) (D.row (nameOf c 35) (nameOf c i)) (x::r))) (wX _ _ _) rfl r2 ⟨Hg,h.NN s',X',h.wn,r1,h.ls,h.lp,h.lf,h.n1,h.n2,h.n3⟩
end
def Ds(K:Qqy):Sp:=λvs H Q _=>∃(a:Addr)(ns:List Int),vs=[.ref a]/\gP K H a (ns.map V.int)/\ns.length<=63/\∀H',Q (.bl true) H'
theorem Ls{f:Addr}{fd:FuncData}(F:uK K "law" "law" FK f fd)(T:Txt mg)(O:Ok K mg A):gS P w K mg base lR 20 f fd ["script"] (Ds K):=by
 have vj:=@zF P w K mg base A T O
 have ky:=(@Bz P w K mg base A T O).QT.xa
 have k9:=(@yB P w K mg base A T O).QT.xa
 have x4:=@Ei P w K mg base A T O
 have xh:=@CD P w K mg base A T O
 have tK:=(@Gu P w K mg base A T O).QT
 have jJ:=@Iv P w K mg base A T O
 have qp:=@Iw P w K mg base A T O
 have kY:=@zR P w K mg base A T O
 have zX:=(@Gv P w K mg base A T O).xa
 refine F.qW oR λjm A0 outer s H vs Q E hr h=>?_
 obtain⟨a,ns,rfl,ha,hn,q⟩:=h
 have sz:sizeLine=16777216:=aaC
 refine⟨_,(de (nA 1 oR (ET O.KY vj (hr.mono (by decide)) rfl O.KZ O.rj.b .nil pe))
   (de (nA 2 oR (sy O.qB qp hr (b_ (gU mS (sy O.jO jJ hr (b_ (pv 0) (b_ fJ eV))) fJ) (b_ fJ eV))))
   (de (gY (HL (pv 1) O.g7 O.kR ky hr (b_ (pv 2) eV)))
   (de (nA 3 oR (jq (b_ (pv 2) eV)))
   (de (nA 4 oR (jq eV))
   (de (nA 5 oR (jq eV))
   (de (ip aat rfl (nq rfl T.qA (b_ (gU iS fJ (gU mS (sy O.jO jJ hr (b_ (pv 0) (b_ fJ eV))) fJ)) eV)) (vv 6 oR) (de (nA 7 oR (sy O.qB qp hr (b_ (gU mS (sy O.jO jJ hr (b_ (pv 0) (b_ fJ eV))) fJ) (b_ (pv 6) eV))))
   (de (nA 8 oR (gU mS (sy O.jO jJ hr (b_ (pv 0) (b_ (gU iS fJ (pv 6)) eV))) fJ))
   (de (y8 (iw (jo uF (pv 8) fJ (jS _)) (de (iw (iR (j6 (HL (pv 1) O.g7 O.kR ky hr (b_ (pv 7) eV)))) (d_ (f_ lH)) gQ)
   (d_ (gY (lI aap aaw aax iA (pv 3) (b_ (pv 7) eV))))) gQ))
   (de (iw (iR (j6 (HL (pv 1) O.g7 O.lj k9 hr (b_ (pv 2) (b_ (pv 7) (b_ (pv 7) (b_ (jq (b_ (pv 7) eV)) eV))))))) (d_ (f_ lH)) gQ)
   (de (gY (lI aap aaw aax iA (pv 4) (b_ (pv 7) eV)))
   (de (gY (lI aap aaw aax iA (pv 5) (b_ (pv 7) eV)))
   (de (y8 (iw (jo MO (pv 8) fJ (jS _)) (de (iw (iR (j6 (HL (pv 1) O.g7 O.kR ky hr (b_ (pv 7) eV)))) (d_ (f_ lH)) gQ)
   (d_ (gY (lI aap aaw aax iA (pv 3) (b_ (pv 7) eV))))) gQ))
   (de (y8 (iw (jo uF (pv 8) fJ (jS _)) (de (gY (lI aap aaw aax iA (pv 4) (b_ (sy O.qB qp hr (b_ (gU mS (sy O.jO jJ hr (b_ (pv 0) (b_ fJ eV))) fJ) (b_ (gU iS fJ (pv 6)) eV))) eV)))
   (d_ (iw (iR (j6 (HL (pv 1) O.g7 O.lj k9 hr (b_ (pv 2) (b_ (G8 (pv 4) (si om fJ)) (b_ (pv 7) (b_ (jq (b_ (pv 7) (b_ (pv 7) eV))) eV))))))) (d_ (f_ lH)) gQ))) gQ))
   (d_ (iw (jo EM (sy O.wH zX hr (b_ (pv 1) (b_ (pv 7) (b_ (pv 7) (b_ (pv 7) eV))))) fJ (jS _)) (d_ (f_ lH)) gQ)))))))))))
   (de (iw ((pw_or (tM (vG (sy O.ko kY hr (b_ (vN (pv 1) O.g7 O.p_.t x4 (hr.mono (by decide)) O.p_.b .nil pe) (b_ (pv 3) eV))))) (pw_or1 (tM (vG (sy O.ko kY hr (b_ (vN (pv 1) O.g7 O.oS.t xh (hr.mono (by decide)) O.oS.b .nil pe) (b_ (pv 4) eV))))))).pt) (d_ (f_ lH)) gQ)
   (d_ (f_ (JY (sy O.ko kY hr (b_ (HL (pv 1) O.g7 O.rO tK hr (b_ (pv 2) eV)) (b_ (hU BE (by rfl) T.A8 PyProof.Rows.boot_sorted (b_ (pv 5) eV)) eV))) (JX (C2 (Ca 9 (by exact Q1 hr)) (HL (pv 1) O.g7 O.rO tK hr (b_ (G8 (pv 3) (si om fJ)) eV)) (jq eV) (jS _)))))))))))))),?_⟩
 refine WX ?_;intro _ _ _ _ _ _ _ _
 intro d px nd SR nxd
 refine⟨d,px,rfl,a_,λH1 W X1 hW k1=>⟨rfl,?_⟩⟩
 have s0:fG H (upd (upd H px (.own d)) d (.ins A.fI px [])):=λb o e=>by rw[c_ (fz e nd),c_ (fz e SR)];exact e
 have s1:fG H H1:=λb o e=>k1 b o (s0 b o e) (fz e nd)
 have VB:∀b,W b->H b=none:=λb hb=>s0.free (hW b hb)
 refine⟨_,rfl,a,ns,0,rfl,vD ha s1,by decide,_,_,rfl,rfl,(by show(0:Int)<20736;decide),_,_,rfl,?_⟩
 have hc:cellAt ns 0%20736=Lj ns 0:=rfl
 dsimp only
 rw[hc]
 generalize Lj ns 0=c at hc
 have Tj:=kW c 35
 obtain⟨Y,y⟩:=id X1
 refine⟨_,rfl,d,Y.dx,_,rfl,y.hd,tj,_,rfl,λ_=>none,H1,Apart.nil,rfl,d,Me,W,nameOf c 35,rfl,X1,Tj.wW,by show 0<1000;decide,λh=>absurd Tj h,(λ_ h=>by cases h),λ_ _ H2 W2 X2 s2 Y7 _=>?_⟩
 have s3:fG H H2:=λb o e=>s2 b o (s1 _ _ e) λhb=>by rw[VB b hb] at e;cases e
 have Y8:∀b,W2 b->H b=none:=λb hb=>(Y7 b hb).elim (VB b) λz=>s1.free z
 have R0:BQ c 0 0 0 (Me.begin (nameOf c 35)):=⟨Rc.begin (by intro h;cases h),rfl,(λx hx=>by cases hx),(λp hp=>by cases hp),(λj hj=>absurd hj (Nat.not_lt_zero _)),(λj hj=>absurd hj (Nat.not_lt_zero _)),⟨Q2 _,Q2 _,Q2 _⟩⟩
 refine⟨_,rfl,L2.lU,λss Y9=>⟨L2.lU,λps VC=>⟨L2.lU,λfs Ex=>?_⟩⟩⟩
 rw[ml] at VC
 rw[ml,ml] at Ex
 rw[ml,ml,ml]
 obtain⟨_,Tn⟩:=kr Y9
 obtain⟨Pk,To⟩:=kr VC
 obtain⟨IV,Tp⟩:=kr Ex
 have n1:ss≠ps:=λe=>by rw[<-e,a_] at Pk;cases Pk
 have n3:ps≠fs:=λe=>by rw[<-e,a_] at IV;cases IV
 have n2:ss≠fs:=λe=>by rw[<-e,c_ n1,a_] at IV;cases IV
 have W0:qI A H c d ss ps fs 0 0 0 (Me.begin (nameOf c 35)) [nameOf c 35] [] (An c 0) (upd (upd (upd (λ_=>none) ss (.lst [V.str (nameOf c 35)])) ps (.lst [])) fs (.lst [])) H2 W2:=
  ⟨((Apart.nil.put Tn _).put To _).put Tp _,s3,X2,Y8,R0,by rw[c_ n2,c_ n1];exact a_,by rw[c_ n3];exact a_,a_,n1,n2,n3⟩
 generalize (upd (upd (upd (λ_=>none) ss (.lst [V.str (nameOf c 35)])) ps (.lst [])) fs (.lst []))=R at W0
 have bm:=mod_lt (cellAt ns 1) 5 (by decide)
 refine⟨_,rfl,a,ns,1,rfl,vD ha (s3.trans W0.ap.same),by decide,_,_,rfl,rfl,(by show(0:Int)<5;decide),_,_,rfl,rfl,?_⟩
 obtain⟨m,hm⟩:∃m:Nat,1+cellAt ns 1%5=(m:Int):=⟨_,(Int.toNat_of_nonneg (by omega)).symm⟩
 rw[hm]
 refine⟨_,rfl,by omega,by omega,?_⟩
 rw[acb]
 let Jv:=λ(i:Nat) (Z:St) (H7:Hp)=>∃(v6 v7 v8:Option V)(R Hd:Hp)(D:Dk)(W:Addr->Prop),Z=[rr a,rr d,rs (nameOf c 35),rr ss,rr ps,rr fs,v6,v7,v8]/\H7=ov R Hd/\qI A H c d ss ps fs i i (2*i) D D.stores D.names (An c i) R Hd W
 refine lT Jv
  ⟨none,none,none,R,H2,_,W2,rfl,rfl,W0⟩ ?_ ?_
 ·rintro i Z H7 hi ⟨v6,v7,v8,R,Hd,D,W,rfl,rfl,w⟩
  rw[show(0:Int)+(i:Int)=(i:Int) by omega]
  have VD:=vD ha (w.same.trans w.ap.same)
  refine⟨_,rfl,a,ns,0,rfl,VD,by decide,_,_,rfl,rfl,(by show(0:Int)<20736;decide),_,rfl,_,_,rfl,?_⟩
  rw[hc]
  refine⟨_,rfl,_,rfl,_,_,rfl,rfl,a,ns,_,rfl,VD,by omega,_,_,rfl,rfl,(by show(0:Int)<3;decide),?_⟩
  have bw:=mod_lt (cellAt ns (2+(i:Int))) 3 (by decide)
  generalize cellAt ns (2+(i:Int))%3=wv at bw
  refine⟨λZ H8=>∃(R Hd:Hp)(D:Dk)(W:Addr->Prop),Z=[rr a,rr d,rs (nameOf c 35),rr ss,rr ps,rr fs,ri i,rs (nameOf c i),ri wv]/\H8=ov R Hd/\qI A H c d ss ps fs (if wv=0 then i+1 else i) i (2*i) D D.stores D.names (An c i) R Hd W,?_,?_⟩
  ·refine⟨_,rfl,rfl,_,rfl,?_⟩
   refine tQ (λh=>?_) (λh=>?_)
   ·have h:wv=0:=V.int.inj (aaz h)
    obtain⟨Y,y⟩:=id w.uv
    refine⟨_,rfl,d,Y.dx,_,rfl,w.ap.at y.hd,tj,_,rfl,w.begin (by omega) (by omega) λH8 W8 w8=>?_⟩
    refine⟨_,rfl,su (by rfl) ?_⟩
    refine⟨_,rfl,.inl ⟨rfl,_,gP.of (jv w8.ls)⟩,_,rfl,ss,_,_,rfl,rfl,jv w8.ls,by rw[Ou];have:=w.PB (by omega);omega,?_⟩
    rw[ml,iD]
    exact⟨_,H8,_,W8,rfl,rfl,by rw[aah h];exact w8.NL _⟩
   ·have h:¬wv=0:=λz=>h (Ug (aaT V.int z))
    exact⟨R,Hd,D,W,rfl,rfl,by rw[aab h];exact w⟩
  rintro Z H8 ⟨R,Hd,D,W,rfl,rfl,w⟩
  obtain⟨Y,y⟩:=id w.uv
  refine⟨_,rfl,d,Y.dx,_,rfl,w.ap.at y.hd,uo,_,rfl,_,rfl,_,rfl,_,rfl,L2.lU,λt ht=>?_⟩
  obtain⟨e1,w1⟩:=w.alloc (o:=.lst [V.str (nameOf c i)]) ht
  rw[e1]
  have new:=w.r.new (by omega)
  refine w1.record (b':=i+1) (i:=i) (j:=i) (x:=nameOf c i) (r:=[]) (by omega) (by split<;>omega) (by omega) (by omega) (.inl ⟨by omega,by omega⟩) (w.r.fresh ⟨by omega,by omega⟩ (by omega) (by omega) (by omega)) (by omega) (λk hk=>by omega) (Gp w.r.inv new) (by decide) a_ (by rw[zQ w.r.inv new];simp) λH9 D9 Mw Tq R9 w9=>?_
  refine⟨_,rfl,su (by rfl) ?_⟩
  have vd:(fZ D.names).length<sizeLine:=by rw[Ou];have:=w.r.sz.many;unfold Dk.names;rw[Ou];omega
  refine⟨_,rfl,.inl ⟨rfl,_,gP.of (jv w9.lp)⟩,_,rfl,ps,_,_,rfl,rfl,jv w9.lp,vd,?_⟩
  rw[ml,iD]
  have Tr:=w9.NM (D.names++[nameOf c i])
  refine⟨_,rfl,.inl ⟨rfl,_,gP.of (jv Tr.lf)⟩,_,rfl,fs,_,_,rfl,rfl,jv Tr.lf,by rw[Ou];unfold An;rw[Ou,aa2];omega,?_⟩
  rw[ml,iD]
  have G0:=Tr.iZ (An c i++[nameOf c i])
  rw[<-Gw] at G0 ⊢
  rw[<-Mw] at G0 ⊢
  rw[<-Tq] at G0
  generalize upd (upd R ps (.lst (fZ D9.names))) fs (.lst (fZ (An c (i+1))))=R2 at G0
  have L5:nameOf c (10+(i:Int))∉D9.names:=λhm=>by
   rw[Mw] at hm
   rcases Ue.mp hm with hm|hm
   ·exact w.r.fresh (j:=10+(i:Int)) ⟨by omega,by omega⟩ (by omega) (by omega) (by omega) hm
   ·have:=jW (by omega) (by omega) (by omega) (by omega) (Oy.mp hm)
    omega
  have fin:nameOf c i∈D9.names:=by rw[Mw];exact aas _ (Oy.mpr rfl)
  refine⟨λZ H8=>∃(R Hd:Hp)(D:Dk)(W:Addr->Prop),Z=[rr a,rr d,rs (nameOf c 35),rr ss,rr ps,rr fs,ri i,rs (nameOf c i),ri wv]/\H8=ov R Hd/\qI A H c d ss ps fs (i+1) (i+1) (2*i+1) D D.stores D.names (An c (i+1)) R Hd W/\(D.row (nameOf c 35) (nameOf c i)).map (·.tx)=[nameOf c i]/\D.pL (nameOf c 35) (nameOf c i)=[]/\nameOf c (10+(i:Int))∉D.names/\nameOf c i∈D.names,?_,?_⟩
  ·refine⟨_,rfl,_,_,rfl,rfl,_,rfl,?_⟩
   refine tQ (λh=>?_) (λh=>?_)
   ·have h:0<wv:=aaz h
    rw[aab (by omega)] at G0
    obtain⟨Y,y⟩:=id G0.uv
    refine⟨_,rfl,d,Y.dx,_,rfl,G0.ap.at y.hd,tj,_,rfl,G0.begin (by omega) (by omega) λH8 W8 w8=>?_⟩
    refine⟨_,rfl,su (by rfl) ?_⟩
    refine⟨_,rfl,.inl ⟨rfl,_,gP.of (jv w8.ls)⟩,_,rfl,ss,_,_,rfl,rfl,jv w8.ls,by rw[Ou];have:=G0.PB (by omega);omega,?_⟩
    rw[ml,iD]
    have CU:nameOf c 35≠nameOf c i:=λe=>by
     have:=jW (by omega) (by omega) (by omega) (by omega) e
     omega
    refine⟨_,H8,_,W8,rfl,rfl,w8.NL _,?_,?_,L5,fin⟩
    ·rw[uu CU];exact R9.tx
    ·unfold Dk.pL;rw[uu CU,yE CU];exact R9.qu
   ·have h:wv=0:=by
     have:¬0<wv:=λz=>h (Ug z)
     omega
    rw[aah h] at G0
    exact⟨_,H9,D9,W,rfl,rfl,G0,R9.tx,R9.qu,L5,fin⟩
  rintro Z H8 ⟨R,Hd,D,W,rfl,rfl,w,Qg,Y_,L5,fin⟩
  have Za:=vD ha (w.same.trans w.ap.same)
  refine⟨λZ H8=>∃(R Hd:Hp)(D:Dk)(W:Addr->Prop),Z=[rr a,rr d,rs (nameOf c 35),rr ss,rr ps,rr fs,ri i,rs (nameOf c i),ri wv]/\H8=ov R Hd/\qI A H c d ss ps fs (i+1) (i+1) (2*i+2) D D.stores D.names (An c (i+1)) R Hd W/\nameOf c i∈D.names,?_,?_⟩
  ·refine⟨_,rfl,rfl,_,rfl,?_⟩
   refine tQ (λh=>?_) (λh=>?_)
   ·have vd:(fZ D.names).length<sizeLine:=by rw[Ou];have:=w.r.sz.many;unfold Dk.names;rw[Ou];omega
    refine⟨_,rfl,.inl ⟨rfl,_,gP.of (jv w.lp)⟩,_,rfl,a,ns,0,rfl,Za,by decide,_,_,rfl,rfl,(by show(0:Int)<20736;decide),_,rfl,_,_,rfl,rfl,_,_,rfl,ps,_,_,rfl,rfl,jv w.lp,vd,?_⟩
    rw[ml,hc,iD]
    have w2:=w.NM (D.names++[nameOf c (10+(i:Int))])
    generalize upd R ps (.lst (fZ (D.names++[nameOf c (10+(i:Int))])))=R2 at w2
    obtain⟨Y,y⟩:=id w2.uv
    refine⟨_,rfl,d,Y.dx,_,rfl,w2.ap.at y.hd,uo,_,rfl,_,rfl,_,rfl,ps,_,_,_,rfl,rfl,gP.of (jv w2.lp),(by rw[<-iD];exact vO _ _),_,rfl,_,rfl,_,rfl,L2.lU,λt ht=>?_⟩
    obtain⟨e1,w3⟩:=w2.alloc (o:=.lst [V.str (nameOf c i),V.str (nameOf c i)]) ht
    rw[e1]
    refine w3.record (b':=i+1) (i:=i) (j:=10+(i:Int)) (x:=nameOf c i) (r:=[nameOf c i]) (by omega) (by omega) (by omega) (by omega) (.inr ⟨by omega,by omega⟩) L5 (by omega) (λk hk=>by omega) Y_ (by simp) a_ (by rw[Qg];simp) λH9 D9 Mw Tq R9 w9=>?_
    refine⟨_,rfl,su (by rfl) ?_⟩
    rw[<-Mw,<-Tq] at w9
    exact⟨_,H9,D9,W,rfl,rfl,w9,by rw[Mw];exact aad _ fin⟩
   ·exact⟨R,Hd,D,W,rfl,rfl,w.go (fG.refl _) w.ap (by omega),fin⟩
  rintro Z H8 ⟨R,Hd,D,W,rfl,rfl,w,Ha⟩
  have g:=kW c i
  obtain⟨m1,m2,_⟩:=w.small (by omega)
  refine⟨_,rfl,_,rfl,_,rfl,_,rfl,R,Hd,w.ap,rfl,d,D,W,nameOf c i,nameOf c i,nameOf c i,rfl,w.uv,w.r.inv,m1,m2,g,g,g,(by rw[w.r.st];exact Uk _ (aak.mpr ⟨i,List.mem_range.mpr (by omega),rfl⟩)),Ha,w.PB (by omega),λH9 s9 Zb=>?_⟩
  refine⟨rfl,_,rfl,su (by rfl) ?_⟩
  exact⟨_,_,_,R,H9,D,W,rfl,rfl,w.go s9 Zb (by omega)⟩
 ·rintro Z H7 ⟨v6,v7,v8,R,Hd,D,W,rfl,rfl,w⟩
  have X:=w.uv.same w.ap.same
  obtain⟨Y,y⟩:=id X
  obtain⟨m1,m2,m3⟩:=w.small (by omega)
  refine⟨_,rfl,d,Y.dx,_,rfl,y.hd,Eh,d,D,W,rfl,X,λp1 xW=>?_⟩
  have s1:=(fG.refl (ov R Hd)).new (o:=.lst (fZ D.stores)) xW
  have Pl:upd (ov R Hd) p1 (.lst (fZ D.stores)) p1=some (.lst (fZ D.stores)):=a_
  generalize upd (ov R Hd) p1 (.lst (fZ D.stores))=H1 at s1 Pl
  refine⟨_,rfl,p1,ss,D.stores,D.stores,rfl,Pl,s1 _ _ (jv w.ls),?_⟩
  refine⟨_,rfl,su (by simp) ?_⟩
  refine⟨_,rfl,d,Y.dx,_,rfl,s1 _ _ y.hd,CC,d,D,W,rfl,X.same s1,λp2 zS=>?_⟩
  have s2:=s1.new (o:=.lst (fZ D.names)) zS
  have Pm:upd H1 p2 (.lst (fZ D.names)) p2=some (.lst (fZ D.names)):=a_
  generalize upd H1 p2 (.lst (fZ D.names))=H2 at s2 Pm
  refine⟨_,rfl,p2,ps,D.names,D.names,rfl,Pm,s2 _ _ (jv w.lp),?_⟩
  refine⟨_,rfl,su (by simp) ?_⟩
  refine⟨_,rfl,d,Y.dx,_,rfl,s2 _ _ y.hd,Bu,_,rfl,d,D,W,nameOf c 35,rfl,X.same s2,Tj.wW,m1,m3,w.r.inv,λh=>absurd w.r.first h,λ_ p3 H3 fl s3 hp3 Ts F=>?_⟩
  have VE:=s2.trans s3
  have OT:(An c m).length=m:=by unfold An;rw[Ou,aa2]
  refine⟨_,rfl,fs,An c m,rfl,gP.of (VE _ _ (jv w.lf)),by omega,λl zs hl hz az=>?_⟩
  have s4:=VE.new (o:=.lst (zs.map V.str)) hl
  have JJ:=jD (u:=.lst (zs.map V.str)) hl Ts
  have VF:upd H3 l (.lst (zs.map V.str)) l=some (.lst (fZ zs)):=a_
  generalize upd H3 l (.lst (zs.map V.str))=H4 at s4 JJ VF
  have e:fl=zs:=F.uniq ⟨az,hz.nodup_iff.mpr (Lr c (by omega)),λf=>by
   rw[hz.mem_iff,IG]
   constructor
   ·rintro⟨j,hj,rfl⟩
    exact w.r.rw j hj
   ·intro h
    refine Classical.byContradiction λz=>h (zQ w.r.inv λp hp e=>?_)
    obtain⟨j,hj,e2⟩:=w.r.fl p hp
    rw[e] at e2
    exact z ⟨j,hj,aaf e2⟩⟩
  subst e
  refine⟨p3,l,fl,fl,rfl,JJ,VF,?_⟩
  refine⟨_,rfl,AM (by simp) ?_⟩
  obtain⟨k,rfl⟩:∃k,m=k+1:=⟨m-1,by omega⟩
  have gk:=kW c k
  have yH:D.stores=(nameOf c 35::(List.range k).map λ(j:Nat)=>nameOf c j)++[nameOf c k]:=by
   rw[w.r.st,ack,aai]
   rfl
  have OB:nameOf c k∈D.stores:=by rw[yH];exact aas _ (Oy.mpr rfl)
  refine⟨_,rfl,d,Y.dx,_,rfl,s4 _ _ y.hd,Bu,_,rfl,_,rfl,ss,_,_,_,rfl,rfl,gP.of (s4 _ _ (jv w.ls)),(by rw[yH,<-iD];exact vO _ _),d,D,W,nameOf c k,rfl,X.same s4,gk.wW,m1,m3,w.r.inv,λh=>absurd OB h,λ_ p5 H5 f5 s5 Qf Tt F5=>?_⟩
  have e5:f5=[]:=List.eq_nil_iff_forall_not_mem.mpr λz hz=>(F5.mem z).mp hz (by
   have:D.jx (nameOf c k)=[]:=by
    unfold Dk.jx
    rw[w.r.hl k (by omega)]
    exact ab1.mpr λp _=>by simp
   unfold Dk.row
   rw[this]
   rfl)
  subst e5
  refine⟨L2.lU,λp6 Zc=>?_⟩
  have Tu:=jD (u:=.lst []) Zc Tt
  exact⟨_,⟨p5,p6,rfl,rfl⟩,zI (x:=[]) (y:=[]) (gP.of Tu) (gP.of a_),q _⟩
end
end PK
namespace TW
open PySem PySem.W L2 PK
noncomputable section
noncomputable abbrev S:=Str.ofString
noncomputable abbrev ob:=Obj.mk
noncomputable abbrev v(x:String)(t:Nat):Value:=.str (S x) t
noncomputable abbrev r:=Value.ref
noncomputable abbrev vi:=Value.int
noncomputable abbrev i(n:Int):=Value.int n 0
noncomputable abbrev vn:=Value.none
noncomputable abbrev w:=Value.type
noncomputable abbrev b:=Value.builtin
noncomputable abbrev vl:=Value.bool
noncomputable abbrev cl:=ClassData.mk
noncomputable abbrev k:=@some Value
noncomputable abbrev d(P:Params)(x:String)(t:Nat)(y:Value):DictEntry:=.mk (PyData.keyHash P (S x)) (v x t) y
noncomputable abbrev x:=top
noncomputable abbrev y(i j:Nat):=inClass (top i) j
noncomputable abbrev n:=BT.node
noncomputable abbrev z:=BT.nil
noncomputable abbrev f(o:Obj):BT:=n o z z
noncomputable abbrev of(c:String)(l:List Value):Obj:=ob (w c) none (.fields l.toArray) #[]
noncomputable abbrev tp(l:List Value):Obj:=ob (w "tuple") none (.seq l.toArray 0) #[]
noncomputable abbrev fl(l:List Value):Obj:=ob vn none (.fields l.toArray) #[]
noncomputable abbrev l3(l:List (Int×Int×Addr)):Obj:=fl (l.flatMap λ(a,b,c)=>[i a,i b,r c])
noncomputable abbrev fd(n q:Str)(st:Stmt)(g:Addr)(c:List (Str×Addr))(d kd doc pm:Value)(an:Option Addr)(co ct:Value)(b:Addr):FuncData:=⟨n,q,mx st,.stmts (jX st),e_ st,g,c,d,kd,doc,pm,an,co,ct,b⟩
noncomputable abbrev fn(a b:String)(st:Stmt)(m:String)(t:Nat)(c:Addr):Obj:=ob (w "function") none (.func (fd (S a) (S b) st 3 [] vn vn vn (v m t) none (r c) vn 0)) #[]
noncomputable abbrev fv(a b:String)(st:Stmt):Obj:=ob vn none (.func (fd (S a) (S b) st 0 [] vn vn vn vn none vn vn 0)) #[]
noncomputable abbrev dt(l:List DictEntry)(c:Nat):Obj:=ob (w "dict") none (.dict l.toArray c) #[]
noncomputable abbrev fr(l:List (Option Value)):Obj:=ob (w "frame") none .plain l.toArray
noncomputable abbrev ty(c:ClassData)(l:List (Option Value)):Obj:=ob (w "type") none (.cls c) l.toArray
noncomputable abbrev o0:Addr->Value|0=>vn|a+1=>r (a+1)
noncomputable abbrev co(a b:String)(t:Nat)(l p q:Int)(c:Addr)(g:Int)(ys:List Addr)(u:Nat):Obj:=of "code" ([v a t,v b (t+1),v "/claim/cut.py" (t+2),i l,i p,i 0,i 0,i q,r c,vl true,i g]++ys.map o0++[i u,i l,v "/claim/cut.py" (u+1)])
def gC(P:Params):List DictEntry:=[(d P "__doc__" 166 vn),(d P "__package__" 167 vn),(d P "__loader__" 168 (b "__main__.__loader__#opaque")),(d P "__spec__" 169 vn),(d P "__annotations__" 170 (r 6)),(d P "__builtins__" 171 (r 4)),(d P "__file__" 173 (v "/claim/cut.py" 172)),(d P "__cached__" 174 vn),(d P "_wall" 193 (r 21)),(d P "counts_with" 206 (r 28)),(d P "most_pairs" 212 (r 33)),(d P "place_from" 222 (r 40)),(d P "kept" 235 (r 47)),(d P "PatchError" 255 (r 57))]
def gD(P:Params):List DictEntry:=gC P++[(d P "BadName" 271 (r 70))]
def gE(P:Params):List DictEntry:=gD P++[(d P "NameTaken" 287 (r 82))]
def gF(P:Params):List DictEntry:=gE P++[(d P "NoStore" 303 (r 94))]
def gG(P:Params):List DictEntry:=gF P++[(d P "Unsettled" 319 (r 106))]
def gH(P:Params):List DictEntry:=gG P++[(d P "Same" 335 (r 118))]
def gI(P:Params):List DictEntry:=gH P++[(d P "Line" 372 (r 137))]
def gJ(P:Params):List DictEntry:=gI P++[(d P "Patch" 409 (r 158)),(d P "lines_named_by" 415 (r 167)),(d P "leans_straight_on" 421 (r 172)),(d P "live_patches" 431 (r 179)),(d P "lines_put" 441 (r 186)),(d P "standing_lines" 447 (r 191)),(d P "files_with_lines" 453 (r 196))]
def gK(P:Params):List DictEntry:=gJ P++[(d P "straight_ahead" 462 (r 203)),(d P "joined" 472 (r 210)),(d P "all_ahead" 478 (r 215)),(d P "first_free" 486 (r 222)),(d P "row_of" 492 (r 227))]
def gL(P:Params):List DictEntry:=gK P++[(d P "Sight" 556 (r 272)),(d P "NAME_SIGNS" 560 (v "abcdefghijklmnopqrstuvwxyz0123456789" 559)),(d P "LONGEST_NAME" 562 (vi 12 561))]
def gM(P:Params):List DictEntry:=gL P++[(d P "check_name" 570 (r 283)),(d P "kept_behind" 580 (r 290)),(d P "new_lines" 594 (r 297)),(d P "changing_patch" 600 (r 302))]
def gN(P:Params):List DictEntry:=gM P++[(d P "Desk" 813 (r 465))]
def gO(P:Params):List DictEntry:=gN P++[(d P "_law_cell_at" 823 (r 476)),(d P "_law_name" 837 (r 483)),(d P "_law_names_are" 846 (r 490)),(d P "_law_taken" 857 (r 497)),(d P "law" 872 (r 504))]
def aa:Obj:=tp []
def ab:Obj:=fl []
def ac:Obj:=of "builtin_function_or_method" [(b "type.__prepare__"),(w "type")]
def ad:Obj:=tp [(r 57)]
def ae:Obj:=of "code" [(v "<module>" 182),(v "<module>" 183),(v "/claim/cut.py" 184),(i 1),(i 0),(i 0),(i 0),(i 0),(r 11),(vl false),(i 181),(r 12),vn,vn,vn,vn,(i 185),(i 1),(v "/claim/cut.py" 186)]
def af:Obj:=fr [(k (r 13)),(k (r 3)),(k (r 3)),none,(k (v "__main__" 164)),none,(k (r 0))]
def ag:Obj:=fn "kept" "kept" (x 5) "patchkin.differ" 194 46
def ai:Obj:=co "place_from" "place_from" 213 18 3 3 34 181 [35,0,36,37,38] 220
def aj:Obj:=co "counts_with" "counts_with" 196 5 3 3 22 181 [23,0,24,25,26] 204
def al:Obj:=tp [(v "old" 226),(v "new" 227),(v "table" 228),(v "pairs" 229),(v "start" 230),(v "first" 231),(v "second" 232)]
def am:Obj:=tp [(v "k" 190)]
def an:Obj:=fn "most_pairs" "most_pairs" (x 3) "patchkin.differ" 194 32
def ao:Obj:=fn "_wall" "_wall" (x 0) "__main__" 164 20
def ap:Obj:=co "most_pairs" "most_pairs" 207 13 2 3 29 181 [30,0,0,0,31] 210
def aq:Obj:=tp [(w "ValueError")]
def ar:Obj:=tp [(v "text" 199),(v "new" 200),(v "below" 201),(v "counts" 202),(v "second" 203)]
def au:Obj:=fn "place_from" "place_from" (x 4) "patchkin.differ" 194 39
def av(P:Params):Obj:=dt [(d P "__module__" 245 (v "patchkin.errors" 236)),(d P "__firstlineno__" 249 (vi 34 248)),(d P "__static_attributes__" 250 (r 55)),(d P "__weakref__" 252 (r 58)),(d P "__doc__" 253 vn)] 3
def aw:Obj:=co "_wall" "_wall" 187 1 1 3 15 181 [16,0,17,18,19] 191
def ax:Obj:=tp [(v "texts" 216),(v "text" 217),(v "start" 218),(v "place" 219)]
def ay:Obj:=fn "counts_with" "counts_with" (x 2) "patchkin.differ" 194 27
def az:Obj:=of "getset_descriptor" [(v "__weakref__" 251),(r 57),(b "ExceptionGroup.__weakref__"),vn]
def aA:Obj:=co "kept" "kept" 223 23 2 3 41 181 [42,0,43,44,45] 233
def aB:Obj:=fv "most_pairs" "most_pairs" (x 3)
def aC:Obj:=fv "_wall" "_wall" (x 0)
def aD:Obj:=of "super" [(r 57),(r 57),(r 57)]
def aE(P:Params):Obj:=dt [(d P "__module__" 263 (v "patchkin.errors" 236)),(d P "__firstlineno__" 267 (vi 36 266)),(d P "__static_attributes__" 268 (r 68)),(d P "__doc__" 269 vn)] 2
def aF:Obj:=of "code" [(v "PatchError" 240),(v "PatchError" 241),(v "/claim/cut.py" 242),(i 34),(i 0),(i 0),(i 0),(i 0),(r 51),(vl false),(i 181),(r 52),vn,vn,vn,vn,(i 243),(i 34),(v "/claim/cut.py" 244)]
def aG:Obj:=fv "kept" "kept" (x 5)
def aH:Obj:=of "builtin_function_or_method" [(b "object.__init_subclass__"),(r 57)]
def aI(P:Params):Obj:=dt [(d P "__module__" 245 (v "patchkin.errors" 236)),(d P "__qualname__" 247 (v "PatchError" 246)),(d P "__firstlineno__" 249 (vi 34 248)),(d P "__static_attributes__" 250 (r 55))] 4
def aJ:Obj:=fv "counts_with" "counts_with" (x 2)
def aK:Obj:=fv "place_from" "place_from" (x 4)
def aL:Obj:=ty (cl (S "BadName") [(r 57)] [(r 70),(r 57),(w "ValueError"),(w "Exception"),(w "BaseException"),(w "object")] 69 (S "BadName") true [] [] false none false) [(k (r 61)),none,(k (v "BadName" 256)),(k (v "BadName" 264)),(k (b "ValueError.__new__")),(k (vl true))]
def aM:Obj:=fr [(k (r 53)),(k (r 3)),(k (r 50)),none,(k (v "patchkin.errors" 236)),none,(k (r 0))]
def aN(P:Params):Obj:=dt [(d P "__module__" 263 (v "patchkin.errors" 236)),(d P "__qualname__" 265 (v "BadName" 264)),(d P "__firstlineno__" 267 (vi 36 266)),(d P "__static_attributes__" 268 (r 68))] 4
def aO:Obj:=of "super" [(r 70),(r 70),(r 70)]
def aP:Obj:=fr [(k (r 66)),(k (r 3)),(k (r 63)),none,(k (v "patchkin.errors" 236)),none,(k (r 0))]
def aQ(P:Params):Obj:=dt [(d P "__module__" 279 (v "patchkin.errors" 236)),(d P "__firstlineno__" 283 (vi 38 282)),(d P "__static_attributes__" 284 (r 80)),(d P "__doc__" 285 vn)] 2
def aR:Obj:=of "builtin_function_or_method" [(b "object.__init_subclass__"),(r 70)]
def aS:Obj:=of "code" [(v "BadName" 258),(v "BadName" 259),(v "/claim/cut.py" 260),(i 36),(i 0),(i 0),(i 0),(i 0),(r 64),(vl false),(i 181),(r 65),vn,vn,vn,vn,(i 261),(i 36),(v "/claim/cut.py" 262)]
def aT:Obj:=ty (cl (S "NameTaken") [(r 57)] [(r 82),(r 57),(w "ValueError"),(w "Exception"),(w "BaseException"),(w "object")] 81 (S "NameTaken") true [] [] false none false) [(k (r 73)),none,(k (v "NameTaken" 272)),(k (v "NameTaken" 280)),(k (b "ValueError.__new__")),(k (vl true))]
def aU:Obj:=fr [(k (r 78)),(k (r 3)),(k (r 75)),none,(k (v "patchkin.errors" 236)),none,(k (r 0))]
def aV:Obj:=of "super" [(r 82),(r 82),(r 82)]
def aW(P:Params):Obj:=dt [(d P "__module__" 279 (v "patchkin.errors" 236)),(d P "__qualname__" 281 (v "NameTaken" 280)),(d P "__firstlineno__" 283 (vi 38 282)),(d P "__static_attributes__" 284 (r 80))] 4
def aX(P:Params):Obj:=dt [(d P "__module__" 295 (v "patchkin.errors" 236)),(d P "__firstlineno__" 299 (vi 40 298)),(d P "__static_attributes__" 300 (r 92)),(d P "__doc__" 301 vn)] 2
def aY:Obj:=of "builtin_function_or_method" [(b "object.__init_subclass__"),(r 82)]
def aZ:Obj:=of "code" [(v "NameTaken" 274),(v "NameTaken" 275),(v "/claim/cut.py" 276),(i 38),(i 0),(i 0),(i 0),(i 0),(r 76),(vl false),(i 181),(r 77),vn,vn,vn,vn,(i 277),(i 38),(v "/claim/cut.py" 278)]
def a0:Obj:=ty (cl (S "NoStore") [(r 57)] [(r 94),(r 57),(w "ValueError"),(w "Exception"),(w "BaseException"),(w "object")] 93 (S "NoStore") true [] [] false none false) [(k (r 85)),none,(k (v "NoStore" 288)),(k (v "NoStore" 296)),(k (b "ValueError.__new__")),(k (vl true))]
def a1:Obj:=of "super" [(r 94),(r 94),(r 94)]
def a2(P:Params):Obj:=dt [(d P "__module__" 295 (v "patchkin.errors" 236)),(d P "__qualname__" 297 (v "NoStore" 296)),(d P "__firstlineno__" 299 (vi 40 298)),(d P "__static_attributes__" 300 (r 92))] 4
def a3:Obj:=fr [(k (r 90)),(k (r 3)),(k (r 87)),none,(k (v "patchkin.errors" 236)),none,(k (r 0))]
def a4(P:Params):Obj:=dt [(d P "__module__" 311 (v "patchkin.errors" 236)),(d P "__firstlineno__" 315 (vi 42 314)),(d P "__static_attributes__" 316 (r 104)),(d P "__doc__" 317 vn)] 2
def a5:Obj:=of "builtin_function_or_method" [(b "object.__init_subclass__"),(r 94)]
def a6:Obj:=ty (cl (S "Unsettled") [(r 57)] [(r 106),(r 57),(w "ValueError"),(w "Exception"),(w "BaseException"),(w "object")] 105 (S "Unsettled") true [] [] false none false) [(k (r 97)),none,(k (v "Unsettled" 304)),(k (v "Unsettled" 312)),(k (b "ValueError.__new__")),(k (vl true))]
def a7:Obj:=of "code" [(v "NoStore" 290),(v "NoStore" 291),(v "/claim/cut.py" 292),(i 40),(i 0),(i 0),(i 0),(i 0),(r 88),(vl false),(i 181),(r 89),vn,vn,vn,vn,(i 293),(i 40),(v "/claim/cut.py" 294)]
def a8:Obj:=fr [(k (r 102)),(k (r 3)),(k (r 99)),none,(k (v "patchkin.errors" 236)),none,(k (r 0))]
def a9(P:Params):Obj:=dt [(d P "__module__" 311 (v "patchkin.errors" 236)),(d P "__qualname__" 313 (v "Unsettled" 312)),(d P "__firstlineno__" 315 (vi 42 314)),(d P "__static_attributes__" 316 (r 104))] 4
def ba:Obj:=of "super" [(r 106),(r 106),(r 106)]
def bb:Obj:=ty (cl (S "PatchError") [(w "ValueError")] [(r 57),(w "ValueError"),(w "Exception"),(w "BaseException"),(w "object")] 56 (S "PatchError") true [] [(r 70),(r 82),(r 94),(r 106),(r 118)] false none false) [(k (r 48)),none,(k (v "PatchError" 238)),(k (v "PatchError" 246)),(k (b "ValueError.__new__")),(k (vl true))]
def bc(P:Params):Obj:=dt [(d P "__module__" 327 (v "patchkin.errors" 236)),(d P "__firstlineno__" 331 (vi 44 330)),(d P "__static_attributes__" 332 (r 116)),(d P "__doc__" 333 vn)] 2
def be:Obj:=of "builtin_function_or_method" [(b "object.__init_subclass__"),(r 106)]
def bf:Obj:=of "code" [(v "Unsettled" 306),(v "Unsettled" 307),(v "/claim/cut.py" 308),(i 42),(i 0),(i 0),(i 0),(i 0),(r 100),(vl false),(i 181),(r 101),vn,vn,vn,vn,(i 309),(i 42),(v "/claim/cut.py" 310)]
def bg:Obj:=ty (cl (S "Same") [(r 57)] [(r 118),(r 57),(w "ValueError"),(w "Exception"),(w "BaseException"),(w "object")] 117 (S "Same") true [] [] false none false) [(k (r 109)),none,(k (v "Same" 320)),(k (v "Same" 328)),(k (b "ValueError.__new__")),(k (vl true))]
def bh(P:Params):Obj:=dt [(d P "__module__" 327 (v "patchkin.errors" 236)),(d P "__qualname__" 329 (v "Same" 328)),(d P "__firstlineno__" 331 (vi 44 330)),(d P "__static_attributes__" 332 (r 116))] 4
def bi:Obj:=tp [(v "lower_name" 361),(v "name" 362),(v "text" 363),(v "upper_name" 364)]
def bj:Obj:=of "super" [(r 118),(r 118),(r 118)]
def bl:Obj:=fr [(k (r 114)),(k (r 3)),(k (r 111)),none,(k (v "patchkin.errors" 236)),none,(k (r 0))]
def bm:Obj:=of "getset_descriptor" [(v "__weakref__" 368),(r 137),(b "ExceptionGroup.__weakref__"),vn]
def bn:Obj:=ty (cl (S "Line") [(w "object")] [(r 137),(w "object")] 136 (S "Line") true [] [] false none false) [none,none,(k (v "Line" 338)),(k (v "Line" 346)),(k (b "object.__new__")),(k (vl true))]
def bo:Obj:=co "__init__" "Line.__init__" 350 49 5 3 128 181 [129,0,130,131,132] 358
def bp(P:Params):Obj:=dt [(d P "__module__" 345 (v "patchkin.order" 336)),(d P "__firstlineno__" 349 (vi 47 348)),(d P "__init__" 360 (r 134)),(d P "__static_attributes__" 365 (r 135)),(d P "__dict__" 367 (r 138)),(d P "__weakref__" 369 (r 139)),(d P "__doc__" 370 vn)] 4
def bq:Obj:=of "builtin_function_or_method" [(b "object.__init_subclass__"),(r 118)]
def br:Obj:=tp [(v "self" 353),(v "name" 354),(v "text" 355),(v "upper_name" 356),(v "lower_name" 357)]
def bt:Obj:=of "code" [(v "Same" 322),(v "Same" 323),(v "/claim/cut.py" 324),(i 44),(i 0),(i 0),(i 0),(i 0),(r 112),(vl false),(i 181),(r 113),vn,vn,vn,vn,(i 325),(i 44),(v "/claim/cut.py" 326)]
def bu:Obj:=of "getset_descriptor" [(v "__dict__" 366),(r 137),(b "function.__dict__"),(b "function.__dict__#set")]
def bv:Obj:=fn "__init__" "Line.__init__" (y 14 0) "patchkin.order" 336 133
def bw:Obj:=fr [(k (r 126)),(k (r 3)),(k (r 123)),none,(k (v "patchkin.order" 336)),none,(k (r 0))]
def bz:Obj:=fn "standing_lines" "standing_lines" (x 20) "patchkin.order" 336 190
def bA:Obj:=of "getset_descriptor" [(v "__dict__" 403),(r 158),(b "function.__dict__"),(b "function.__dict__#set")]
noncomputable def bB:Obj:=tp [(v "patches" 425),(v "taken_back" 426),(v "live" 427),(v "patch" 428)]
def bC:Obj:=fn "lines_named_by" "lines_named_by" (x 16) "patchkin.order" 336 166
def bD:Obj:=tp [(v "self" 388),(v "name" 389),(v "file" 390),(v "puts" 391),(v "cuts" 392),(v "other" 393)]
def bE:Obj:=co "files_with_lines" "files_with_lines" 448 95 1 3 192 181 [193,0,0,0,194] 451
def bF:Obj:=fn "live_patches" "live_patches" (x 18) "patchkin.order" 336 178
def bG:Obj:=co "leans_straight_on" "leans_straight_on" 416 68 1 3 168 181 [169,0,0,0,170] 419
def bH:Obj:=fn "__init__" "Patch.__init__" (y 15 0) "patchkin.order" 336 154
def bI(P:Params):Obj:=dt [(d P "__module__" 345 (v "patchkin.order" 336)),(d P "__qualname__" 347 (v "Line" 346)),(d P "__firstlineno__" 349 (vi 47 348)),(d P "__init__" 360 (r 134)),(d P "__static_attributes__" 365 (r 135))] 5
def bJ:Obj:=co "lines_put" "lines_put" 432 82 2 3 180 181 [181,0,182,183,184] 439
def bL:Obj:=of "builtin_function_or_method" [(b "object.__init_subclass__"),(r 137)]
def bM(P:Params):Obj:=dt [(d P "__module__" 380 (v "patchkin.order" 336)),(d P "__firstlineno__" 384 (vi 54 383)),(d P "__init__" 396 (r 155)),(d P "__static_attributes__" 402 (r 156)),(d P "__dict__" 404 (r 159)),(d P "__weakref__" 406 (r 160)),(d P "__doc__" 407 vn)] 4
def bN:Obj:=l3 [(49,4,133)]
def bO:Obj:=of "getset_descriptor" [(v "__weakref__" 405),(r 158),(b "ExceptionGroup.__weakref__"),vn]
def bP:Obj:=fv "__init__" "Line.__init__" (y 14 0)
def bQ:Obj:=fn "files_with_lines" "files_with_lines" (x 21) "patchkin.order" 336 195
def bR:Obj:=of "super" [(r 137),(r 137),(r 137)]
def bS:Obj:=fn "leans_straight_on" "leans_straight_on" (x 17) "patchkin.order" 336 171
def bT:Obj:=tp [(v "cuts" 397),(v "file" 398),(v "name" 399),(v "other" 400),(v "puts" 401)]
def bU:Obj:=co "live_patches" "live_patches" 422 73 1 3 173 181 [174,0,175,176,177] 429
def bV:Obj:=co "__init__" "Patch.__init__" 385 56 6 3 149 181 [150,0,151,152,153] 394
def bW:Obj:=fn "lines_put" "lines_put" (x 19) "patchkin.order" 336 185
def bX:Obj:=co "lines_named_by" "lines_named_by" 410 62 1 3 163 181 [164,0,0,0,165] 413
def bY:Obj:=tp [(v "patches" 435),(v "file" 436),(v "lines" 437),(v "patch" 438)]
def bZ:Obj:=ty (cl (S "Patch") [(w "object")] [(r 158),(w "object")] 157 (S "Patch") true [] [] false none false) [none,none,(k (v "Patch" 373)),(k (v "Patch" 381)),(k (b "object.__new__")),(k (vl true))]
def b0:Obj:=of "code" [(v "Line" 340),(v "Line" 341),(v "/claim/cut.py" 342),(i 47),(i 0),(i 0),(i 0),(i 0),(r 124),(vl false),(i 181),(r 125),vn,vn,vn,vn,(i 343),(i 47),(v "/claim/cut.py" 344)]
def b1:Obj:=co "standing_lines" "standing_lines" 442 88 2 3 187 181 [188,0,0,0,189] 445
def b2:Obj:=tp [(v "lines" 457),(v "straight" 458),(v "line" 459)]
def b3:Obj:=fn "all_ahead" "all_ahead" (x 24) "patchkin.order" 336 214
def b4:Obj:=fn "row_of" "row_of" (x 26) "patchkin.order" 336 226
def b5:Obj:=of "code" [(v "Patch" 375),(v "Patch" 376),(v "/claim/cut.py" 377),(i 54),(i 0),(i 0),(i 0),(i 0),(r 145),(vl false),(i 181),(r 146),vn,vn,vn,vn,(i 378),(i 54),(v "/claim/cut.py" 379)]
def b6:Obj:=fn "straight_ahead" "straight_ahead" (x 22) "patchkin.order" 336 202
def b7:Obj:=of "super" [(r 158),(r 158),(r 158)]
def b8:Obj:=co "joined" "joined" 463 108 2 3 204 181 [205,0,206,207,208] 470
def b9:Obj:=fv "live_patches" "live_patches" (x 18)
def ca:Obj:=fv "__init__" "Patch.__init__" (y 15 0)
def cb:Obj:=fv "lines_named_by" "lines_named_by" (x 16)
def cc:Obj:=co "first_free" "first_free" 479 130 1 3 216 181 [217,0,218,219,220] 484
def cd:Obj:=fv "standing_lines" "standing_lines" (x 20)
def ce(P:Params):Obj:=dt [(d P "__module__" 380 (v "patchkin.order" 336)),(d P "__qualname__" 382 (v "Patch" 381)),(d P "__firstlineno__" 384 (vi 54 383)),(d P "__init__" 396 (r 155)),(d P "__static_attributes__" 402 (r 156))] 5
def cf:Obj:=fv "lines_put" "lines_put" (x 19)
def cg:Obj:=fr [(k (r 147)),(k (r 3)),(k (r 144)),none,(k (v "patchkin.order" 336)),none,(k (r 0))]
def ch:Obj:=fv "files_with_lines" "files_with_lines" (x 21)
def ci:Obj:=of "builtin_function_or_method" [(b "object.__init_subclass__"),(r 158)]
def cj:Obj:=co "row_of" "row_of" 487 135 2 3 223 181 [224,0,0,0,225] 490
def ck:Obj:=l3 [(56,4,154)]
def cm:Obj:=fn "joined" "joined" (x 23) "patchkin.order" 336 209
def cn:Obj:=co "straight_ahead" "straight_ahead" 454 98 1 3 197 181 [198,0,199,200,201] 460
def cp:Obj:=fv "leans_straight_on" "leans_straight_on" (x 17)
def cq:Obj:=tp [(v "waiting" 482),(v "name" 483)]
def cr:Obj:=co "all_ahead" "all_ahead" 473 114 1 3 211 181 [212,0,0,0,213] 476
def cs:Obj:=tp [(v "names" 466),(v "ahead" 467),(v "found" 468),(v "name" 469)]
def ct:Obj:=fn "first_free" "first_free" (x 25) "patchkin.order" 336 221
def cu:Obj:=fn "quarrelling" "Sight.quarrelling" (y 27 2) "patchkin.order" 336 254
def cv(P:Params):Obj:=dt [(d P "__module__" 500 (v "patchkin.order" 336)),(d P "__firstlineno__" 504 (vi 150 503)),(d P "__init__" 513 (r 241)),(d P "is_ahead" 522 (r 248)),(d P "quarrelling" 532 (r 255)),(d P "most_from" 539 (r 262)),(d P "staying" 546 (r 269)),(d P "__static_attributes__" 549 (r 270)),(d P "__dict__" 551 (r 273)),(d P "__weakref__" 553 (r 274)),(d P "__doc__" 554 vn)] 4
def cw:Obj:=co "is_ahead" "Sight.is_ahead" 514 156 3 3 242 181 [243,0,244,245,246] 520
def cx:Obj:=tp [(v "self" 526),(v "pairs" 527),(v "first" 528),(v "second" 529)]
def cy:Obj:=fv "row_of" "row_of" (x 26)
def cz:Obj:=of "getset_descriptor" [(v "__dict__" 550),(r 272),(b "function.__dict__"),(b "function.__dict__#set")]
def cA:Obj:=fn "__init__" "Sight.__init__" (y 27 0) "patchkin.order" 336 240
def cB:Obj:=tp [(v "self" 543)]
def cC:Obj:=fv "straight_ahead" "straight_ahead" (x 22)
def cD:Obj:=co "most_from" "Sight.most_from" 533 167 1 3 256 181 [257,0,258,259,260] 537
def cE:Obj:=fv "all_ahead" "all_ahead" (x 24)
def cF:Obj:=fn "staying" "Sight.staying" (y 27 4) "patchkin.order" 336 268
def cG:Obj:=tp [(v "self" 508),(v "patches" 509),(v "file" 510)]
def cH:Obj:=ty (cl (S "Sight") [(w "object")] [(r 272),(w "object")] 271 (S "Sight") true [] [] false none false) [none,none,(k (v "Sight" 493)),(k (v "Sight" 501)),(k (b "object.__new__")),(k (vl true))]
def cI:Obj:=fv "joined" "joined" (x 23)
def cJ:Obj:=co "__init__" "Sight.__init__" 505 152 3 3 235 181 [236,0,237,238,239] 511
def cK:Obj:=fn "is_ahead" "Sight.is_ahead" (y 27 1) "patchkin.order" 336 247
def cL:Obj:=tp [(v "self" 517),(v "first" 518),(v "second" 519)]
def cM:Obj:=co "staying" "Sight.staying" 540 170 1 3 263 181 [264,0,265,266,267] 544
def cN:Obj:=fv "first_free" "first_free" (x 25)
def cO:Obj:=tp [(v "self" 536)]
def cP:Obj:=of "getset_descriptor" [(v "__weakref__" 552),(r 272),(b "ExceptionGroup.__weakref__"),vn]
def cQ:Obj:=fn "most_from" "Sight.most_from" (y 27 3) "patchkin.order" 336 261
def cR:Obj:=tp [(v "ahead" 547),(v "lines" 548)]
def cS:Obj:=co "quarrelling" "Sight.quarrelling" 523 159 1 3 249 181 [250,0,251,252,253] 530
def cT:Obj:=fv "__init__" "Sight.__init__" (y 27 0)
def cU:Obj:=tp [(v "name" 566),(v "sign" 567)]
def cV:Obj:=of "super" [(r 272),(r 272),(r 272)]
def cW:Obj:=fv "staying" "Sight.staying" (y 27 4)
def cX:Obj:=fn "check_name" "check_name" (x 31) "patchkin.desk" 557 282
def cY:Obj:=co "kept_behind" "kept_behind" 571 181 2 3 284 181 [285,0,286,287,288] 578
def cZ:Obj:=fn "new_lines" "new_lines" (x 33) "patchkin.desk" 557 296
def c0:Obj:=of "code" [(v "Sight" 495),(v "Sight" 496),(v "/claim/cut.py" 497),(i 150),(i 0),(i 0),(i 0),(i 0),(r 231),(vl false),(i 181),(r 232),vn,vn,vn,vn,(i 498),(i 150),(v "/claim/cut.py" 499)]
def c1:Obj:=tp [(v "patch" 584),(v "texts" 585),(v "kept_names" 586),(v "behind" 587),(v "lines" 588),(v "upper_name" 589),(v "place" 590),(v "text" 591)]
def c2:Obj:=co "changing_patch" "changing_patch" 595 197 4 3 298 181 [299,0,0,0,300] 598
def c3:Obj:=fv "quarrelling" "Sight.quarrelling" (y 27 2)
def c4:Obj:=co "new_lines" "new_lines" 581 186 3 3 291 181 [292,0,293,294,295] 592
def c5:Obj:=l3 [(152,4,240),(156,4,247),(159,4,254),(167,4,261),(170,4,268)]
def c6:Obj:=fv "most_from" "Sight.most_from" (y 27 3)
def c7:Obj:=of "builtin_function_or_method" [(b "object.__init_subclass__"),(r 272)]
def c8:Obj:=fn "kept_behind" "kept_behind" (x 32) "patchkin.desk" 557 289
def c9:Obj:=fr [(k (r 233)),(k (r 3)),(k (r 230)),none,(k (v "patchkin.order" 336)),none,(k (r 0))]
def da:Obj:=co "check_name" "check_name" 563 175 1 3 277 181 [278,0,279,280,281] 568
def db(P:Params):Obj:=dt [(d P "__module__" 500 (v "patchkin.order" 336)),(d P "__qualname__" 502 (v "Sight" 501)),(d P "__firstlineno__" 504 (vi 150 503)),(d P "__init__" 513 (r 241)),(d P "is_ahead" 522 (r 248)),(d P "quarrelling" 532 (r 255)),(d P "most_from" 539 (r 262)),(d P "staying" 546 (r 269)),(d P "__static_attributes__" 549 (r 270))] 9
def dc:Obj:=fv "is_ahead" "Sight.is_ahead" (y 27 1)
def df:Obj:=fn "changing_patch" "changing_patch" (x 34) "patchkin.desk" 557 301
def dg:Obj:=tp [(v "kept_names" 574),(v "size" 575),(v "behind" 576),(v "place" 577)]
def dh:Obj:=tp [(v "self" 623),(v "store" 624)]
def di:Obj:=co "take" "Desk.take" 675 244 4 3 362 181 [363,0,364,365,366] 682
def dj:Obj:=fv "new_lines" "new_lines" (x 33)
def dl:Obj:=fn "drop" "Desk.drop" (y 35 9) "patchkin.desk" 557 374
noncomputable def dm:Obj:=fn "begin" "Desk.begin" (y 35 1) "patchkin.desk" 557 322
def dn:Obj:=tp [(v "self" 688),(v "store" 689),(v "patch" 690)]
def dp:Obj:=fn "record" "Desk.record" (y 35 5) "patchkin.desk" 557 346
def dq:Obj:=co "__init__" "Desk.__init__" 613 207 1 3 310 181 [311,0,312,313,314] 617
def dr:Obj:=co "cut" "Desk.cut" 654 238 5 3 348 181 [349,0,350,351,352] 662
def ds:Obj:=fn "patches" "Desk.patches" (y 35 3) "patchkin.desk" 557 336
def du:Obj:=co "stores" "Desk.stores" 628 218 1 3 324 181 [325,0,326,327,328] 632
def dv:Obj:=fn "back" "Desk.back" (y 35 7) "patchkin.desk" 557 360
def dw:Obj:=fv "check_name" "check_name" (x 31)
def dx:Obj:=tp [(v "self" 668),(v "store" 669),(v "patch" 670),(v "other" 671)]
def dy:Obj:=co "has" "Desk.has" 642 224 2 3 338 181 [339,0,0,0,340] 645
def dz:Obj:=tp [(v "self" 638)]
def dA:Obj:=co "leans" "Desk.leans" 694 250 2 3 376 181 [377,0,378,379,380] 699
def dB:Obj:=fv "kept_behind" "kept_behind" (x 32)
def dC:Obj:=co "patches" "Desk.patches" 635 221 1 3 331 181 [332,0,333,334,335] 639
def dD:Obj:=fn "take" "Desk.take" (y 35 8) "patchkin.desk" 557 367
def dE:Obj:=co "back" "Desk.back" 665 241 4 3 355 181 [356,0,357,358,359] 672
def dF:Obj:=tp [(v "self" 616)]
def dG:Obj:=fv "changing_patch" "changing_patch" (x 34)
def dH:Obj:=tp [(v "self" 678),(v "store" 679),(v "source" 680),(v "patch" 681)]
def dI:Obj:=fn "__init__" "Desk.__init__" (y 35 0) "patchkin.desk" 557 315
noncomputable def dJ:Obj:=co "begin" "Desk.begin" 620 212 2 3 317 181 [318,0,319,320,321] 625
def dK:Obj:=fn "cut" "Desk.cut" (y 35 6) "patchkin.desk" 557 353
def dL:Obj:=fn "stores" "Desk.stores" (y 35 2) "patchkin.desk" 557 329
def dM:Obj:=co "record" "Desk.record" 648 228 5 3 343 181 [344,0,0,0,345] 651
def dN:Obj:=tp [(v "self" 697),(v "patch" 698)]
def dO:Obj:=tp [(v "self" 631)]
def dP:Obj:=fn "has" "Desk.has" (y 35 4) "patchkin.desk" 557 341
def dQ:Obj:=co "drop" "Desk.drop" 685 247 3 3 369 181 [370,0,371,372,373] 691
def dR:Obj:=tp [(v "self" 657),(v "store" 658),(v "patch" 659),(v "file" 660),(v "places" 661)]
def dS:Obj:=fn "leans" "Desk.leans" (y 35 10) "patchkin.desk" 557 381
def dT:Obj:=co "check_held" "Desk.check_held" 773 281 3 3 442 181 [443,0,444,445,446] 779
def dU:Obj:=fn "stay" "Desk.stay" (y 35 15) "patchkin.desk" 557 414
def dV:Obj:=fv "patches" "Desk.patches" (y 35 3)
def dW:Obj:=tp [(v "held" 803),(v "made" 804),(v "needs" 805)]
def dX:Obj:=fn "check_new" "Desk.check_new" (y 35 21) "patchkin.desk" 557 454
def dY:Obj:=tp [(v "self" 751),(v "store" 752),(v "file" 753)]
def dZ:Obj:=fv "back" "Desk.back" (y 35 7)
def d0:Obj:=co "quarrels" "Desk.quarrels" 724 262 3 3 402 181 [403,0,404,405,406] 730
def d1:Obj:=tp [(v "self" 785),(v "patch" 786),(v "files" 787),(v "name" 788)]
def d2:Obj:=co "patches_of" "Desk.patches_of" 742 268 2 3 416 181 [417,0,0,0,418] 745
def d3:Obj:=of "getset_descriptor" [(v "__weakref__" 809),(r 465),(b "ExceptionGroup.__weakref__"),vn]
def d4:Obj:=co "files" "Desk.files" 710 256 2 3 390 181 [391,0,392,393,394] 715
def d5:Obj:=fn "sight_of" "Desk.sight_of" (y 35 17) "patchkin.desk" 557 426
def d6:Obj:=tp [(v "self" 736),(v "store" 737),(v "file" 738)]
def d7:Obj:=tp [(v "self" 705),(v "patch" 706)]
noncomputable def d8:Obj:=fv "begin" "Desk.begin" (y 35 1)
def d9:Obj:=fn "row" "Desk.row" (y 35 13) "patchkin.desk" 557 400
def ea:Obj:=ty (cl (S "Desk") [(w "object")] [(r 465),(w "object")] 464 (S "Desk") true [] [] false none false) [none,none,(k (v "Desk" 601)),(k (v "Desk" 609)),(k (b "object.__new__")),(k (vl true))]
def eb:Obj:=co "check_store" "Desk.check_store" 757 274 2 3 428 181 [429,0,430,431,432] 762
def ec:Obj:=fv "record" "Desk.record" (y 35 5)
def ed:Obj:=fn "check_made" "Desk.check_made" (y 35 19) "patchkin.desk" 557 440
def ee:Obj:=fn "told" "Desk.told" (y 35 11) "patchkin.desk" 557 388
def ef:Obj:=fr [(k (r 308)),(k (r 3)),(k (r 305)),none,(k (v "patchkin.desk" 557)),none,(k (r 0))]
def eg:Obj:=tp [(v "self" 768),(v "patch" 769)]
def eh:Obj:=fv "drop" "Desk.drop" (y 35 9)
noncomputable def ei:Obj:=co "keep" "Desk.keep" 792 290 3 3 456 181 [457,0,458,459,460] 800
def ej:Obj:=fn "check_held" "Desk.check_held" (y 35 20) "patchkin.desk" 557 447
def ek:Obj:=fv "cut" "Desk.cut" (y 35 6)
def el:Obj:=co "row" "Desk.row" 718 259 3 3 397 181 [398,0,0,0,399] 721
noncomputable def em(P:Params):Obj:=dt [(d P "__module__" 608 (v "patchkin.desk" 557)),(d P "__firstlineno__" 612 (vi 205 611)),(d P "__init__" 619 (r 316)),(d P "begin" 627 (r 323)),(d P "stores" 634 (r 330)),(d P "patches" 641 (r 337)),(d P "has" 647 (r 342)),(d P "record" 653 (r 347)),(d P "cut" 664 (r 354)),(d P "back" 674 (r 361)),(d P "take" 684 (r 368)),(d P "drop" 693 (r 375)),(d P "leans" 701 (r 382)),(d P "told" 709 (r 389)),(d P "files" 717 (r 396)),(d P "row" 723 (r 401)),(d P "quarrels" 732 (r 408)),(d P "stay" 741 (r 415)),(d P "patches_of" 747 (r 420)),(d P "sight_of" 756 (r 427)),(d P "check_store" 764 (r 434)),(d P "check_made" 772 (r 441)),(d P "check_held" 781 (r 448)),(d P "check_new" 791 (r 455)),(d P "keep" 802 (r 462)),(d P "__static_attributes__" 806 (r 463)),(d P "__dict__" 808 (r 466)),(d P "__weakref__" 810 (r 467)),(d P "__doc__" 811 vn)] 4
def en:Obj:=tp [(v "self" 713),(v "store" 714)]
def eo:Obj:=fv "stores" "Desk.stores" (y 35 2)
def ep:Obj:=fn "quarrels" "Desk.quarrels" (y 35 14) "patchkin.desk" 557 407
def er:Obj:=co "check_made" "Desk.check_made" 765 278 2 3 435 181 [436,0,437,438,439] 770
def es:Obj:=co "told" "Desk.told" 702 253 2 3 383 181 [384,0,385,386,387] 707
def et:Obj:=fn "patches_of" "Desk.patches_of" (y 35 16) "patchkin.desk" 557 419
def eu:Obj:=tp [(v "self" 727),(v "store" 728),(v "file" 729)]
def ev:Obj:=fv "has" "Desk.has" (y 35 4)
def ew:Obj:=of "code" [(v "Desk" 603),(v "Desk" 604),(v "/claim/cut.py" 605),(i 205),(i 0),(i 0),(i 0),(i 0),(r 306),(vl false),(i 181),(r 307),vn,vn,vn,vn,(i 606),(i 205),(v "/claim/cut.py" 607)]
def ey:Obj:=fn "files" "Desk.files" (y 35 12) "patchkin.desk" 557 395
def ez:Obj:=tp [(v "self" 776),(v "store" 777),(v "patch" 778)]
def eA:Obj:=fv "leans" "Desk.leans" (y 35 10)
def eB:Obj:=of "getset_descriptor" [(v "__dict__" 807),(r 465),(b "function.__dict__"),(b "function.__dict__#set")]
def eC:Obj:=fn "check_store" "Desk.check_store" (y 35 18) "patchkin.desk" 557 433
def eD:Obj:=tp [(v "self" 795),(v "store" 796),(v "patch" 797),(v "needs" 798),(v "name" 799)]
def eE:Obj:=co "sight_of" "Desk.sight_of" 748 271 3 3 421 181 [422,0,423,424,425] 754
def eF:Obj:=fv "__init__" "Desk.__init__" (y 35 0)
def eG:Obj:=co "check_new" "Desk.check_new" 782 284 3 3 449 181 [450,0,451,452,453] 789
noncomputable def eH:Obj:=fn "keep" "Desk.keep" (y 35 22) "patchkin.desk" 557 461
def eI:Obj:=tp [(v "self" 760),(v "store" 761)]
def eJ:Obj:=fv "take" "Desk.take" (y 35 8)
def eK:Obj:=co "stay" "Desk.stay" 733 265 3 3 409 181 [410,0,411,412,413] 739
def eL(P:Params):Obj:=dt ((d P "__name__" 165 (v "law_patchkin_k16_rooms_of_names" 814))::gO P) 46
def eM:Obj:=tp [(v "cell" 827),(v "k" 828),(v "signs" 829),(v "size" 830),(v "base" 831),(v "far" 832),(v "found" 833),(v "j" 834)]
def eN:Obj:=fv "row" "Desk.row" (y 35 13)
def eO:Obj:=fv "check_made" "Desk.check_made" (y 35 19)
def eP:Obj:=co "law" "law" 858 333 1 3 498 181 [499,0,500,501,502] 870
def eQ:Obj:=fv "told" "Desk.told" (y 35 11)
def eR:Obj:=fn "_law_name" "_law_name" (x 38) "law_patchkin_k16_rooms_of_names" 814 482
def eS:Obj:=l3 [(207,4,315),(212,4,322),(218,4,329),(221,4,336),(224,4,341),(228,4,346),(238,4,353),(241,4,360),(244,4,367),(247,4,374),(250,4,381),(253,4,388),(256,4,395),(259,4,400),(262,4,407),(265,4,414),(268,4,419),(271,4,426),(274,4,433),(278,4,440),(281,4,447),(284,4,454),(290,4,461)]
def eT:Obj:=co "_law_cell_at" "_law_cell_at" 816 299 2 3 470 181 [471,0,472,473,474] 821
noncomputable def eU(P:Params):Obj:=dt [(d P "__module__" 608 (v "patchkin.desk" 557)),(d P "__qualname__" 610 (v "Desk" 609)),(d P "__firstlineno__" 612 (vi 205 611)),(d P "__init__" 619 (r 316)),(d P "begin" 627 (r 323)),(d P "stores" 634 (r 330)),(d P "patches" 641 (r 337)),(d P "has" 647 (r 342)),(d P "record" 653 (r 347)),(d P "cut" 664 (r 354)),(d P "back" 674 (r 361)),(d P "take" 684 (r 368)),(d P "drop" 693 (r 375)),(d P "leans" 701 (r 382)),(d P "told" 709 (r 389)),(d P "files" 717 (r 396)),(d P "row" 723 (r 401)),(d P "quarrels" 732 (r 408)),(d P "stay" 741 (r 415)),(d P "patches_of" 747 (r 420)),(d P "sight_of" 756 (r 427)),(d P "check_store" 764 (r 434)),(d P "check_made" 772 (r 441)),(d P "check_held" 781 (r 448)),(d P "check_new" 791 (r 455)),(d P "keep" 802 (r 462)),(d P "__static_attributes__" 806 (r 463))] 27
def eW:Obj:=fn "_law_taken" "_law_taken" (x 40) "law_patchkin_k16_rooms_of_names" 814 496
def eX:Obj:=fv "sight_of" "Desk.sight_of" (y 35 17)
def eY:Obj:=co "_law_names_are" "_law_names_are" 838 315 2 3 484 181 [485,0,486,487,488] 844
def eZ:Obj:=fv "check_new" "Desk.check_new" (y 35 21)
def e0:Obj:=of "builtin_function_or_method" [(b "object.__init_subclass__"),(r 465)]
def e1:Obj:=tp [(v "desk" 850),(v "store" 851),(v "patch" 852),(v "file" 853),(v "count" 854)]
def e2:Obj:=fv "stay" "Desk.stay" (y 35 15)
def e3:Obj:=fv "check_store" "Desk.check_store" (y 35 18)
def e4:Obj:=co "_law_taken" "_law_taken" 847 322 4 3 491 181 [492,0,493,494,495] 855
def e5:Obj:=tp [(v "script" 819),(v "k" 820)]
def e6:Obj:=fn "law" "law" (x 41) "law_patchkin_k16_rooms_of_names" 814 503
def e7:Obj:=of "super" [(r 465),(r 465),(r 465)]
def e8:Obj:=tp [(v "script" 861),(v "desk" 862),(v "first" 863),(v "stores" 864),(v "patches" 865),(v "files" 866),(v "k" 867),(v "name" 868),(v "way" 869)]
noncomputable def e9:Obj:=fv "keep" "Desk.keep" (y 35 22)
def fa:Obj:=fn "_law_cell_at" "_law_cell_at" (x 37) "law_patchkin_k16_rooms_of_names" 814 475
def fb:Obj:=fv "patches_of" "Desk.patches_of" (y 35 16)
def fc:Obj:=co "_law_name" "_law_name" 824 303 2 3 477 181 [478,0,479,480,481] 835
def fe:Obj:=fv "files" "Desk.files" (y 35 12)
def ff:Obj:=fn "_law_names_are" "_law_names_are" (x 39) "law_patchkin_k16_rooms_of_names" 814 489
def fg:Obj:=tp [(v "found" 841),(v "due" 842),(v "name" 843)]
def fh:Obj:=fv "quarrels" "Desk.quarrels" (y 35 14)
def fi:Obj:=fv "check_held" "Desk.check_held" (y 35 20)
def fj:Obj:=fv "_law_taken" "_law_taken" (x 40)
def fk:Obj:=fv "_law_name" "_law_name" (x 38)
def fm:Obj:=fv "_law_names_are" "_law_names_are" (x 39)
def fo:Obj:=l3 [(1,0,20),(5,0,27),(13,0,32),(18,0,39),(23,0,46),(34,0,53),(36,0,66),(38,0,78),(40,0,90),(42,0,102),(44,0,114),(47,0,126),(54,0,147),(62,0,166),(68,0,171),(73,0,178),(82,0,185),(88,0,190),(95,0,195),(98,0,202),(108,0,209),(114,0,214),(130,0,221),(135,0,226),(150,0,233),(175,0,282),(181,0,289),(186,0,296),(197,0,301),(205,0,308),(299,0,475),(303,0,482),(315,0,489),(322,0,496),(333,0,503)]
def fp:Obj:=fv "_law_cell_at" "_law_cell_at" (x 37)
def ft:Obj:=l3 [(1,0,20),(5,0,27),(13,0,32),(18,0,39),(23,0,46),(34,0,53),(36,0,66),(38,0,78),(40,0,90),(42,0,102),(44,0,114),(47,0,126),(54,0,147),(62,0,166),(68,0,171),(73,0,178),(82,0,185),(88,0,190),(95,0,195),(98,0,202),(108,0,209),(114,0,214),(130,0,221),(135,0,226),(150,0,233),(175,0,282),(181,0,289),(186,0,296),(197,0,301),(205,0,308)]
def fu(P:Params):Obj:=dt ((d P "__name__" 165 (v "patchkin.desk" 557))::gM P) 40
def fw(P:Params):Obj:=dt ((d P "__name__" 165 (v "patchkin.order" 336))::gJ P) 28
def fy(P:Params):Obj:=dt ((d P "__name__" 165 (v "patchkin.errors" 236))::gD P) 16
def fB(P:Params):Obj:=dt ((d P "__name__" 165 (v "patchkin.desk" 557))::gL P) 36
def fD(P:Params):Obj:=dt ((d P "__name__" 165 (v "patchkin.order" 336))::gK P) 33
def fF(P:Params):Obj:=dt ((d P "__name__" 165 (v "patchkin.order" 336))::gI P) 21
def fH(P:Params):Obj:=dt ((d P "__name__" 165 (v "patchkin.errors" 236))::gE P) 17
def fL(P:Params):Obj:=dt ((d P "__name__" 165 (v "patchkin.desk" 557))::gN P) 41
def fO(P:Params):Obj:=dt ((d P "__name__" 165 (v "patchkin.order" 336))::gH P) 20
def fQ(P:Params):Obj:=dt ((d P "__name__" 165 (v "patchkin.errors" 236))::gG P) 19
def fU(P:Params):Obj:=dt ((d P "__name__" 165 (v "patchkin.errors" 236))::gF P) 18
def fX(P:Params):Obj:=dt ((d P "__name__" 165 (v "patchkin.errors" 236))::gC P) 15
def f0:BT:=n aO (n bi (f aa) (f ab)) (n b2 (f aa) (f dX))
def f1:BT:=n aP (n aa (f aa) (f eQ)) (n bE (f dm) (f d1))
def f2:BT:=n aV (n b5 (f cV) (f ab)) (n aa (f ab) (f d3))
def f3:BT:=n aa (f ab) (f aa)
def f4:BT:=n ab (n ab (f ab) (f d7)) (n ab (f d8) (f aa))
def f5:BT:=n ad (n bn (f cB) (f aa)) (n cC (f du) (f ab))
def f6:BT:=n aa (f ab) z
def f7:BT:=n aa (f aa) (f aa)
def f8:BT:=n ab (n bL (f cF) (f aa)) (n ab (f dz) (f ei))
def f9:BT:=n bN (n cd (f aa) (f aa)) (n c3 (f dA) z)
def ga:BT:=n aa (n aa (f aa) (f ab)) (n aa (f aa) (f ej))
def gb(P:Params):BT:=n aa (n (ce P) (f cH) (f el)) (n cI (f dC) (f (em P)))
def gc:BT:=n aa (n bP (f c6) (f es)) (n bQ (f aa) (f aa))
def gd:BT:=n aY (n cg (f c7) (f eu)) (n ab (f ev) (f e7))
def ge:BT:=n aa (n bR (f cM) (f ey)) (n aa (f ab) (f e9))
def gf:BT:=n aa (n ab (f dI) (f ez)) (n aa (f eA) z)
def gg:BT:=n aS (n br (f cO) (f aa)) (n ch (f dJ) (f ab))
def gh:BT:=n aT (n ck (f cP) (f aa)) (n cm (f aa) (f eB))
def gi:BT:=n ac (n bu (f aa) (f fe)) (n cn (f dL) (f eD))
def gj:BT:=n ac (n bW (f eF) (f aa)) (n ab (f dN) z)
def gk:BT:=n aL (n bv (f cQ) (f aa)) (n ab (f dO) (f eG))
def gl:BT:=n aZ (n aa (f cR) (f ab)) (n cs (f aa) (f eH))
def gm:BT:=n b0 (n b1 (f ab) (f fi)) (n cS (f dS) z)
def gn:BT:=n aa (f aa) z
def gp(P:Params):BT:=n ag (n aU (n ac (f (cv P)) z) (f aa)) (n (bh P) (f bB) (f cT))
def gq:BT:=n aa (n aV (n b5 (f cV) z) (f aa)) (n bl (f bF) (f ab))
def gr:BT:=n ab (f ab) z
def gs(P:Params):BT:=n ac (n (aQ P) (n aa (f cz) z) (f b8)) (n ab (f b9) (f cA))
def gt(P:Params):BT:=n aq (n aa (n (ce P) (f cH) z) (f cI)) (n aa (f aa) (f cJ))
def gu:BT:=n ab (n aY (n cg (f c7) z) (f ab)) (n aa (f aa) (f cL))
def gv(P:Params):BT:=n (aI P) (n aT (n ck (f cP) z) (f cm)) (n bt (f bU) (f aa))
def gw:BT:=n aC (n ab (f aP) z) (n aa (f aV) z)
def gx:BT:=n aw (n ax (f aa) z) (n ab (f aY) z)
def gy:BT:=n ay (n aa (f aa) (f be)) (n aH (f aa) z)
def gz:BT:=n aJ (n ab (f ac) (f a6)) (n az (f a7) z)
def gA:BT:=n ab (n ap (f aa) (f a5)) (n aq (f aa) z)
def gB:BT:=n ab (n aA (f aZ) z) (n ac (f a0) z)
end
end TW
namespace PySem.W.Fast
open PySem PySem.W L2 PK TW
noncomputable section
def tw6616502379009671565:Program:=PySem.Challenge.pw_patchkin_k16_rooms_of_names
theorem te6616502379009671565:tw6616502379009671565=tw6616502379009671565:=rfl
def tw15742868172909580034:Params->BT:=λP=>n (boot_o_0 P) (n (boot_o_1 P) (n (eL P) (n (boot_o_7 P) (n aa (n aB (n (aN P) (n bw (f cu) (f aa)) (n bz (f dh) (f dT))) (n a1 (n bA (f aa) (f dU)) (n aa (f aa) (f eM)))) (n ag (n aU (n ac (f (cv P)) (f eN)) (n aa (f dV) (f dW))) (n (bh P) (n bB (f aa) (f aa)) (n cT (f di) (f fj))))) (n ab (n ai f0 (n a8 (n bC (f dj) (f dY)) (n aa (f dZ) (f aa)))) (n aa (n (a2 P) (n bD (f cU) (f d0)) (n b3 (f aa) (f ab))) (n bj (n aa (f ab) (f eO)) (n cw (f dl) (f eP)))))) (n aa (n aC (n ab f1 (n (a9 P) (n aa (f aa) (f d2)) (n b4 (f aa) (f eR)))) (n aa f2 (n bl (n bF (f eS) (f aa)) (n ab (f dn) (f ab))))) (n aj (n al (n (aW P) (n bm (f cW) (f d4)) (n b6 (f aa) (f aa))) (n ba (n bG (f ab) (f d5)) f3)) (n aD (n a3 (n bH (f cX) (f d6)) (n aa (f dp) (f eT))) (n (bI P) (n aa (f dq) (f ab)) (n cx (f aa) z)))))) (n (boot_o_5 P) (n (boot_o_9 P) (n am (n an f4 (n ad (n b7 (f cY) (f ab)) (n cy (f dr) (f fk)))) (n ac (n (aQ P) (n aa (f cz) (f d9)) (n b8 (f ds) (f ea))) (n ab (n b9 (f (eU P)) (f eb)) (n cA (f aa) (f eW))))) (n aa (n aa f5 (n (a4 P) (n ab (f cZ) (f eX)) (n c0 (f dv) (f eY)))) (n bb (n ab (n ca (f dw) (f aa)) (n ab (f ec) (f aa))) (n aa (n bJ (f aa) (f ed)) f6)))) (n ae (n ao (n aa (n (aE P) (n bo (f cD) (f ee)) (n aa (f ab) (f eZ))) (n ab (n cb (f c1) (f aa)) (n ac (f dx) (f ab)))) (n aF (n ad f7 (n cE (f dy) (f e0))) (n (bc P) (n ab (f ef) (f eg)) (n aa (f eh) (f aa))))) (n aa (n aG f8 (n ad (n aa (f c2) (f ab)) (n cG (f aa) (f e1)))) (n ad (n (aX P) (n (bM P) (f ab) (f e2)) (n cc (f ab) (f aa))) f9))))) (n (boot_o_2 P) (n (boot_o_4 P) (n (boot_o_8 P) (n ab (n ap ga (n a5 (n bO (f dB) (f aa)) (n ab (f ek) (f aa)))) (n aq (gb P) (n aa (n aa (f ac) (f e3)) (n cJ (f dD) (f e4))))) (n ar (n au (n aR (n (bp P) (f ab) (f en)) (n aa (f eo) (f aa))) (n aa (n aa (f c4) (f aa)) (n c5 (f dE) (f fm)))) (n (av P) (n aa (n aa (f aa) (f ep)) (n aa (f ab) (f e5))) (n bq (n cf (f dF) (f er)) (n cK (f aa) (f e6)))))) (n fo (n aw (n ax gc (n aa (n ab (f ab) (f et)) f3)) (n ab gd (n aa (n aa (f ew) (f ab)) (n cL (f aa) (f e8))))) (n ay (n aa ge (n be (n bS (f dG) (f aa)) (n ab (f dH) (f ab)))) (n aH (n aa (n bT (f aa) (f aa)) (n cN (f aa) (f fa))) gf)))) (n (boot_o_6 P) (n (boot_o_10 P) (n aa (n aa gg (n ac (n ci (f c8) (f fb)) (n cj (f dK) (f fc)))) (n (aI P) gh (n bt (n bU (f aa) (f eC)) f3))) (n aJ (n ab gi (n a6 (n cp (f aa) (f eE)) (n c9 (f aa) (f ff)))) (n az (n a7 (n bV (f da) (f ab)) (n cq (f dM) (f fp))) gj))) (n af (n aa (n aK gk (n bf (n bX (f aa) (f ab)) (n (db P) (f aa) (f fg)))) (n aM (n ac (n ab (f ab) (f fh)) (n cr (f dP) (f aa))) (n bg (n bY (f aa) (f aa)) (n dc (f dQ) (f (fv "law" "law" (x 41))))))) (n ab (n aA gl (n ac (n ab (f df) (f eI)) (n aa (f eJ) (f aa)))) (n ac (n a0 (n bZ (f dg) (f eK)) (n ct (f dR) (f ab))) gm)))))
theorem te15742868172909580034:tw15742868172909580034=tw15742868172909580034:=rfl
def tw3032050493172525188:Params->BT:=λP=>n (boot_o_0 P) (n (boot_o_1 P) (n (fw P) (n (boot_o_7 P) (n aa (n aB (n (aN P) (f bw) (f bz)) (n a1 (f bA) z)) (n ag (n aU (f ac) z) (n (bh P) (f bB) z))) (n ab (n ai (n aO (f bi) z) (n a8 (f bC) z)) (n aa (n (a2 P) (f bD) z) (n bj (f aa) z)))) (n aa (n aC (n ab (n aP (f aa) (f bE)) (n (a9 P) (f aa) z)) (n aa (n aV (f b5) z) (n bl (f bF) z))) (n aj (n al (n (aW P) (f bm) z) (n ba (f bG) z)) (n aD (n a3 (f bH) z) (n (bI P) (f aa) z))))) (n (boot_o_5 P) (n (boot_o_9 P) (n am (n an (n ab (f ab) (f ab)) (n ad (f b7) z)) (n ac (n (aQ P) (f aa) z) (n ab (f b9) z))) (n aa (n aa (n ad (f bn) z) (n (a4 P) (f ab) z)) (n bb (n ab (f ca) z) (n aa (f bJ) z)))) (n ae (n ao (n aa (n (aE P) (f bo) z) (n ab (f cb) z)) (n aF (n ad (f aa) z) (n (bc P) (f ab) z))) (n aa (n aG (n ab (f bL) z) (n ad (f aa) z)) (n ad (n (aX P) (f (bM P)) z) (n bN (f cd) z)))))) (n (boot_o_2 P) (n (boot_o_4 P) (n (boot_o_8 P) (n ab (n ap f7 (n a5 (f bO) z)) (n aq (n aa (f (ce P)) z) gn)) (n ar (n au (n aR (f (bp P)) z) gn) (n (av P) gn (n bq (f cf) z)))) (n (l3 [(1,0,20),(5,0,27),(13,0,32),(18,0,39),(23,0,46),(34,0,53),(36,0,66),(38,0,78),(40,0,90),(42,0,102),(44,0,114),(47,0,126),(54,0,147),(62,0,166),(68,0,171),(73,0,178),(82,0,185),(88,0,190),(95,0,195)]) (n aw (n ax (n aa (f bP) (f bQ)) f6) (n ab (n aY (f cg) z) gn)) (n ay (n aa (n aa (f bR) z) (n be (f bS) z)) (n aH (n aa (f bT) z) f6)))) (n (boot_o_6 P) (n (boot_o_10 P) (n aa (n aa (n aS (f br) (f ch)) (n ac (f ci) z)) (n (aI P) (n aT (f ck) z) (n bt (f bU) z))) (n aJ (n ab (n ac (f bu) z) (n a6 (f cp) z)) (n az (n a7 (f bV) z) (n ac (f bW) z)))) (n af (n aa (n aK (n aL (f bv) z) (n bf (f bX) z)) (n aM (n ac (f ab) z) (n bg (f bY) z))) (n ab (n aA (n aZ (f aa) z) (n ac (f ab) z)) (n ac (n a0 (f bZ) z) (n b0 (f b1) z))))))
theorem te3032050493172525188:tw3032050493172525188=tw3032050493172525188:=rfl
def tw11612332094901508101:Params->BT:=λP=>n (boot_o_0 P) (n (boot_o_1 P) (n (fy P) (n (boot_o_7 P) (n aa (n aB (f (aN P)) z) (f ag)) (n ab (n ai (f aO) z) (f aa))) (n aa (n aC (n ab (f aP) z) (f aa)) (n aj (f al) (f aD)))) (n (boot_o_5 P) (n (boot_o_9 P) (n am (n an (f ab) z) (f ac)) (n aa (f aa) (f (ty (cl (S "PatchError") [(w "ValueError")] [(r 57),(w "ValueError"),(w "Exception"),(w "BaseException"),(w "object")] 56 (S "PatchError") true [] [(r 70)] false none false) [(k (r 48)),none,(k (v "PatchError" 238)),(k (v "PatchError" 246)),(k (b "ValueError.__new__")),(k (vl true))])))) (n ae (n ao (n aa (f (aE P)) z) (f aF)) (n aa (f aG) (f ad))))) (n (boot_o_2 P) (n (boot_o_4 P) (n (boot_o_8 P) (n ab (n ap (f aa) z) (f aq)) (n ar (n au (f aR) z) (f (av P)))) (n (l3 [(1,0,20),(5,0,27),(13,0,32),(18,0,39),(23,0,46),(34,0,53),(36,0,66)]) (n aw (n ax (f aa) z) (f ab)) (n ay (f aa) (f aH)))) (n (boot_o_6 P) (n (boot_o_10 P) (n aa (n aa (f aS) z) (f (aI P))) (n aJ (f ab) (f az))) (n af (n aa (n aK (f aL) z) (f aM)) (n ab (f aA) (f ac)))))
theorem te11612332094901508101:tw11612332094901508101=tw11612332094901508101:=rfl
def tw8768683771112229509:Params->BT:=λP=>n (boot_o_0 P) (n (boot_o_1 P) (n (fB P) (n (boot_o_7 P) (n aa (n aB (n (aN P) (n bw (f cu) z) (f bz)) (n a1 (f bA) (f aa))) (gp P)) (n ab (n ai (n aO (n bi (f aa) z) (f b2)) (n a8 (f bC) (f aa))) (n aa (n (a2 P) (f bD) (f b3)) (n bj (f aa) (f cw))))) (n aa (n aC (n ab (n aP gn (f bE)) (n (a9 P) (f aa) (f b4))) gq) (n aj (n al (n (aW P) (n bm (f cW) z) (f b6)) (n ba (f bG) (f aa))) (n aD (n a3 (f bH) (f aa)) (n (bI P) (f aa) (f cx)))))) (n (boot_o_5 P) (n (boot_o_9 P) (n am (n an (n ab gr (f ab)) (n ad (f b7) (f cy))) (gs P)) (n aa (n aa (n ad (n bn (f cB) z) (f cC)) (n (a4 P) (f ab) (f c0))) (n bb (n ab (f ca) (f ab)) (n aa (f bJ) (f aa))))) (n ae (n ao (n aa (n (aE P) (n bo (f cD) z) (f aa)) (n ab (f cb) (f ac))) (n aF (n ad (f aa) (f cE)) (n (bc P) (f ab) (f aa)))) (n aa (n aG (n ab (n bL (f cF) z) (f ab)) (n ad (f aa) (f cG))) (n ad (n (aX P) (f (bM P)) (f cc)) (n bN (f cd) (f c3))))))) (n (boot_o_2 P) (n (boot_o_4 P) (n (boot_o_8 P) (n ab (n ap (n aa gn (f aa)) (n a5 (f bO) (f ab))) (gt P)) (n ar (n au (n aR (n (bp P) (f ab) z) (f aa)) (n aa (f aa) (f c5))) (n (av P) f7 (n bq (f cf) (f cK))))) (n (l3 [(1,0,20),(5,0,27),(13,0,32),(18,0,39),(23,0,46),(34,0,53),(36,0,66),(38,0,78),(40,0,90),(42,0,102),(44,0,114),(47,0,126),(54,0,147),(62,0,166),(68,0,171),(73,0,178),(82,0,185),(88,0,190),(95,0,195),(98,0,202),(108,0,209),(114,0,214),(130,0,221),(135,0,226),(150,0,233)]) (n aw (n ax (n aa (n bP (f c6) z) (f bQ)) f3) gu) (n ay (n aa (n aa (n bR (f cM) z) (f aa)) (n be (f bS) (f ab))) (n aH (n aa (f bT) (f cN)) f3)))) (n (boot_o_6 P) (n (boot_o_10 P) (n aa (n aa (n aS (n br (f cO) z) (f ch)) (n ac (f ci) (f cj))) (gv P)) (n aJ (n ab (n ac (n bu (f aa) z) (f cn)) (n a6 (f cp) (f c9))) (n az (n a7 (f bV) (f cq)) (n ac (f bW) (f ab))))) (n af (n aa (n aK (n aL (n bv (f cQ) z) (f ab)) (n bf (f bX) (f (db P)))) (n aM (n ac (f ab) (f cr)) (n bg (f bY) (f dc)))) (n ab (n aA (n aZ (n aa (f cR) z) (f cs)) (n ac (f ab) (f aa))) (n ac (n a0 (f bZ) (f ct)) (n b0 (f b1) (f cS)))))))
theorem te8768683771112229509:tw8768683771112229509=tw8768683771112229509:=rfl
def tw11632037197638874313:Params->BT:=λP=>n (boot_o_0 P) (n (boot_o_1 P) (n (fD P) (n (boot_o_7 P) (n aa (n aB (n (aN P) (f bw) (f bz)) (n a1 (f bA) (f aa))) (n ag (n aU (f ac) (f aa)) (n (bh P) (f bB) z))) (n ab (n ai (n aO (f bi) (f b2)) (n a8 (f bC) z)) (n aa (n (a2 P) (f bD) (f b3)) (n bj (f aa) z)))) (n aa (n aC (n ab (n aP (f aa) (f bE)) (n (a9 P) (f aa) (f b4))) (n aa (n aV (f b5) (f aa)) (n bl (f bF) z))) (n aj (n al (n (aW P) (f bm) (f b6)) (n ba (f bG) z)) (n aD (n a3 (f bH) (f aa)) (n (bI P) (f aa) z))))) (n (boot_o_5 P) (n (boot_o_9 P) (n am (n an (n ab (f ab) (f ab)) (n ad (f b7) (f cy))) (n ac (n (aQ P) (f aa) (f b8)) (n ab (f b9) z))) (n aa (n aa (n ad (f bn) (f cC)) (n (a4 P) (f ab) z)) (n bb (n ab (f ca) (f ab)) (n aa (f bJ) z)))) (n ae (n ao (n aa (n (aE P) (f bo) (f aa)) (n ab (f cb) z)) (n aF (n ad (f aa) (f cE)) (n (bc P) (f ab) z))) (n aa (n aG (n ab (f bL) (f ab)) (n ad (f aa) z)) (n ad (n (aX P) (f (bM P)) (f cc)) (n bN (f cd) z)))))) (n (boot_o_2 P) (n (boot_o_4 P) (n (boot_o_8 P) (n ab (n ap f7 (n a5 (f bO) (f ab))) (n aq (n aa (f (ce P)) (f cI)) gn)) (n ar (n au (n aR (f (bp P)) (f aa)) gn) (n (av P) f7 (n bq (f cf) z)))) (n (l3 [(1,0,20),(5,0,27),(13,0,32),(18,0,39),(23,0,46),(34,0,53),(36,0,66),(38,0,78),(40,0,90),(42,0,102),(44,0,114),(47,0,126),(54,0,147),(62,0,166),(68,0,171),(73,0,178),(82,0,185),(88,0,190),(95,0,195),(98,0,202),(108,0,209),(114,0,214),(130,0,221),(135,0,226)]) (n aw (n ax (n aa (f bP) (f bQ)) f6) (n ab (n aY (f cg) (f ab)) gn)) (n ay (n aa (n aa (f bR) (f aa)) (n be (f bS) z)) (n aH (n aa (f bT) (f cN)) f6)))) (n (boot_o_6 P) (n (boot_o_10 P) (n aa (n aa (n aS (f br) (f ch)) (n ac (f ci) (f cj))) (n (aI P) (n aT (f ck) (f cm)) (n bt (f bU) z))) (n aJ (n ab (n ac (f bu) (f cn)) (n a6 (f cp) z)) (n az (n a7 (f bV) (f cq)) (n ac (f bW) z)))) (n af (n aa (n aK (n aL (f bv) (f ab)) (n bf (f bX) z)) (n aM (n ac (f ab) (f cr)) (n bg (f bY) z))) (n ab (n aA (n aZ (f aa) (f cs)) (n ac (f ab) z)) (n ac (n a0 (f bZ) (f ct)) (n b0 (f b1) z))))))
theorem te11632037197638874313:tw11632037197638874313=tw11632037197638874313:=rfl
def tw1996384112324093353:Params->BT:=λP=>n (boot_o_0 P) (n (boot_o_1 P) (n (fF P) (n (boot_o_7 P) (n aa (n aB (n (aN P) (f bw) z) (f a1)) (n ag (f aU) (f (bh P)))) (n ab (n ai (n aO (f bi) z) (f a8)) (n aa (f (a2 P)) (f bj)))) (n aa (n aC (n ab (n aP (f aa) z) (f (a9 P))) (n aa (f aV) (f bl))) (n aj (n al (n (aW P) (f bm) z) (f ba)) (n aD (f a3) (f (bI P)))))) (n (boot_o_5 P) (n (boot_o_9 P) (n am (n an gr (f ad)) (n ac (f (aQ P)) (f ab))) (n aa (n aa (n ad (f bn) z) (f (a4 P))) (n bb (f ab) (f aa)))) (n ae (n ao (n aa (n (aE P) (f bo) z) (f ab)) (n aF (f ad) (f (bc P)))) (n aa (n aG (n ab (f bL) z) (f ad)) (n ad (f (aX P)) (f bN)))))) (n (boot_o_2 P) (n (boot_o_4 P) (n (boot_o_8 P) (n ab (n ap gn (f a5)) (n aq (f aa) (f aa))) (n ar (n au (n aR (f (bp P)) z) (f aa)) (n (av P) (f aa) (f bq)))) (n (l3 [(1,0,20),(5,0,27),(13,0,32),(18,0,39),(23,0,46),(34,0,53),(36,0,66),(38,0,78),(40,0,90),(42,0,102),(44,0,114),(47,0,126)]) (n aw (n ax (n aa (f bP) z) (f aa)) (n ab (f aY) (f aa))) (n ay (n aa (n aa (f bR) z) (f be)) (n aH (f aa) (f aa))))) (n (boot_o_6 P) (n (boot_o_10 P) (n aa (n aa (n aS (f br) z) (f ac)) (n (aI P) (f aT) (f bt))) (n aJ (n ab (n ac (f bu) z) (f a6)) (n az (f a7) (f ac)))) (n af (n aa (n aK (n aL (f bv) z) (f bf)) (n aM (f ac) (f bg))) (n ab (n aA (f aZ) (f ac)) (n ac (f a0) (f b0))))))
theorem te1996384112324093353:tw1996384112324093353=tw1996384112324093353:=rfl
def tw5094182697664446057:Params->BT:=λP=>n (boot_o_0 P) (n (boot_o_1 P) (n (fH P) (n (boot_o_7 P) (n aa (n aB (f (aN P)) z) (n ag (f aU) z)) (n ab (n ai (f aO) z) (f aa))) (n aa gw (n aj (n al (f (aW P)) z) (f aD)))) (n (boot_o_5 P) (n (boot_o_9 P) (n am (n an (f ab) z) (n ac (f (aQ P)) z)) (n aa (n aa (f ad) z) (f (ty (cl (S "PatchError") [(w "ValueError")] [(r 57),(w "ValueError"),(w "Exception"),(w "BaseException"),(w "object")] 56 (S "PatchError") true [] [(r 70),(r 82)] false none false) [(k (r 48)),none,(k (v "PatchError" 238)),(k (v "PatchError" 246)),(k (b "ValueError.__new__")),(k (vl true))])))) (n ae (n ao (n aa (f (aE P)) z) (f aF)) (n aa (n aG (f ab) z) (f ad))))) (n (boot_o_2 P) (n (boot_o_4 P) (n (boot_o_8 P) (n ab (n ap (f aa) z) (n aq (f aa) z)) (n ar (n au (f aR) z) (f (av P)))) (n (l3 [(1,0,20),(5,0,27),(13,0,32),(18,0,39),(23,0,46),(34,0,53),(36,0,66),(38,0,78)]) gx (n ay gn (f aH)))) (n (boot_o_6 P) (n (boot_o_10 P) (n aa (n aa (f aS) z) (n (aI P) (f aT) z)) (n aJ (n ab (f ac) z) (f az))) (n af (n aa (n aK (f aL) z) (f aM)) (n ab (n aA (f aZ) z) (f ac)))))
theorem te5094182697664446057:tw5094182697664446057=tw5094182697664446057:=rfl
def tw5133283215013249290:Params->BT:=λP=>n (boot_o_0 P) (n (boot_o_1 P) (n (fL P) (n (boot_o_7 P) (n aa (n aB (n (aN P) (n bw (f cu) (f aa)) (n bz (f dh) (f dT))) (n a1 (n bA (f aa) (f dU)) gn)) (n ag (n aU (n ac (f (cv P)) (f eN)) (n aa (f dV) (f dW))) (n (bh P) (n bB (f aa) (f aa)) (n cT (f di) z)))) (n ab (n ai f0 (n a8 (n bC (f dj) (f dY)) (n aa (f dZ) z))) (n aa (n (a2 P) (n bD (f cU) (f d0)) (n b3 (f aa) z)) (n bj (n aa (f ab) (f eO)) (n cw (f dl) z))))) (n aa (n aC (n ab f1 (n (a9 P) (n aa (f aa) (f d2)) (n b4 (f aa) z))) (n aa f2 (n bl (n bF (f eS) (f aa)) (n ab (f dn) z)))) (n aj (n al (n (aW P) (n bm (f cW) (f d4)) (n b6 (f aa) (f aa))) (n ba (n bG (f ab) (f d5)) f6)) (n aD (n a3 (n bH (f cX) (f d6)) (n aa (f dp) z)) (n (bI P) (n aa (f dq) (f ab)) (n cx (f aa) z)))))) (n (boot_o_5 P) (n (boot_o_9 P) (n am (n an f4 (n ad (n b7 (f cY) (f ab)) (n cy (f dr) z))) (n ac (n (aQ P) (n aa (f cz) (f d9)) (n b8 (f ds) (f ea))) (n ab (n b9 (f (eU P)) (f eb)) (n cA (f aa) z)))) (n aa (n aa f5 (n (a4 P) (n ab (f cZ) (f eX)) (n c0 (f dv) z))) (n bb (n ab (n ca (f dw) (f aa)) (n ab (f ec) z)) (n aa (n bJ (f aa) (f ed)) f6)))) (n ae (n ao (n aa (n (aE P) (n bo (f cD) (f ee)) (n aa (f ab) (f eZ))) (n ab (n cb (f c1) (f aa)) (n ac (f dx) z))) (n aF (n ad f7 (n cE (f dy) (f e0))) (n (bc P) (n ab (f ef) (f eg)) (n aa (f eh) z)))) (n aa (n aG f8 (n ad (n aa (f c2) (f ab)) (n cG (f aa) z))) (n ad (n (aX P) (n (bM P) (f ab) (f e2)) (n cc (f ab) z)) f9))))) (n (boot_o_2 P) (n (boot_o_4 P) (n (boot_o_8 P) (n ab (n ap ga (n a5 (n bO (f dB) (f aa)) (n ab (f ek) z))) (n aq (gb P) (n aa (n aa (f ac) (f e3)) (n cJ (f dD) z)))) (n ar (n au (n aR (n (bp P) (f ab) (f en)) (n aa (f eo) (f aa))) (n aa (n aa (f c4) (f aa)) (n c5 (f dE) z))) (n (av P) (n aa (n aa (f aa) (f ep)) f6) (n bq (n cf (f dF) (f er)) (n cK (f aa) z))))) (n ft (n aw (n ax gc (n aa (n ab (f ab) (f et)) f6)) (n ab gd (n aa (n aa (f ew) (f ab)) (n cL (f aa) z)))) (n ay (n aa ge (n be (n bS (f dG) (f aa)) (n ab (f dH) z))) (n aH (n aa (n bT (f aa) (f aa)) (n cN (f aa) z)) gf)))) (n (boot_o_6 P) (n (boot_o_10 P) (n aa (n aa gg (n ac (n ci (f c8) (f fb)) (n cj (f dK) z))) (n (aI P) gh (n bt (n bU (f aa) (f eC)) f6))) (n aJ (n ab gi (n a6 (n cp (f aa) (f eE)) (n c9 (f aa) z))) (n az (n a7 (n bV (f da) (f ab)) (n cq (f dM) z)) gj))) (n af (n aa (n aK gk (n bf (n bX (f aa) (f ab)) (n (db P) (f aa) z))) (n aM (n ac (n ab (f ab) (f fh)) (n cr (f dP) z)) (n bg (n bY (f aa) (f aa)) (n dc (f dQ) z)))) (n ab (n aA gl (n ac (n ab (f df) (f eI)) (n aa (f eJ) z))) (n ac (n a0 (n bZ (f dg) (f eK)) (n ct (f dR) z)) gm)))))
theorem te5133283215013249290:tw5133283215013249290=tw5133283215013249290:=rfl
noncomputable def tw5323499144676948459:Params->BT:=λP=>n (boot_o_0 P) (n (boot_o_1 P) (n (fu P) (n (boot_o_7 P) (n aa (n aB (n (aN P) (n bw (f cu) z) (n bz (f dh) z)) (n a1 (n bA (f aa) z) gn)) (n ag (n aU (n ac (f (cv P)) z) (n aa (f dV) z)) (n (bh P) (n bB (f aa) z) (n cT (f di) z)))) (n ab (n ai (n aO (n bi (f aa) z) (n b2 (f aa) z)) (n a8 (n bC (f dj) z) (n aa (f dZ) z))) (n aa (n (a2 P) (n bD (f cU) z) (n b3 (f aa) z)) (n bj f6 (n cw (f dl) z))))) (n aa (n aC (n ab (n aP gn (n bE (f dm) z)) (n (a9 P) gn (n b4 (f aa) z))) (n aa (n aV (n b5 (f cV) z) f6) (n bl (n bF (f (l3 [(207,4,315),(212,4,322),(218,4,329),(221,4,336),(224,4,341),(228,4,346),(238,4,353),(241,4,360),(244,4,367),(247,4,374),(250,4,381)])) z) (n ab (f dn) z)))) (n aj (n al (n (aW P) (n bm (f cW) z) (n b6 (f aa) z)) (n ba (n bG (f ab) z) f6)) (n aD (n a3 (n bH (f cX) z) (n aa (f dp) z)) (n (bI P) (n aa (f dq) z) (n cx (f aa) z)))))) (n (boot_o_5 P) (n (boot_o_9 P) (n am (n an (n ab gr (n ab (f d8) z)) (n ad (n b7 (f cY) z) (n cy (f dr) z))) (n ac (n (aQ P) (n aa (f cz) z) (n b8 (f ds) z)) (n ab (n b9 (f (dt [(d P "__module__" 608 (v "patchkin.desk" 557)),(d P "__qualname__" 610 (v "Desk" 609)),(d P "__firstlineno__" 612 (vi 205 611)),(d P "__init__" 619 (r 316)),(d P "begin" 627 (r 323)),(d P "stores" 634 (r 330)),(d P "patches" 641 (r 337)),(d P "has" 647 (r 342)),(d P "record" 653 (r 347)),(d P "cut" 664 (r 354)),(d P "back" 674 (r 361)),(d P "take" 684 (r 368)),(d P "drop" 693 (r 375)),(d P "leans" 701 (r 382))] 14)) z) (n cA (f aa) z)))) (n aa (n aa (n ad (n bn (f cB) z) (n cC (f du) z)) (n (a4 P) (n ab (f cZ) z) (n c0 (f dv) z))) (n bb (n ab (n ca (f dw) z) (n ab (f ec) z)) (n aa (n bJ (f aa) z) f6)))) (n ae (n ao (n aa (n (aE P) (n bo (f cD) z) f6) (n ab (n cb (f c1) z) (n ac (f dx) z))) (n aF (n ad gn (n cE (f dy) z)) (n (bc P) (n ab (f ef) z) (n aa (f eh) z)))) (n aa (n aG (n ab (n bL (f cF) z) (n ab (f dz) z)) (n ad (n aa (f c2) z) (n cG (f aa) z))) (n ad (n (aX P) (n (bM P) (f ab) z) (n cc (f ab) z)) (n bN (n cd (f aa) z) (n c3 (f dA) z))))))) (n (boot_o_2 P) (n (boot_o_4 P) (n (boot_o_8 P) (n ab (n ap (n aa gn gn) (n a5 (n bO (f dB) z) (n ab (f ek) z))) (n aq (n aa (n (ce P) (f cH) z) (n cI (f dC) z)) (n aa (n aa (f ac) z) (n cJ (f dD) z)))) (n ar (n au (n aR (n (bp P) (f ab) z) (n aa (f eo) z)) (n aa (n aa (f c4) z) (n c5 (f dE) z))) (n (av P) (n aa gn f6) (n bq (n cf (f dF) z) (n cK (f aa) z))))) (n ft (n aw (n ax (n aa (n bP (f c6) z) (n bQ (f aa) z)) (n aa gr f6)) (n ab (n aY (n cg (f c7) z) (n ab (f ev) z)) (n aa (n aa (f ew) z) (n cL (f aa) z)))) (n ay (n aa (n aa (n bR (f cM) z) f6) (n be (n bS (f dG) z) (n ab (f dH) z))) (n aH (n aa (n bT (f aa) z) (n cN (f aa) z)) (n aa (n ab (f dI) z) (n aa (f eA) z)))))) (n (boot_o_6 P) (n (boot_o_10 P) (n aa (n aa (n aS (n br (f cO) z) (n ch (f dJ) z)) (n ac (n ci (f c8) z) (n cj (f dK) z))) (n (aI P) (n aT (n ck (f cP) z) (n cm (f aa) z)) (n bt (n bU (f aa) z) f6))) (n aJ (n ab (n ac (n bu (f aa) z) (n cn (f dL) z)) (n a6 (n cp (f aa) z) (n c9 (f aa) z))) (n az (n a7 (n bV (f da) z) (n cq (f dM) z)) (n ac (n bW (f eF) z) (n ab (f dN) z))))) (n af (n aa (n aK (n aL (n bv (f cQ) z) (n ab (f dO) z)) (n bf (n bX (f aa) z) (n (db P) (f aa) z))) (n aM (n ac gr (n cr (f dP) z)) (n bg (n bY (f aa) z) (n dc (f dQ) z)))) (n ab (n aA (n aZ (n aa (f cR) z) (n cs (f aa) z)) (n ac (n ab (f df) z) (n aa (f eJ) z))) (n ac (n a0 (n bZ (f dg) z) (n ct (f dR) z)) (n b0 (n b1 (f ab) z) (n cS (f dS) z)))))))
theorem te5323499144676948459:tw5323499144676948459=tw5323499144676948459:=rfl
def tw5399672682474619212:Params->BT:=λP=>n (boot_o_0 P) (n (boot_o_1 P) (n (fO P) (n (boot_o_7 P) (n aa (n aB (f (aN P)) (f a1)) (n ag (f aU) (f (bh P)))) (n ab (n ai (f aO) (f a8)) (n aa (f (a2 P)) (f bj)))) (n aa (n aC (n ab (f aP) (f (a9 P))) (n aa (f aV) (f bl))) (n aj (n al (f (aW P)) (f ba)) (n aD (f a3) z)))) (n (boot_o_5 P) (n (boot_o_9 P) (n am (n an (f ab) (f ad)) (n ac (f (aQ P)) (f ab))) (n aa (n aa (f ad) (f (a4 P))) (n bb (f ab) z))) (n ae (n ao (n aa (f (aE P)) (f ab)) (n aF (f ad) (f (bc P)))) (n aa (n aG (f ab) (f ad)) (n ad (f (aX P)) z))))) (n (boot_o_2 P) (n (boot_o_4 P) (n (boot_o_8 P) (n ab (n ap (f aa) (f a5)) (n aq (f aa) (f aa))) (n ar (n au (f aR) (f aa)) (n (av P) (f aa) (f bq)))) (n (l3 [(1,0,20),(5,0,27),(13,0,32),(18,0,39),(23,0,46),(34,0,53),(36,0,66),(38,0,78),(40,0,90),(42,0,102),(44,0,114)]) (n aw (n ax (f aa) (f aa)) (n ab (f aY) (f aa))) gy)) (n (boot_o_6 P) (n (boot_o_10 P) (n aa (n aa (f aS) (f ac)) (n (aI P) (f aT) (f bt))) gz) (n af (n aa (n aK (f aL) (f bf)) (n aM (f ac) (f bg))) (n ab (n aA (f aZ) (f ac)) (n ac (f a0) z)))))
theorem te5399672682474619212:tw5399672682474619212=tw5399672682474619212:=rfl
def tw11122777333383485134:Params->BT:=λP=>n (boot_o_0 P) (n (boot_o_1 P) (n (fQ P) (n (boot_o_7 P) (n aa (n aB (f (aN P)) (f a1)) (n ag (f aU) z)) (n ab (n ai (f aO) (f a8)) (n aa (f (a2 P)) z))) (n aa (n aC (n ab (f aP) (f (a9 P))) (n aa (f aV) z)) (n aj (n al (f (aW P)) (f ba)) (n aD (f a3) z)))) (n (boot_o_5 P) (n (boot_o_9 P) (n am (n an (f ab) (f ad)) (n ac (f (aQ P)) z)) (n aa (n aa (f ad) (f (a4 P))) (n (ty (cl (S "PatchError") [(w "ValueError")] [(r 57),(w "ValueError"),(w "Exception"),(w "BaseException"),(w "object")] 56 (S "PatchError") true [] [(r 70),(r 82),(r 94),(r 106)] false none false) [(k (r 48)),none,(k (v "PatchError" 238)),(k (v "PatchError" 246)),(k (b "ValueError.__new__")),(k (vl true))]) (f ab) z))) (n ae (n ao (n aa (f (aE P)) (f ab)) (n aF (f ad) z)) (n aa (n aG (f ab) z) (n ad (f (aX P)) z))))) (n (boot_o_2 P) (n (boot_o_4 P) (n (boot_o_8 P) gA (n ar (n au (f aR) (f aa)) (n (av P) (f aa) z))) (n (l3 [(1,0,20),(5,0,27),(13,0,32),(18,0,39),(23,0,46),(34,0,53),(36,0,66),(38,0,78),(40,0,90),(42,0,102)]) (n aw (n ax (f aa) (f aa)) (n ab (f aY) z)) gy)) (n (boot_o_6 P) (n (boot_o_10 P) (n aa (n aa (f aS) (f ac)) (n (aI P) (f aT) z)) gz) (n af (n aa (n aK (f aL) (f bf)) (n aM (f ac) z)) gB)))
theorem te11122777333383485134:tw11122777333383485134=tw11122777333383485134:=rfl
def tw17839861552097700913:Params->BT:=λP=>n (boot_o_0 P) (n (boot_o_1 P) (n (boot_o_3 P) (f (boot_o_7 P)) (f aa)) (n (boot_o_5 P) (f (boot_o_9 P)) (f ae))) (n (boot_o_2 P) (n (boot_o_4 P) (f (boot_o_8 P)) (f ab)) (n (boot_o_6 P) (f (boot_o_10 P)) (f af)))
theorem te17839861552097700913:tw17839861552097700913=tw17839861552097700913:=rfl
def tw10662102590141638807:Params->BT:=λP=>n (boot_o_0 P) (n (boot_o_1 P) (n (fu P) (n (boot_o_7 P) (n aa (n aB (n (aN P) (n bw (f cu) z) (f bz)) (n a1 (n bA (f aa) z) (f aa))) (gp P)) (n ab (n ai (n aO (n bi (f aa) z) (f b2)) (n a8 (n bC (f dj) z) (f aa))) (n aa (n (a2 P) (n bD (f cU) z) (f b3)) (n bj (f aa) (f cw))))) (n aa (n aC (n ab (n aP gn (f bE)) (n (a9 P) gn (f b4))) gq) (n aj (n al (n (aW P) (n bm (f cW) z) (f b6)) (n ba (n bG (f ab) z) (f aa))) (n aD (n a3 (n bH (f cX) z) (f aa)) (n (bI P) (f aa) (f cx)))))) (n (boot_o_5 P) (n (boot_o_9 P) (n am (n an (n ab gr (f ab)) (n ad (n b7 (f cY) z) (f cy))) (gs P)) (n aa (n aa (n ad (n bn (f cB) z) (f cC)) (n (a4 P) (n ab (f cZ) z) (f c0))) (n bb (n ab (n ca (f dw) z) (f ab)) (n aa (f bJ) (f aa))))) (n ae (n ao (n aa (n (aE P) (n bo (f cD) z) (f aa)) (n ab (n cb (f c1) z) (f ac))) (n aF (n ad gn (f cE)) (n (bc P) (f ab) (f aa)))) (n aa (n aG (n ab (n bL (f cF) z) (f ab)) (n ad (n aa (f c2) z) (f cG))) (n ad (n (aX P) (n (bM P) (f ab) z) (f cc)) (n bN (f cd) (f c3))))))) (n (boot_o_2 P) (n (boot_o_4 P) (n (boot_o_8 P) (n ab (n ap (n aa gn (f aa)) (n a5 (n bO (f dB) z) (f ab))) (gt P)) (n ar (n au (n aR (n (bp P) (f ab) z) (f aa)) (n aa (n aa (f c4) z) (f c5))) (n (av P) (n aa gn (f aa)) (n bq (f cf) (f cK))))) (n (l3 [(1,0,20),(5,0,27),(13,0,32),(18,0,39),(23,0,46),(34,0,53),(36,0,66),(38,0,78),(40,0,90),(42,0,102),(44,0,114),(47,0,126),(54,0,147),(62,0,166),(68,0,171),(73,0,178),(82,0,185),(88,0,190),(95,0,195),(98,0,202),(108,0,209),(114,0,214),(130,0,221),(135,0,226),(150,0,233),(175,0,282),(181,0,289),(186,0,296),(197,0,301)]) (n aw (n ax (n aa (n bP (f c6) z) (f bQ)) (n aa gr (f aa))) gu) (n ay (n aa (n aa (n bR (f cM) z) (f aa)) (n be (n bS (f dG) z) (f ab))) (n aH (n aa (n bT (f aa) z) (f cN)) f3)))) (n (boot_o_6 P) (n (boot_o_10 P) (n aa (n aa (n aS (n br (f cO) z) (f ch)) (n ac (n ci (f c8) z) (f cj))) (gv P)) (n aJ (n ab (n ac (n bu (f aa) z) (f cn)) (n a6 (n cp (f aa) z) (f c9))) (n az (n a7 (n bV (f da) z) (f cq)) (n ac (f bW) (f ab))))) (n af (n aa (n aK (n aL (n bv (f cQ) z) (f ab)) (n bf (n bX (f aa) z) (f (db P)))) (n aM (n ac gr (f cr)) (n bg (f bY) (f dc)))) (n ab (n aA (n aZ (n aa (f cR) z) (f cs)) (n ac (n ab (f df) z) (f aa))) (n ac (n a0 (n bZ (f dg) z) (f ct)) (n b0 (f b1) (f cS)))))))
theorem te10662102590141638807:tw10662102590141638807=tw10662102590141638807:=rfl
def tw7459677615598134399:Params->BT:=λP=>n (boot_o_0 P) (n (boot_o_1 P) (n (fU P) (n (boot_o_7 P) (n aa (n aB (f (aN P)) (f a1)) (n ag (f aU) z)) (n ab (n ai (f aO) z) (n aa (f (a2 P)) z))) (n aa gw (n aj (n al (f (aW P)) z) (n aD (f a3) z)))) (n (boot_o_5 P) (n (boot_o_9 P) (n am (n an (f ab) z) (n ac (f (aQ P)) z)) (n aa (n aa (f ad) z) (n (ty (cl (S "PatchError") [(w "ValueError")] [(r 57),(w "ValueError"),(w "Exception"),(w "BaseException"),(w "object")] 56 (S "PatchError") true [] [(r 70),(r 82),(r 94)] false none false) [(k (r 48)),none,(k (v "PatchError" 238)),(k (v "PatchError" 246)),(k (b "ValueError.__new__")),(k (vl true))]) (f ab) z))) (n ae (n ao (n aa (f (aE P)) z) (n aF (f ad) z)) (n aa (n aG (f ab) z) (n ad (f (aX P)) z))))) (n (boot_o_2 P) (n (boot_o_4 P) (n (boot_o_8 P) gA (n ar (n au (f aR) z) (n (av P) (f aa) z))) (n (l3 [(1,0,20),(5,0,27),(13,0,32),(18,0,39),(23,0,46),(34,0,53),(36,0,66),(38,0,78),(40,0,90)]) gx (n ay gn (n aH (f aa) z)))) (n (boot_o_6 P) (n (boot_o_10 P) (n aa (n aa (f aS) z) (n (aI P) (f aT) z)) (n aJ (n ab (f ac) z) (n az (f a7) z))) (n af (n aa (n aK (f aL) z) (n aM (f ac) z)) gB)))
theorem te7459677615598134399:tw7459677615598134399=tw7459677615598134399:=rfl
def tw2972776724068818111:Params->BT:=λP=>n (boot_o_0 P) (n (boot_o_1 P) (n (fX P) (n (boot_o_7 P) (n aa (f aB) (f ag)) (n ab (f ai) (f aa))) (n aa (n aC (f ab) (f aa)) (n aj (f al) (f aD)))) (n (boot_o_5 P) (n (boot_o_9 P) (n am (f an) (f ac)) (n aa (f aa) (f (ty (cl (S "PatchError") [(w "ValueError")] [(r 57),(w "ValueError"),(w "Exception"),(w "BaseException"),(w "object")] 56 (S "PatchError") true [] [] false none false) [(k (r 48)),none,(k (v "PatchError" 238)),(k (v "PatchError" 246)),(k (b "ValueError.__new__")),(k (vl true))])))) (n ae (n ao (f aa) (f aF)) (n aa (f aG) z)))) (n (boot_o_2 P) (n (boot_o_4 P) (n (boot_o_8 P) (n ab (f ap) (f aq)) (n ar (f au) (f (av P)))) (n (l3 [(1,0,20),(5,0,27),(13,0,32),(18,0,39),(23,0,46),(34,0,53)]) (n aw (f ax) (f ab)) (n ay (f aa) (f aH)))) (n (boot_o_6 P) (n (boot_o_10 P) (n aa (f aa) (f (aI P))) (n aJ (f ab) (f az))) (n af (n aa (f aK) (f aM)) (n ab (f aA) z))))
theorem te2972776724068818111:tw2972776724068818111=tw2972776724068818111:=rfl
def tw8340499935334208995:Params->Heap:=λP=>Heap.mk #[boot_o_0 P,boot_o_1 P,boot_o_2 P,boot_o_3 P,boot_o_4 P,boot_o_5 P,boot_o_6 P,boot_o_7 P,boot_o_8 P,boot_o_9 P,boot_o_10 P,aa,ab,ae,af] (Life.mk [] [] [] 0 [] [] false #[] [] 0 false false false 0 [2000,10,10] false 0 true [] [] 0 false)
theorem te8340499935334208995:tw8340499935334208995=tw8340499935334208995:=rfl
def tw9840294332353802728:Params->Heap:=λP=>Heap.mk #[boot_o_0 P,boot_o_1 P,boot_o_2 P,eL P,boot_o_4 P,boot_o_5 P,boot_o_6 P,boot_o_7 P,boot_o_8 P,boot_o_9 P,boot_o_10 P,aa,fo,ae,af,aa,ab,am,aa,aC,aw,ao,aa,ab,ar,aa,aJ,aj,ay,aa,ab,aB,ap,an,aa,ab,ax,aa,aK,ai,au,aa,ab,al,aa,aG,aA,ag,aq,ac,aI P,aa,ab,aF,aM,aa,av P,bb,az,aD,aH,ad,ac,aN P,aa,ab,aS,aP,aa,aE P,aL,aO,aR,ad,ac,aW P,aa,ab,aZ,aU,aa,aQ P,aT,aV,aY,ad,ac,a2 P,aa,ab,a7,a3,aa,aX P,a0,a1,a5,ad,ac,a9 P,aa,ab,bf,a8,aa,a4 P,a6,ba,be,ad,ac,bh P,aa,ab,bt,bl,aa,bc P,bg,bj,bq,aa,ac,bI P,aa,bN,b0,bw,aa,ab,br,aa,bP,bo,bv,bi,bp P,bn,bu,bm,bR,bL,aa,ac,ce P,aa,ck,b5,cg,aa,ab,bD,aa,ca,bV,bH,bT,bM P,bZ,bA,bO,b7,ci,aa,ab,cb,bX,bC,aa,ab,cp,bG,bS,aa,ab,bB,aa,b9,bU,bF,aa,ab,bY,aa,cf,bJ,bW,aa,ab,cd,b1,bz,aa,ab,ch,bE,bQ,aa,ab,b2,aa,cC,cn,b6,aa,ab,cs,aa,cI,b8,cm,aa,ab,cE,cr,b3,aa,ab,cq,aa,cN,cc,ct,aa,ab,cy,cj,b4,aa,ac,db P,aa,c5,c0,c9,aa,ab,cG,aa,cT,cJ,cA,aa,ab,cL,aa,dc,cw,cK,aa,ab,cx,aa,c3,cS,cu,aa,ab,cO,aa,c6,cD,cQ,aa,ab,cB,aa,cW,cM,cF,cR,cv P,cH,cz,cP,cV,c7,aa,ab,cU,aa,dw,da,cX,aa,ab,dg,aa,dB,cY,c8,aa,ab,c1,aa,dj,c4,cZ,aa,ab,dG,c2,df,aa,ac,eU P,aa,eS,ew,ef,aa,ab,dF,aa,eF,dq,dI,aa,ab,dh,aa,d8,dJ,dm,aa,ab,dO,aa,eo,du,dL,aa,ab,dz,aa,dV,dC,ds,aa,ab,ev,dy,dP,aa,ab,ec,dM,dp,aa,ab,dR,aa,ek,dr,dK,aa,ab,dx,aa,dZ,dE,dv,aa,ab,dH,aa,eJ,di,dD,aa,ab,dn,aa,eh,dQ,dl,aa,ab,dN,aa,eA,dA,dS,aa,ab,d7,aa,eQ,es,ee,aa,ab,en,aa,fe,d4,ey,aa,ab,eN,el,d9,aa,ab,eu,aa,fh,d0,ep,aa,ab,d6,aa,e2,eK,dU,aa,ab,fb,d2,et,aa,ab,dY,aa,eX,eE,d5,aa,ab,eI,aa,e3,eb,eC,aa,ab,eg,aa,eO,er,ed,aa,ab,ez,aa,fi,dT,ej,aa,ab,d1,aa,eZ,eG,dX,aa,ab,eD,aa,e9,ei,eH,dW,em P,ea,eB,d3,e7,e0,aa,ab,e5,aa,fp,eT,fa,aa,ab,eM,aa,fk,fc,eR,aa,ab,fg,aa,fm,eY,ff,aa,ab,e1,aa,fj,e4,eW,aa,ab,e8,aa,fv "law" "law" (x 41),eP,e6] (Life.mk [] [] [] 0 [] [] false #[] [] 0 false false false 0 [2000,10,10] false 0 true [] [] 0 false)
theorem te9840294332353802728:tw9840294332353802728=tw9840294332353802728:=rfl
def tw6958105684508295291:Params->Frag:=λP=>[(2,boot_o_2 P),(3,eL P),(15,aa),(17,am),(18,aa),(20,aw),(21,ao),(22,aa),(24,ar),(25,aa),(27,aj),(28,ay),(29,aa),(32,ap),(33,an),(34,aa),(36,ax),(37,aa),(39,ai),(40,au),(41,aa),(43,al),(44,aa),(46,aA),(47,ag),(48,aq),(55,aa),(56,av P),(57,bb),(58,az),(61,ad),(68,aa),(69,aE P),(70,aL),(73,ad),(80,aa),(81,aQ P),(82,aT),(85,ad),(92,aa),(93,aX P),(94,a0),(97,ad),(104,aa),(105,a4 P),(106,a6),(109,ad),(116,aa),(117,bc P),(118,bg),(128,aa),(130,br),(131,aa),(133,bo),(134,bv),(135,bi),(136,bp P),(137,bn),(138,bu),(139,bm),(149,aa),(151,bD),(152,aa),(154,bV),(155,bH),(156,bT),(157,bM P),(158,bZ),(159,bA),(160,bO),(163,aa),(166,bX),(167,bC),(168,aa),(171,bG),(172,bS),(173,aa),(175,bB),(176,aa),(178,bU),(179,bF),(180,aa),(182,bY),(183,aa),(185,bJ),(186,bW),(187,aa),(190,b1),(191,bz),(192,aa),(195,bE),(196,bQ),(197,aa),(199,b2),(200,aa),(202,cn),(203,b6),(204,aa),(206,cs),(207,aa),(209,b8),(210,cm),(211,aa),(214,cr),(215,b3),(216,aa),(218,cq),(219,aa),(221,cc),(222,ct),(223,aa),(226,cj),(227,b4),(235,aa),(237,cG),(238,aa),(240,cJ),(241,cA),(242,aa),(244,cL),(245,aa),(247,cw),(248,cK),(249,aa),(251,cx),(252,aa),(254,cS),(255,cu),(256,aa),(258,cO),(259,aa),(261,cD),(262,cQ),(263,aa),(265,cB),(266,aa),(268,cM),(269,cF),(270,cR),(271,cv P),(272,cH),(273,cz),(274,cP),(277,aa),(279,cU),(280,aa),(282,da),(283,cX),(284,aa),(286,dg),(287,aa),(289,cY),(290,c8),(291,aa),(293,c1),(294,aa),(296,c4),(297,cZ),(298,aa),(301,c2),(302,df),(310,aa),(312,dF),(313,aa),(315,dq),(316,dI),(317,aa),(319,dh),(320,aa),(322,dJ),(323,dm),(324,aa),(326,dO),(327,aa),(329,du),(330,dL),(331,aa),(333,dz),(334,aa),(336,dC),(337,ds),(338,aa),(341,dy),(342,dP),(343,aa),(346,dM),(347,dp),(348,aa),(350,dR),(351,aa),(353,dr),(354,dK),(355,aa),(357,dx),(358,aa),(360,dE),(361,dv),(362,aa),(364,dH),(365,aa),(367,di),(368,dD),(369,aa),(371,dn),(372,aa),(374,dQ),(375,dl),(376,aa),(378,dN),(379,aa),(381,dA),(382,dS),(383,aa),(385,d7),(386,aa),(388,es),(389,ee),(390,aa),(392,en),(393,aa),(395,d4),(396,ey),(397,aa),(400,el),(401,d9),(402,aa),(404,eu),(405,aa),(407,d0),(408,ep),(409,aa),(411,d6),(412,aa),(414,eK),(415,dU),(416,aa),(419,d2),(420,et),(421,aa),(423,dY),(424,aa),(426,eE),(427,d5),(428,aa),(430,eI),(431,aa),(433,eb),(434,eC),(435,aa),(437,eg),(438,aa),(440,er),(441,ed),(442,aa),(444,ez),(445,aa),(447,dT),(448,ej),(449,aa),(451,d1),(452,aa),(454,eG),(455,dX),(456,aa),(458,eD),(459,aa),(461,ei),(462,eH),(463,dW),(464,em P),(465,ea),(466,eB),(467,d3),(470,aa),(472,e5),(473,aa),(475,eT),(476,fa),(477,aa),(479,eM),(480,aa),(482,fc),(483,eR),(484,aa),(486,fg),(487,aa),(489,eY),(490,ff),(491,aa),(493,e1),(494,aa),(496,e4),(497,eW),(498,aa),(500,e8),(501,aa),(503,eP),(504,e6)]
theorem te6958105684508295291:tw6958105684508295291=tw6958105684508295291:=rfl
def tw12104979295246935747:List Stmt:=[x 35]
theorem te12104979295246935747:tw12104979295246935747=tw12104979295246935747:=rfl
def tw17777455301104838595:List Stmt:=[x 15,x 16,x 17,x 18,x 19,x 20,x 21]
theorem te17777455301104838595:tw17777455301104838595=tw17777455301104838595:=rfl
def tw6042805212502975077:List Stmt:=[x 8]
theorem te6042805212502975077:tw6042805212502975077=tw6042805212502975077:=rfl
def tw1842886699667636678:List Stmt:=[x 22,x 23,x 24,x 25,x 26]
theorem te1842886699667636678:tw1842886699667636678=tw1842886699667636678:=rfl
def tw7606351594750890888:List Stmt:=[x 31,x 32,x 33,x 34]
theorem te7606351594750890888:tw7606351594750890888=tw7606351594750890888:=rfl
def tw8935861123082921898:List Stmt:=[x 27,x 28,x 29,x 30]
theorem te8935861123082921898:tw8935861123082921898=tw8935861123082921898:=rfl
def tw14753505954229493484:List Stmt:=[x 10]
theorem te14753505954229493484:tw14753505954229493484=tw14753505954229493484:=rfl
def tw6331568360191749036:List Stmt:=[x 12,x 13]
theorem te6331568360191749036:tw6331568360191749036=tw6331568360191749036:=rfl
def tw13466747192130887570:List Stmt:=[x 0,x 1,x 2,x 3,x 4,x 5,x 6,x 7]
theorem te13466747192130887570:tw13466747192130887570=tw13466747192130887570:=rfl
def tw11576781056051794132:List Stmt:=[x 14]
theorem te11576781056051794132:tw11576781056051794132=tw11576781056051794132:=rfl
def tw6111059700673501012:List Stmt:=[x 36,x 37,x 38,x 39,x 40,x 41]
theorem te6111059700673501012:tw6111059700673501012=tw6111059700673501012:=rfl
def tw887335819554257558:List Stmt:=[x 9]
theorem te887335819554257558:tw887335819554257558=tw887335819554257558:=rfl
def tw13115142274234908347:List Stmt:=[x 11]
theorem te13115142274234908347:tw13115142274234908347=tw13115142274234908347:=rfl
def tw11076671771223884758:Program:={PySem.Challenge.pw_patchkin_k16_rooms_of_names with main:={PySem.Challenge.pw_patchkin_k16_rooms_of_names.main with body:=[x 0,x 2,x 3,x 4,x 5,x 7,x 8,x 9,x 10,x 11,x 12,x 14,x 15,x 16,x 17,x 18,x 19,x 20,x 21,x 22,x 23,x 24,x 25,x 26,x 27,x 29,x 30,x 31,x 32,x 33,x 34,x 35,x 37,x 38,x 39,x 40,x 41]}}
theorem te11076671771223884758:tw11076671771223884758=tw11076671771223884758:=rfl
end
end PySem.W.Fast
namespace PK
open PySem L2
theorem all_mk{l:W.OpenLaw}{w:World}{K:Qqy}{h:Heap}{mg:Qqx}{fa f0 f1 f2 f3 f4 f5 f6 f7 f8 f9 L5 VG VH VI VJ VL VM VN VO VP VQ VR VS Zd VT VU VV VW VX VY VZ V0 V1 V2 V3 V4 V5 V6 V7 V8 V9 V_ fT fR fY fI iK i3 fE iP jn pW:Addr}{lS kj:Tok}(X:K.In h)(G:h.Ns mainGlobals mg)(Ze:mg "law"=some (.ref fa))
  (zY:W.nsIn K mainGlobals "Line"=some (some (.ref fT)))
  (xi:W.nsIn K mainGlobals "Patch"=some (some (.ref fR)))
  (xj:W.nsIn K mainGlobals "Sight"=some (some (.ref fY)))
  (zZ:W.nsIn K mainGlobals "Desk"=some (some (.ref fI)))
  (h0:FI K "counts_with" mT f0)
  (h1:FI K "most_pairs" oG f1)
  (h2:FI K "place_from" oH f2)
  (h3:FI K "kept" Cq f3)
  (h4:FI K "lines_named_by" jM f4)
  (h5:FI K "leans_straight_on" jd f5)
  (h6:FI K "live_patches" l5 f6)
  (h7:FI K "lines_put" pM f7)
  (h8:FI K "standing_lines" jN f8)
  (h9:FI K "files_with_lines" iV f9)
  (Qc:FI K "straight_ahead" kG L5)
  (OZ:FI K "joined" wq VG)
  (Tv:FI K "all_ahead" mD VH)
  (Tw:FI K "first_free" oI VI)
  (Tx:FI K "row_of" sG VJ)
  (Tz:FI K "check_name" oJ VL)
  (TB:FI K "kept_behind" mU VM)
  (TC:FI K "new_lines" pN VN)
  (TF:FI K "changing_patch" jl VO)
  (TH:FI K "_law_cell_at" l7 VP)
  (Qd:FI K "_law_name" pP VQ)
  (O0:FI K "_law_names_are" kL VR)
  (TJ:FI K "_law_taken" oO VS)
  (TK:FI K "law" FK Zd)
  (TL:MI K fT "__init__" "Line.__init__" ly VT)
  (TM:MI K fR "__init__" "Patch.__init__" kF VU)
  (TN:MI K fY "__init__" "Sight.__init__" kI VV)
  (TQ:MI K fY "is_ahead" "Sight.is_ahead" kJ VW)
  (TR:MI K fY "quarrelling" "Sight.quarrelling" jT VX)
  (TU:MI K fI "__init__" "Desk.__init__" lA VY)
  (TV:MI K fI "begin" "Desk.begin" oK VZ)
  (TX:MI K fI "stores" "Desk.stores" mV V0)
  (TY:MI K fI "patches" "Desk.patches" l6 V1)
  (TZ:MI K fI "has" "Desk.has" oM V2)
  (T1:MI K fI "record" "Desk.record" k7 V3)
  (T3:MI K fI "files" "Desk.files" oN V4)
  (T4:MI K fI "row" "Desk.row" wu V5)
  (T5:MI K fI "patches_of" "Desk.patches_of" jz V6)
  (T6:MI K fI "sight_of" "Desk.sight_of" lB V7)
  (T7:MI K fI "check_store" "Desk.check_store" j0 V8)
  (Qe:MI K fI "check_new" "Desk.check_new" kK V9)
  (O2:MI K fI "keep" "Desk.keep" pO V_)
  (z0:W.plainGet K fT Str.empty=true)
  (z7:W.hasDictIn K fT=true)
  (z8:W.plainOver K fT=true)
  (z9:W.findIn K (.ref fT) "__setattr__"=some (some (.builtin "object.__setattr__")))
  (z_:W.makesIn K fT=true)
  (Aa:W.keepIn K (.ref fT)=true)
  (fV:W.findIn K (.ref fT) "name"=some none)
  (jr:W.findIn K (.ref fT) "text"=some none)
  (gZ:W.findIn K (.ref fT) "upper_name"=some none)
  (g0:W.findIn K (.ref fT) "lower_name"=some none)
  (xk:W.plainGet K fR Str.empty=true)
  (xl:W.hasDictIn K fR=true)
  (xm:W.plainOver K fR=true)
  (xn:W.findIn K (.ref fR) "__setattr__"=some (some (.builtin "object.__setattr__")))
  (xo:W.makesIn K fR=true)
  (xp:W.keepIn K (.ref fR)=true)
  (h_:W.findIn K (.ref fR) "name"=some none)
  (iO:W.findIn K (.ref fR) "file"=some none)
  (ja:W.findIn K (.ref fR) "puts"=some none)
  (jb:W.findIn K (.ref fR) "cuts"=some none)
  (ie:W.findIn K (.ref fR) "other"=some none)
  (xq:W.plainGet K fY Str.empty=true)
  (xr:W.hasDictIn K fY=true)
  (xt:W.plainOver K fY=true)
  (xu:W.findIn K (.ref fY) "__setattr__"=some (some (.builtin "object.__setattr__")))
  (xv:W.makesIn K fY=true)
  (xw:W.keepIn K (.ref fY)=true)
  (iW:W.findIn K (.ref fY) "ahead"=some none)
  (g6:W.findIn K (.ref fY) "lines"=some none)
  (Ab:W.plainGet K fI Str.empty=true)
  (Ac:W.hasDictIn K fI=true)
  (Ae:W.plainOver K fI=true)
  (Af:W.findIn K (.ref fI) "__setattr__"=some (some (.builtin "object.__setattr__")))
  (Ag:W.makesIn K fI=true)
  (Ai:W.keepIn K (.ref fI)=true)
  (iu:W.findIn K (.ref fI) "made"=some none)
  (jc:W.findIn K (.ref fI) "needs"=some none)
  (ig:W.findIn K (.ref fI) "held"=some none)
  (mZ:W.nsIn K mainGlobals "PatchError"=some (some (.ref iK)))
  (rR:W.nsIn K mainGlobals "BadName"=some (some (.ref i3)))
  (oW:W.nsIn K mainGlobals "NameTaken"=some (some (.ref fE)))
  (rS:W.nsIn K mainGlobals "NoStore"=some (some (.ref iP)))
  (oX:W.nsIn K mainGlobals "Unsettled"=some (some (.ref jn)))
  (Aj:W.nsIn K mainGlobals "Same"=some (some (.ref pW)))
  (m_:W.nsIn K mainGlobals "NAME_SIGNS"=some (some (.str (Str.ofString "abcdefghijklmnopqrstuvwxyz0123456789") lS)))
  (lG:W.nsIn K mainGlobals "LONGEST_NAME"=some (some (.int 12 kj)))
  (G1:W.nsIn K mainGlobals "len"=some none)
  (Ak:W.nsIn K mainGlobals "range"=some none)
  (G2:W.nsIn K mainGlobals "max"=some none)
  (oY:W.nsIn K mainGlobals "isinstance"=some none)
  (CV:W.nsIn K mainGlobals "list"=some none)
  (G3:W.nsIn K mainGlobals "str"=some none)
  (rV:W.nsIn K mainGlobals "reversed"=some none)
  (xx:W.nsIn K mainGlobals "sorted"=some none)
  (G4:W.nsIn K mainGlobals "set"=some none)
  (qr:W.nsIn K mainGlobals "enumerate"=some none)
  (oZ:W.nsIn K mainGlobals "ValueError"=some none)
  (o3:W.findIn K (.ref fE) "__getattribute__"=some (some (.builtin "BaseException.__getattribute__")))
  (o4:W.findIn K (.ref fE) "__getattr__"=some none)
  (o5:W.findIn K (.ref fE) "__class__"=some (some (.builtin "object.__class__")))
  (o6:W.mroIn K fE (.type "object")=some true)
  (o7:W.mroIn K fE (.type "BaseException")=some true)
  (nc:W.excIn K iK [.type "ValueError",.type "Exception",.type "BaseException",.type "object"] "ValueError.__new__"=true)
  (rW:W.excIn K i3 [.type "ValueError",.type "Exception",.type "BaseException",.type "object"] "ValueError.__new__"=true)
  (o8:W.excIn K fE [.type "ValueError",.type "Exception",.type "BaseException",.type "object"] "ValueError.__new__"=true)
  (rX:W.excIn K iP [.type "ValueError",.type "Exception",.type "BaseException",.type "object"] "ValueError.__new__"=true)
  (o9:W.excIn K jn [.type "ValueError",.type "Exception",.type "BaseException",.type "object"] "ValueError.__new__"=true)
  (Al:W.excIn K pW [.type "ValueError",.type "Exception",.type "BaseException",.type "object"] "ValueError.__new__"=true)
  (iL:W.kitOne K (.ref fE) (.ref iK)=some true)
  (jf:W.kitOne K (.ref fE) (.ref i3)=some false)
  (iX:W.kitOne K (.ref fE) (.ref fE)=some true)
  (jg:W.kitOne K (.ref fE) (.ref iP)=some false)
  (iY:W.kitOne K (.ref fE) (.ref jn)=some false)
  (jP:W.kitOne K (.ref fE) (.ref pW)=some false)
  (o_:W.kitOne K (.ref fE) (.type "ValueError")=some true)
  (pb:(W.clsIn K fE).isSome=true)
  (mO:Cd K fE iK=true)
  (jQ:Cd K fE fE=true) :
  ∃fd:FuncData,(∀(s:Shared)(v:Value),BindsTo s fd ⟨[v],[]⟩ [("script",v)])/\∀base:Heap,K.In base->base.Ns mainGlobals mg->gS l.prog w K mg base lR 20 fa fd ["script"] (Ds K):=by
 obtain⟨m0,d0,F0⟩:=h0
 obtain⟨m1,d1,F1⟩:=h1
 obtain⟨m2,d2,F2⟩:=h2
 obtain⟨m3,d3,F3⟩:=h3
 obtain⟨m4,d4,F4⟩:=h4
 obtain⟨m5,d5,F5⟩:=h5
 obtain⟨m6,d6,F6⟩:=h6
 obtain⟨m7,d7,F7⟩:=h7
 obtain⟨m8,d8,F8⟩:=h8
 obtain⟨m9,d9,F9⟩:=h9
 obtain⟨Zf,Zg,Wa⟩:=Qc
 obtain⟨Zh,Zi,Wb⟩:=OZ
 obtain⟨Zj,Zk,Wc⟩:=Tv
 obtain⟨Zl,Zm,Wd⟩:=Tw
 obtain⟨Zn,Zo,We⟩:=Tx
 obtain⟨Zp,Zq,Wf⟩:=Tz
 obtain⟨Zr,Zs,Wg⟩:=TB
 obtain⟨Zt,Zu,Wh⟩:=TC
 obtain⟨Zv,Zw,Wi⟩:=TF
 obtain⟨Zx,Zy,Wj⟩:=TH
 obtain⟨Zz,ZA,Wk⟩:=Qd
 obtain⟨ZC,ZD,Wl⟩:=O0
 obtain⟨ZE,ZF,Wm⟩:=TJ
 obtain⟨ZG,ZH,Wn⟩:=TK
 obtain⟨T8,ZI,Wo⟩:=TL
 obtain⟨T9,ZJ,Wq⟩:=TM
 obtain⟨T_,ZK,Wr⟩:=TN
 obtain⟨ZL,ZM,Ws⟩:=TQ
 obtain⟨ZN,ZO,Wt⟩:=TR
 obtain⟨Ua,ZP,Wu⟩:=TU
 obtain⟨ZQ,ZR,Wv⟩:=TV
 obtain⟨ZS,ZT,Ww⟩:=TX
 obtain⟨ZU,ZV,Wx⟩:=TY
 obtain⟨ZW,ZX,Wy⟩:=TZ
 obtain⟨ZY,ZZ,Wz⟩:=T1
 obtain⟨Z0,Z1,WA⟩:=T3
 obtain⟨Z2,Z3,WB⟩:=T4
 obtain⟨Z4,Z5,WC⟩:=T5
 obtain⟨Z6,Z7,WD⟩:=T6
 obtain⟨Z8,Z9,WE⟩:=T7
 obtain⟨Z_,d40,WG⟩:=Qe
 obtain⟨m41,d41,WH⟩:=O2
 have e:=Ze.symm.trans (aan X G ZG)
 cases e
 have T:Txt mg:=⟨aaX X G G1,aaX X G Ak,aaX X G G2,aaX X G oY,aaX X G CV,aaX X G G3,aaX X G rV,aaX X G xx,aaX X G G4,aaX X G qr,aaX X G oZ⟩
 have O:Ok K mg (Ad.mk f0 d0 f1 d1 f2 d2 f3 d3 VT ZI VU ZJ f4 d4 f5 d5 f6 d6 f7 d7 f8 d8 f9 d9 L5 Zg VG Zi VH Zk VI Zm VJ Zo VV ZK VW ZM VX ZO VL Zq VM Zs VN Zu VO Zw VY ZP VZ ZR V0 ZT V1 ZV V2 ZX V3 ZZ V4 Z1 V5 Z3 V6 Z5 V7 Z7 V8 Z9 V9 d40 V_ d41 VP Zy VQ ZA VR ZD VS ZF fT fR fY fI iK i3 fE iP jn pW lS kj ()):=⟨⟨F0,F0.bd,aan X G m0⟩,⟨F1,F1.bd,aan X G m1⟩,⟨F2,F2.bd,aan X G m2⟩,⟨F3,F3.bd,aan X G m3⟩,⟨Wo,Wo.bd,T8⟩,⟨Wq,Wq.bd,T9⟩,⟨F4,F4.bd,aan X G m4⟩,⟨F5,F5.bd,aan X G m5⟩,⟨F6,F6.bd,aan X G m6⟩,⟨F7,F7.bd,aan X G m7⟩,⟨F8,F8.bd,aan X G m8⟩,⟨F9,F9.bd,aan X G m9⟩,⟨Wa,Wa.bd,aan X G Zf⟩,⟨Wb,Wb.bd,aan X G Zh⟩,⟨Wc,Wc.bd,aan X G Zj⟩,⟨Wd,Wd.bd,aan X G Zl⟩,⟨We,We.bd,aan X G Zn⟩,⟨Wr,Wr.bd,T_⟩,⟨Ws,Ws.bd,ZL⟩,⟨Wt,Wt.bd,ZN⟩,⟨Wf,Wf.bd,aan X G Zp⟩,⟨Wg,Wg.bd,aan X G Zr⟩,⟨Wh,Wh.bd,aan X G Zt⟩,⟨Wi,Wi.bd,aan X G Zv⟩,⟨Wu,Wu.bd,Ua⟩,⟨Wv,Wv.bd,ZQ⟩,⟨Ww,Ww.bd,ZS⟩,⟨Wx,Wx.bd,ZU⟩,⟨Wy,Wy.bd,ZW⟩,⟨Wz,Wz.bd,ZY⟩,⟨WA,WA.bd,Z0⟩,⟨WB,WB.bd,Z2⟩,⟨WC,WC.bd,Z4⟩,⟨WD,WD.bd,Z6⟩,⟨WE,WE.bd,Z8⟩,⟨WG,WG.bd,Z_⟩,⟨WH,WH.bd,m41⟩,⟨Wj,Wj.bd,aan X G Zx⟩,⟨Wk,Wk.bd,aan X G Zz⟩,⟨Wl,Wl.bd,aan X G ZC⟩,⟨Wm,Wm.bd,aan X G ZE⟩,⟨z0,z7,z8,z9⟩,⟨z_,T8.at_,T8.fn,Aa⟩,aan X G zY,fV,jr,gZ,g0,⟨xk,xl,xm,xn⟩,⟨xo,T9.at_,T9.fn,xp⟩,aan X G xi,h_,iO,ja,jb,ie,⟨xq,xr,xt,xu⟩,⟨xv,T_.at_,T_.fn,xw⟩,aan X G xj,iW,g6,⟨Ab,Ac,Ae,Af⟩,⟨Ag,Ua.at_,Ua.fn,Ai⟩,aan X G zZ,iu,jc,ig,⟨aan X G mZ,nc⟩,⟨aan X G rR,rW⟩,⟨aan X G oW,o8⟩,⟨aan X G rS,rX⟩,⟨aan X G oX,o9⟩,⟨aan X G Aj,Al⟩,aan X G m_,aan X G lG,⟨o3,o4,o5,o6,o7,pb⟩,iL,jf,iX,jg,iY,jP,o_,mO,jQ,True.intro⟩
 refine⟨ZH,λs v=>?_,λbase _ _=>Ls Wn T O⟩
 obtain⟨_,_,_,_,_,_,_,_,_,rfl,_,_⟩:=Wn.ex
 exact .of_eq rfl
theorem walk{l:W.OpenLaw}{q:Program}{loose:List Str}{XP:(Qqx)->Heap->Prop}{YP:World->Heap->Prop}{d:DefRec}{K:Params->Qqy}(hn:l.most=some 63)(NX:d.params.defaults=[])
  (hY:∀(w:World)(h:Heap),YP w h->(K w.params).In h)
  (F:∀(w:World)(mg:Qqx)(fa:Addr)(h:Heap),(K w.params).In h->h.Ns mainGlobals mg->mg d.name=some (.ref fa)->
   ∃fd:FuncData,(∀(s:Shared)(u:Value),BindsTo s fd ⟨[u],[]⟩ [("script",u)])/\∀base:Heap,(K w.params).In base->base.Ns mainGlobals mg->gS l.prog w (K w.params) mg base lR 20 fa fd ["script"] (Ds (K w.params))) :
  W.WalkO q loose XP YP l.row.toRowW d [] (λf vs=>PySem.call f vs):=
 L2.Hw (n:=63) (k:=20) (x:="script") (CX:=λ_=>lR) (sp:=λw=>Ds (K w.params)) hn (by decide) NX ⟨rfl,by decide,by decide⟩ hY F (λ_ _ a ns hl _ hS=>⟨a,ns,rfl,hS,hl,λ_=>rfl⟩) λ_ _ _ _ _ z=>z
end PK
open PySem PySem.W PyProof.Rows
theorem PySem.Challenge.cw_patchkin_k16_rooms_of_names_holds : PySem.Challenge.rw_patchkin_k16_rooms_of_names.Holds := by
 w_on;o_law;k_head;(case hw=>w_witness2)
 k_fill
 refine PK.walk (l:=PySem.Challenge.rw_patchkin_k16_rooms_of_names) rfl rfl (λw h Y=>PySem.W.kIn_of Y) ?F
 case F=>
  intro w mg fa h KX G NY
  refine' PK.all_mk KX G NY ?zqzY ?zqxi ?zqxj ?zqzZ ?zqh0 ?zqh1 ?zqh2 ?zqh3 ?zqh4 ?zqh5 ?zqh6 ?zqh7 ?zqh8 ?zqh9 ?zqQc ?zqOZ ?zqTv ?zqTw ?zqTx ?zqTz ?zqTB ?zqTC ?zqTF ?zqTH ?zqQd ?zqO0 ?zqTJ ?zqTK ?zqTL ?zqTM ?zqTN ?zqTQ ?zqTR ?zqTU ?zqTV ?zqTX ?zqTY ?zqTZ ?zqT1 ?zqT3 ?zqT4 ?zqT5 ?zqT6 ?zqT7 ?zqQe ?zqO2 ?zqz0 ?zqz7 ?zqz8 ?zqz9 ?zqz_ ?zqAa ?zqfV ?zqjr ?zqgZ ?zqg0 ?zqxk ?zqxl ?zqxm ?zqxn ?zqxo ?zqxp ?zqh_ ?zqiO ?zqja ?zqjb ?zqie ?zqxq ?zqxr ?zqxt ?zqxu ?zqxv ?zqxw ?zqiW ?zqg6 ?zqAb ?zqAc ?zqAe ?zqAf ?zqAg ?zqAi ?zqiu ?zqjc ?zqig ?zqmZ ?zqrR ?zqoW ?zqrS ?zqoX ?zqAj ?zqm_ ?zqlG ?zqG1 ?zqAk ?zqG2 ?zqoY ?zqCV ?zqG3 ?zqrV ?zqxx ?zqG4 ?zqqr ?zqoZ ?zqo3 ?zqo4 ?zqo5 ?zqo6 ?zqo7 ?zqnc ?zqrW ?zqo8 ?zqrX ?zqo9 ?zqAl ?zqiL ?zqjf ?zqiX ?zqjg ?zqiY ?zqjP ?zqo_ ?zqpb ?zqmO ?zqjQ
  (case zqzY|zqxi|zqxj|zqzZ=>k_is)
  (case zqh0|zqh1|zqh2|zqh3|zqh4|zqh5|zqh6|zqh7|zqh8|zqh9|zqQc|zqOZ|zqTv|zqTw|zqTx|zqTz|zqTB|zqTC|zqTF|zqTH|zqQd|zqO0|zqTJ|zqTK=>refine' L2.Nb ?a ?l ?c ?k;(case a=>k_is);(case l=>k_is);(case c=>k_is);(case k=>k_is))
  (case zqTL|zqTM|zqTN|zqTQ|zqTR|zqTU|zqTV|zqTX|zqTY|zqTZ|zqT1|zqT3|zqT4|zqT5|zqT6|zqT7|zqQe|zqO2=>refine' L2.Nc ?a ?i ?l ?c ?k;(case a=>k_is);(case i=>k_is);(case l=>k_is);(case c=>k_is);(case k=>k_is))
  (case zqz0|zqz7|zqz8|zqz9|zqz_|zqAa|zqfV|zqjr|zqgZ|zqg0|zqxk|zqxl|zqxm|zqxn|zqxo|zqxp|zqh_|zqiO|zqja|zqjb|zqie|zqxq|zqxr|zqxt|zqxu|zqxv|zqxw|zqiW|zqg6|zqAb|zqAc|zqAe|zqAf|zqAg|zqAi|zqiu|zqjc|zqig|zqmZ|zqrR|zqoW|zqrS|zqoX|zqAj|zqm_|zqlG|zqG1|zqAk|zqG2|zqoY|zqCV|zqG3|zqrV|zqxx|zqG4|zqqr|zqoZ|zqo3|zqo4|zqo5|zqo6|zqo7=>k_is)
  (case zqnc|zqrW|zqo8|zqrX|zqo9|zqAl=>k_exc)
  (case zqiL|zqjf|zqiX|zqjg|zqiY|zqjP|zqo_=>kit_is)
  (case zqpb|zqmO|zqjQ=>kernel_rfl)
