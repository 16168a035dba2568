import PyProof.Rows.All
import Wide.All
import OpenK.AllK
import Wide.FinOn
import Lean
import PyProof.EqAt
import PyProof.EqKinds
import PyProof.TupleCall
import PyProof.Rows.ListRangeD
import KE.LcSums
import KE.KRevSl
import PyProof.Rows.SetFrom
import PySem.Challenge.RW_treeasks_k29_no_shares
set_option Elab.async false
set_option linter.all false
set_option maxRecDepth 100000
set_option genSizeOf false
set_option maxHeartbeats 4000000
set_option exponentiation.threshold 9000
noncomputable section
theorem zo0{x0 x3 x4 x5 x6:Int}{n1 n2:Nat}(h0:(0:Int)≤x0)(h1:(x0:Int)≤(n1:Int))(h2:((n2+(Int.toNat (x0+x3))):Nat)≤46)(h3:(n1:Nat)≤23)(h4:(x0:Int)≠x3)(h5:(x4:Int)=(if (x3:Int)>x0 then x3 else x0))(h6:(x5:Int)=(if (x3:Int)<x0 then x3 else x0))(h7:(0:Int)≤x5)(h8:(x5:Int)≤(n1:Int))(h9:((x4+x5):Int)=(x0+x3))(h10:((0:Int)≤x6)∧((x6:Int)<x4)):(((n2+1)+(Int.toNat (x5+x6))):Nat)≤46:=by lia
theorem zo1{x0 x3 x4 x5 x6:Int}{n1 n2:Nat}(h0:(0:Int)≤x0)(h1:(x0:Int)≤(n1:Int))(h2:((n2+(Int.toNat (x0+x3))):Nat)≤46)(h3:(n1:Nat)≤23)(h4:(x0:Int)≠x3)(h5:(x4:Int)=(if (x3:Int)>x0 then x3 else x0))(h6:(x5:Int)=(if (x3:Int)<x0 then x3 else x0))(h7:(0:Int)≤x5)(h8:(x5:Int)≤(n1:Int))(h9:((x4+x5):Int)=(x0+x3))(h10:((0:Int)≤x6)∧((x6:Int)<x4)):((Int.toNat (x5+x6)):Nat)<(Int.toNat (x0+x3)):=by lia
theorem zo2{n0:Nat}:(((2*n0)/2):Nat)=n0:=by lia
theorem zo3{n0:Nat}:(((2*n0)%2):Nat)=0:=by lia
theorem zo4{n0 n1:Nat}(h0:(n0:Nat)<n1):((n1-(n0+1)):Nat)<(n1-n0):=by lia
theorem zo5{x0 x2:Int}{n1:Nat}(h0:(x0:Int)≤(n1:Int))(h1:((0:Int)≤x2)∧((x2:Int)<x0)):(x2:Int)≤(n1:Int):=by lia
theorem zo6{x1 x2 x3 x4:Int}{n0:Nat}(h0:((n0+(Int.toNat (x1+x2))):Nat)≤46)(h1:(x1:Int)≠x2)(h2:(x3:Int)=(if (x2:Int)>x1 then x2 else x1))(h3:(x4:Int)=(if (x2:Int)<x1 then x2 else x1))(h4:((x3+x4):Int)=(x1+x2)):(n0:Nat)<1000:=by lia
theorem zo7{x0:Int}(h0:(0:Int)≤x0):(x0:Int)=(((Int.toNat x0):Nat):Int):=by lia
theorem zo8{x0:Int}(h0:(0:Int)≤x0)(h1:(x0:Int)<4):((x0:Int)=0)∨(((x0:Int)=1)∨(((x0:Int)=2)∨((x0:Int)=3))):=by lia
theorem zo9{n0 n1:Nat}:(((n0+1)+n1):Nat)=(n0+(n1+1)):=by lia
theorem zo10{n0 n1 n2:Nat}(h0:(n0:Nat)≤n1)(h1:(n0:Nat)=n2):(n2:Nat)≤n1:=by lia
theorem zo11{n0 n1:Nat}(h0:(n0:Nat)≤n1)(h1:¬((n0:Nat)<n1)):(n0:Nat)=n1:=by lia
theorem zo12{x0:Int}{n1:Nat}(h0:(0:Int)≤x0)(h1:(x0:Int)<(n1:Int)):((Int.toNat x0):Nat)<n1:=by lia
theorem zo13{n0 n1:Nat}:(((((2*(n0+n1))+1)/2)-n0):Nat)=(0+n1):=by lia
theorem zo14{x0:Int}{n1:Nat}(h0:((0:Int)<x0)∧((x0:Int)≤(n1:Int))):((Int.toNat (x0-1)):Nat)<n1:=by lia
theorem zo15{n0 n1:Nat}(h0:¬((n0:Nat)<n1))(h1:((n0-n1):Nat)=0):(n0:Nat)=n1:=by lia
theorem zo16{n0 n1:Nat}(h0:((2*n0):Nat)=(2*n1)):(n0:Nat)=n1:=by lia
theorem zo17{x2:Int}{n0 n1 n3:Nat}(h0:(n0:Nat)≤n1)(h1:((-(n0:Int)):Int)≤x2)(h2:(n0:Nat)=n3)(h3:(n1:Nat)<(2^63)):((-(2^63)):Int)≤x2:=by lia
theorem zo18{n0:Nat}(h0:(0:Nat)<n0):(0:Int)<(n0:Int):=by lia
theorem zo19{x0:Int}(h0:(0:Int)≤x0):(1:Int)≤(1+x0):=by lia
theorem zo20{x0 x1 x3:Int}{n2:Nat}(h0:((Int.toNat (x0+x1)):Nat)≤(n2+1))(h1:(0:Int)≤x0)(h2:(x0:Int)<x1)(h3:((0:Int)≤x3)∧((x3:Int)<x1)):((Int.toNat (x0+x3)):Nat)≤n2:=by lia
theorem zo21{n0 n1:Nat}(h0:(n0:Nat)≤1000)(h1:(n1:Nat)=n0):(n1:Nat)≤1000:=by lia
theorem zo22{x0 x2:Int}{n1:Nat}(h0:(x0:Int)≤(n1:Int))(h1:(x2:Int)≤(n1:Int))(h2:(n1:Nat)≤23):((Int.toNat (x0+x2)):Nat)≤100:=by lia
theorem zo23{x0 x1 x3:Int}{n2:Nat}(h0:((Int.toNat (x0+x1)):Nat)≤(n2+1))(h1:(0:Int)≤x1)(h2:(x1:Int)<x0)(h3:((0:Int)≤x3)∧((x3:Int)<x0)):((Int.toNat (x1+x3)):Nat)≤n2:=by lia
theorem zo24{x2:Int}{n0 n1 n3:Nat}(h0:(n0:Nat)≤n1)(h1:(x2:Int)<(n0:Int))(h2:(n0:Nat)=n3)(h3:(n1:Nat)<(2^63)):(x2:Int)<(2^63):=by lia
theorem zo25{n0 n1:Nat}(h0:(n0:Nat)≤1000)(h1:(n1:Nat)≤n0):(n1:Nat)≤1000:=by lia
theorem zo26{x0 x1:Int}{n2 n3:Nat}(h0:(0:Int)<x0)(h1:(x0:Int)≤23)(h2:(0:Int)≤x1)(h3:(x1:Int)<x0)(h4:(n2:Nat)=(Int.toNat (1+x1)))(h5:(n3:Nat)=(Int.toNat (1+x1))):(n2:Nat)≤23:=by lia
theorem zo27{x0:Int}{n1 n2:Nat}(h0:(0:Int)≤x0)(h1:(n1:Nat)=(Int.toNat (1+x0)))(h2:(n2:Nat)=(Int.toNat (1+x0))):(1:Nat)≤n1:=by lia
theorem zo28{n0 n1 n2 n3 n4:Nat}(h0:(n0:Nat)=n1)(h1:(n2:Nat)=n1)(h2:(n0:Nat)=n3)(h3:(n4:Nat)<n3):(n4:Nat)<n0:=by lia
theorem zo29{n0 n1:Nat}(h0:(n0:Nat)<n1):¬((((2*n0)+1):Nat)=((2*n1)+1)):=by lia
theorem zo30{n0 n1:Nat}:(((((2*(n0+n1))+1)%2):Nat)=1)∧((n0:Nat)≤(((2*(n0+n1))+1)/2)):=by lia
theorem zo31{x0:Int}(h0:(0:Int)<x0):(x0:Int)≠0:=by lia
theorem zo32{x0:Int}{n1:Nat}(h0:((0:Int)≤x0)∧((x0:Int)<(n1:Int))):((Int.toNat x0):Nat)<n1:=by lia
theorem zo33{n0 n1 n2:Nat}(h0:(((n0+(3*(n1+1)))+5):Nat)<n2):((((n0+1)+(3*n1))+5):Nat)<n2:=by lia
theorem zo34{x0 x1:Int}{n2 n3:Nat}(h0:(0:Int)≤x0)(h1:(x0:Int)<x1)(h2:(n2:Nat)=(Int.toNat (1+x0)))(h3:(n3:Nat)=(Int.toNat (1+x0))):((n2:Int):Int)≤x1:=by lia
theorem zo35{n0 n1:Nat}(h0:(n0:Nat)=n1)(h1:(n1:Nat)<30):(0:Int)≤(2+(n1:Int)):=by lia
theorem zo36{n0 n1 n2:Nat}(h0:(n0:Nat)≤n1)(h1:(n2:Nat)≠n1)(h2:(n0:Nat)≤n2):((n2-n0):Nat)≠(n1-n0):=by lia
theorem zo37{n0:Nat}:¬(((2*n0):Nat)=1):=by lia
theorem zo38{x0 x1:Int}(h0:((1:Int)≤x0)∧((x0:Int)≤1000000000000))(h1:(x1:Int)<x0):((1+x1):Int)≤1000000000000:=by lia
theorem zo39{x0:Int}(h0:¬((0:Int)≤x0)):(x0:Int)<0:=by lia
theorem zo40{n0 n1 n2 n3 n4:Nat}(h0:((n0+n1):Nat)≤n2)(h1:(n0:Nat)=n3)(h2:(n1:Nat)=n4):((n3+n4):Nat)≤n2:=by lia
theorem zo41{x2:Int}{n0 n1:Nat}(h0:(n0:Nat)=n1)(h1:((0:Int)<x2)∧((x2:Int)≤(n1:Int))):((Int.toNat (x2-1)):Nat)<n0:=by lia
theorem zo42{x0 x2:Int}{n1:Nat}(h0:(0:Int)≤x0)(h1:(x0:Int)≤(n1:Int))(h2:((0:Int)≤x2)∧((x2:Int)<x0)):((0:Int)<x0)∧((x0:Int)≤(n1:Int)):=by lia
theorem zo43{n0 n1:Nat}(h0:(n0:Nat)≠n1):¬(((2*n0):Nat)=(2*n1)):=by lia
theorem zo44{n0 n1 n2:Nat}(h0:(n0:Nat)≤1000)(h1:(n1:Nat)≤n2)(h2:(n2:Nat)<n0):(n1:Nat)≤1000:=by lia
theorem zo45{x0 x1:Int}{n2:Nat}(h0:(0:Int)<x0)(h1:(x0:Int)≤23)(h2:(0:Int)≤x1)(h3:(x1:Int)<x0)(h4:(n2:Nat)<(Int.toNat (1+x1))):(n2:Nat)<23:=by lia
theorem zo46{n0 n1 n2:Nat}(h0:((2*n0):Nat)=n1)(h1:(n1:Nat)=(2*n2)):(n2:Nat)=n0:=by lia
theorem zo47{x0:Int}{n1:Nat}(h0:(x0:Int)<(n1:Int))(h1:(x0:Int)=(((Int.toNat x0):Nat):Int)):((Int.toNat x0):Nat)<n1:=by lia
theorem zo48{x0:Int}{n1:Nat}(h0:((0:Int)<x0)∧((x0:Int)≤(n1:Int))):(0:Int)≤(x0-1):=by lia
theorem zo49{x1:Int}{n0 n2:Nat}(h0:(n0:Nat)=(Int.toNat (1+x1)))(h1:(n2:Nat)=(Int.toNat (1+x1))):(n0:Nat)=n2:=by lia
theorem zo50{x1:Int}{n0:Nat}(h0:(1:Nat)≤n0)(h1:(n0:Nat)≤100)(h2:(x1:Int)<(n0:Int)):((Int.toNat x1):Nat)<n0:=by lia
theorem zo51{n0 n1 n2:Nat}(h0:(n0:Nat)=n1)(h1:(n2:Nat)<n0):(n2:Nat)<n1:=by lia
theorem zo52{x0 x1:Int}(h0:(1:Int)≤x0)(h1:(x0:Int)≤1000000)(h2:(x1:Int)<x0):((1+x1):Int)≤1000000:=by lia
theorem zo53{n0 n1 n2:Nat}(h0:(n0:Nat)<(2^63))(h1:(n1:Nat)≤n0)(h2:(n1:Nat)=n2):((n2:Int):Int)<(2^63):=by lia
theorem zo54{n0:Nat}:(0:Int)≤(n0:Int):=by lia
theorem zo55{x0 x1:Int}(h0:(0:Int)<x0)(h1:(x0:Int)≤23)(h2:(x1:Int)<x0):((1+x1):Int)<(2^62):=by lia
theorem zo56{x0 x1 x2 x4:Int}{n3:Nat}(h0:(x0:Int)=(if (x1:Int)>x2 then x1 else x2))(h1:(x0:Int)≤(n3:Int))(h2:((0:Int)≤x4)∧((x4:Int)<x0)):(x4:Int)≤(n3:Int):=by lia
theorem zo57{x0:Int}(h0:(0:Int)<x0):¬((x0:Int)=0):=by lia
theorem zo58{n0:Nat}(h0:(0:Int)<(n0:Int)):((n0:Int):Int)≠0:=by lia
theorem zo59{x0 x1:Int}(h0:((1:Int)≤x0)∧((x0:Int)≤1000000))(h1:(x1:Int)<x0):((1+x1):Int)≤1000000:=by lia
theorem zo60{x0:Int}{n1:Nat}(h0:(x0:Int)=(n1:Int))(h1:(n1:Nat)≤23)(h2:(1:Nat)≤n1):(0:Int)<(x0+1):=by lia
theorem zo61{n0 n1:Nat}(h0:(1:Nat)≤n0)(h1:((n1:Nat)=n0)∧((n0:Nat)≤23)):(((n1-1):Nat)≤23)∧(((n1-1):Nat)≠n0):=by lia
theorem zo62{x0:Int}(h0:(0:Int)≤((((((x0*48271)+11)%2147483647)*39373)+17)%2147483647)):((-(2^64)):Int)<((((((x0*48271)+11)%2147483647)*39373)+17)%2147483647):=by lia
theorem zo63{x3:Int}{n0 n1 n2 n4:Nat}(h0:(n0:Nat)≤n1)(h1:(n2:Nat)<n0)(h2:((-(n0:Int)):Int)≤x3)(h3:(n0:Nat)=n4)(h4:(n1:Nat)<(2^63)):((-(2^63)):Int)≤x3:=by lia
theorem zo64{n0 n1 n2:Nat}(h0:(n0:Nat)=n1)(h1:(n2:Nat)<n1):(n2:Nat)<n0:=by lia
theorem zo65{n0 n1:Nat}(h0:((2*n0):Nat)=((2*n1)+1)):False:=by lia
theorem zo66{n0:Nat}:((Int.toNat (n0:Int)):Nat)=n0:=by lia
theorem zo67{x0 x1:Int}(h0:(x0:Int)<x1)(h1:(0:Int)≤x1)(h2:(0:Int)≤x0):(0:Int)<x1:=by lia
theorem zo68{x0 x1:Int}(h0:(x0:Int)<x1)(h1:(0:Int)≤x0)(h2:(0:Int)≤x1):(0:Int)<x1:=by lia
theorem zo69{x0:Int}(h0:(0:Int)≤((((((x0*48271)+11)%2147483647)*39373)+17)%2147483647)):(((((((x0*48271)+11)%2147483647)*39373)+17)%2147483647):Int)<(2^64):=by lia
theorem zo70{x0 x1:Int}(h0:(0:Int)<x0)(h1:(x0:Int)≤23)(h2:(0:Int)≤x1)(h3:(x1:Int)<x0):((Int.toNat (1+x1)):Nat)≤1000:=by lia
theorem zo71{n0 n1 n2:Nat}(h0:(n0:Nat)=n1)(h1:(n0:Nat)≤n2):(n1:Nat)≤n2:=by lia
theorem zo72{x3:Int}{n0 n1 n2 n4:Nat}(h0:(n0:Nat)≤n1)(h1:(n2:Nat)<n0)(h2:(x3:Int)<(n0:Int))(h3:(n0:Nat)=n4)(h4:(n1:Nat)<(2^63)):(x3:Int)<(2^63):=by lia
theorem zo73{n0:Nat}:((2*(0+n0)):Nat)=(2*n0):=by lia
theorem zo74{n0 n1 n2 n3 n4:Nat}(h0:(n0:Nat)≤n1)(h1:(n2:Nat)=n3):(n0:Nat)≤(n4+n1):=by lia
theorem zo75{n0 n1 n2:Nat}(h0:(n0:Nat)=n1)(h1:(n1:Nat)≤n2):((n0+(n2-n0)):Nat)=n2:=by lia
theorem zo76{x0:Int}{n1 n2:Nat}(h0:¬((0:Int)≤x0))(h1:((-(n1:Int)):Int)≤x0)(h2:((Int.toNat (x0+(n1:Int))):Nat)=n2):(n2:Nat)<n1:=by lia
theorem zo77{x0 x1:Int}(h0:(0:Int)<x0)(h1:((0:Int)≤x1)∧((x1:Int)≤(((Int.toNat (x0-1)):Nat):Int))):((0:Int)≤x1)∧((x1:Int)<x0):=by lia
theorem zo78{x1 x2:Int}{n0 n3 n4:Nat}(h0:((n0:Int):Int)≤(x1+x2))(h1:(n3:Nat)≤23)(h2:(x1:Int)≤(n3:Int))(h3:(x2:Int)≤(n3:Int))(h4:(n4:Nat)=n0):(n4:Nat)≤46:=by lia
theorem zo79{n0 n1 n2 n3:Nat}(h0:(n0:Nat)=n1)(h1:(n1:Nat)≤23)(h2:(n1:Nat)=n2)(h3:(n3:Nat)=n1):((64*n0):Nat)<3900:=by lia
theorem zo80{n0:Nat}(h0:(n0:Nat)≤23):(n0:Nat)≤10000:=by lia
theorem zo81{x0 x1:Int}(h0:(0:Int)<x0)(h1:(x0:Int)=x1):(x0:Int)≠0:=by lia
theorem zo82{x0 x1:Int}(h0:(0:Int)≤x0)(h1:(0:Int)≤x1)(h2:(x1:Int)<x0):(0:Int)<x0:=by lia
theorem zo83{x0:Int}{n1 n2:Nat}(h0:((0:Int)<x0)∧((x0:Int)≤(n1:Int)))(h1:(n2:Nat)=n1):((x0-1):Int)<(n2:Int):=by lia
theorem zo84{x0 x1:Int}(h0:((Int.toNat (x0+x1)):Nat)≤0)(h1:(0:Int)≤x0)(h2:(0:Int)≤x1):(x0:Int)=x1:=by lia
theorem zo85{n0 n1 n2:Nat}(h0:(n0:Nat)≤n1):(n0:Nat)≤(n2+n1):=by lia
theorem zo86{x2:Int}{n0 n1 n3:Nat}(h0:(n0:Nat)≤n1)(h1:((-(n0:Int)):Int)≤x2)(h2:(n3:Nat)=n0)(h3:(n1:Nat)<(2^63)):¬((x2:Int)<(-(2^63))):=by lia
theorem zo87{n0 n1 n2 n3:Nat}(h0:(n0:Nat)≤2000)(h1:(n1:Nat)≤((n2+n0)+(2000*n3))):(n1:Nat)≤(n2+(2000*(n3+1))):=by lia
theorem zo88{x0:Int}(h0:(0:Int)<x0):(x0:Int)=(((Int.toNat x0):Nat):Int):=by lia
theorem zo89{n0:Nat}:((n0*2):Nat)=(n0+n0):=by lia
theorem zo90{x0:Int}{n1 n2:Nat}(h0:(0:Int)≤x0)(h1:(x0:Int)<(n1:Int))(h2:((Int.toNat x0):Nat)=n2):(n2:Nat)<n1:=by lia
theorem zo91{x0 x1 x2 x3:Int}(h0:(x0:Int)<x1)(h1:((0:Int)≤x2)∧(((x2:Int)≤x0)∧((x2:Int)≤x3))):((0:Int)≤x2)∧(((x2:Int)≤x1)∧((x2:Int)≤x0)):=by lia
theorem zo92{x0 x1 x2 x3:Int}(h0:(x0:Int)<x1)(h1:((0:Int)≤x2)∧(((x2:Int)≤x0)∧((x2:Int)≤x3))):((0:Int)≤x2)∧(((x2:Int)≤x0)∧((x2:Int)≤x1)):=by lia
theorem zo93{n0 n1:Nat}(h0:(n0:Nat)<n1):(n1:Nat)=(n0+(((n1-n0)-1)+1)):=by lia
theorem zo94{x2:Int}{n0 n1 n3:Nat}(h0:(n0:Nat)≤n1)(h1:(x2:Int)<(n0:Int))(h2:(n3:Nat)=n0)(h3:(n1:Nat)<(2^63)):¬((x2:Int)≥(2^63)):=by lia
theorem zo95{x0 x1:Int}(h0:(0:Int)≤x0)(h1:(0:Int)≤x1)(h2:(x1:Int)≠x0)(h3:¬((x0:Int)<x1)):(0:Int)<x0:=by lia
theorem zo96{x0 x1:Int}(h0:(x0:Int)≠x1)(h1:¬((x1:Int)<x0)):(x1:Int)>x0:=by lia
theorem zo97{n0 n1 n2:Nat}(h0:((n0+(n1+1)):Nat)=n2):(((n0+1)+n1):Nat)=n2:=by lia
theorem zo98{n0:Nat}(h0:(1:Nat)≤n0)(h1:(n0:Nat)≤100):(0:Int)<(n0:Int):=by lia
theorem zo99{x0:Int}(h0:(0:Int)≤x0)(h1:(x0:Int)≠0):(0:Int)<x0:=by lia
theorem zo100{n0 n1:Nat}(h0:(n0:Nat)≤n1):(n0:Nat)≤(n1+1):=by lia
theorem zo101{n0:Nat}(h0:(0:Nat)<n0):(n0:Nat)≠0:=by lia
theorem zo102{n0 n1 n2:Nat}(h0:(n0:Nat)≤n1)(h1:(n2:Nat)=n0):(n2:Nat)≤n1:=by lia
theorem zo103{n0 n1:Nat}(h0:((n0:Int):Int)=(n1:Int)):(n0:Nat)=n1:=by lia
theorem zo104{x0:Int}:((-(2^64)):Int)<(((x0*48271)+11)%2147483647):=by lia
theorem zo105{n0 n1 n2 n3:Nat}(h0:(n0:Nat)=n1)(h1:(n1:Nat)≤23)(h2:(n1:Nat)=n2)(h3:(n3:Nat)=n1):(n1:Nat)≤1000:=by lia
theorem zo106{n0 n1:Nat}(h0:¬((n0:Nat)<n1)):(n1:Nat)≤n0:=by lia
theorem zo107{n0 n1:Nat}(h0:(n0:Nat)<(n1+1))(h1:¬((n0:Nat)=n1)):(n0:Nat)<n1:=by lia
theorem zo108{n0 n1:Nat}(h0:(n0:Nat)=n1)(h1:(n1:Nat)<23):(0:Int)<((0+(n1:Int))+1):=by lia
theorem zo109{n0:Nat}:((((2*n0)+1)/2):Nat)=n0:=by lia
theorem zo110{x0:Int}(h0:((1:Int)≤x0)∧((x0:Int)≤1000000000000)):(0:Int)<x0:=by lia
theorem zo111{n0 n1 n2 n3:Nat}(h0:(n0:Nat)≤n1)(h1:(((n2+(3*n1))+5):Nat)<n3):(((n2+(3*n0))+5):Nat)<n3:=by lia
theorem zo112{n0 n1 n2 n3:Nat}(h0:(n0:Nat)≤n1)(h1:(((n2+(16*n1))+200):Nat)<n3):(((n2+(16*n0))+200):Nat)<n3:=by lia
theorem zo113{n0 n1 n2 n3:Nat}(h0:((n0+(2000*(n1+1))):Nat)≤n2)(h1:(n3:Nat)≤2000):(((n0+n3)+(2000*n1)):Nat)≤n2:=by lia
theorem zo114{x2:Int}{n0 n1:Nat}(h0:(n0:Nat)=n1)(h1:(x2:Int)≤(n1:Int)):(x2:Int)≤(n0:Int):=by lia
theorem zo115{n0 n1 n2 n3:Nat}(h0:((n0+(2000*(n1+1))):Nat)≤n2)(h1:(n3:Nat)≤2000):((n0+n3):Nat)≤n2:=by lia
theorem zo116{x0:Int}{n1:Nat}(h0:(x0:Int)<(1+(n1:Int))):(x0:Int)≤(n1:Int):=by lia
theorem zo117{n0 n1:Nat}:((n0+(n1+1)):Nat)=((n0+1)+n1):=by lia
theorem zo118{n0 n1:Nat}(h0:(n0:Nat)=n1)(h1:(n1:Nat)<23):(n0:Nat)<1000:=by lia
theorem zo119{x0:Int}(h0:(0:Int)<x0):(0:Int)≤x0:=by lia
theorem zo120{n0:Nat}(h0:(n0:Nat)≤23):((Int.toNat (n0:Int)):Nat)=n0:=by lia
theorem zo121{n0 n1 n2:Nat}(h0:(n0:Nat)≤n1)(h1:((n1-n0):Nat)<n2):(n1:Nat)<(n0+n2):=by lia
theorem zo122{n0 n1:Nat}(h0:(n0:Nat)=n1)(h1:(n1:Nat)<30):((2+(n1:Int)):Int)≤1000:=by lia
theorem zo123{x0:Int}:((((x0*48271)+11)%2147483647):Int)<(2^64):=by lia
theorem zo124{x0 x2:Int}{n1 n3:Nat}(h0:(x0:Int)≤(n1:Int))(h1:(x2:Int)≤(n1:Int))(h2:(n1:Nat)≤23)(h3:((n3:Int):Int)≤(x0+x2)):(n3:Nat)<64:=by lia
theorem zo125{x0 x2 x3:Int}{n1:Nat}(h0:(x0:Int)<(1+(n1:Int)))(h1:(x2:Int)<(n1:Int))(h2:(x0:Int)=x3):((((x0+1)+x2)-(1+(n1:Int))):Int)<(1+(n1:Int)):=by lia
theorem zo126{n0 n1:Nat}(h0:(n0:Nat)<n1):¬((((((2*n0)+1)%2):Nat)=1)∧((n1:Nat)≤(((2*n0)+1)/2))):=by lia
theorem zo127{x0:Int}{n1:Nat}(h0:(0:Int)≤x0)(h1:(x0:Int)<36):((-(n1:Int)):Int)≤x0:=by lia
theorem zo128{x0:Int}(h0:(1:Int)≤x0)(h1:(x0:Int)≤23):(x0:Int)=(((Int.toNat x0):Nat):Int):=by lia
theorem zo129{x0:Int}(h0:(0:Int)≤x0):((-(2^62)):Int)≤(1+x0):=by lia
theorem zo130{n0 n1 n2:Nat}(h0:(((n0+(16*(n1+1)))+200):Nat)<n2):((((n0+3)+(16*n1))+200):Nat)<n2:=by lia
theorem zo131{x0:Int}{n1:Nat}(h0:(0:Int)<x0)(h1:(x0:Int)≤(n1:Int)):((Int.toNat (x0-1)):Nat)<n1:=by lia
theorem zo132{x0 x1 x2:Int}(h0:(x0:Int)=(if (x1:Int)>x2 then x1 else x2))(h1:(0:Int)<x0):(0:Int)≤(x0-1):=by lia
theorem zo133{n0 n1 n2:Nat}(h0:(((n0+(16*(n1+1)))+200):Nat)<n2):((((n0+1)+(16*n1))+200):Nat)<n2:=by lia
theorem zo134{x0 x1 x2:Int}{n3:Nat}(h0:(x0:Int)=(if (x1:Int)>x2 then x1 else x2))(h1:(x0:Int)≤(n3:Int)):((x0-1):Int)<(n3:Int):=by lia
theorem zo135{n0 n1 n2:Nat}(h0:(n0:Nat)=n1)(h1:(n1:Nat)=n2):(n0:Nat)=n2:=by lia
theorem zo136{n0 n1:Nat}(h0:(n0:Nat)=n1):(n0:Nat)≤n1:=by lia
theorem zo137{x0:Int}{n1:Nat}(h0:(0:Int)≤x0)(h1:((n1:Int):Int)≤x0):(n1:Nat)≤(Int.toNat x0):=by lia
theorem zo138{x0:Int}{n1:Nat}(h0:¬(((Int.toNat x0):Nat)≤n1)):(n1:Nat)≤(Int.toNat x0):=by lia
theorem zo139{n0:Nat}(h0:((n0:Int):Int)=2):(n0:Nat)=2:=by lia
theorem zo140{x0 x1 x2:Int}{n3:Nat}(h0:(x0:Int)≤x1)(h1:(((x1+1):Int)≤x2)∧((x2:Int)<(n3:Int))):((x0:Int)≤x2)∧((x2:Int)<(n3:Int)):=by lia
theorem zo141{x0 x1 x2:Int}(h0:((0:Int)≤x0)∧((x0:Int)<x1))(h1:((0:Int)≤x2)∧((x2:Int)≤x0)):((0:Int)≤x2)∧((x2:Int)≤x1):=by lia
theorem zo142{x0 x1 x3:Int}{n2:Nat}(h0:((0:Int)≤x0)∧((x0:Int)<x1))(h1:((n2:Int):Int)≤(x3+x0)):(((n2:Int)+1):Int)≤(x1+x3):=by lia
theorem zo143{x0 x1 x3:Int}{n2:Nat}(h0:((0:Int)≤x0)∧((x0:Int)<x1))(h1:((n2:Int):Int)≤(x3+x0)):(((n2:Int)+1):Int)≤(x3+x1):=by lia
theorem zo144{n0 n1 n2:Nat}(h0:(n0:Nat)≤1000)(h1:(n1:Nat)≤(n2+(2000*n0)))(h2:(n2:Nat)=0):(n1:Nat)≤16777216:=by lia
theorem zo145{n0 n1:Nat}(h0:(n0:Nat)≤n1)(h1:(n1:Nat)≤(((2^63)-1)/8)):¬((n0:Nat)>(((2^63)-1)/8)):=by lia
theorem zo146{x0:Int}(h0:(1:Int)≤x0)(h1:(x0:Int)≤1000000):(0:Int)<x0:=by lia
theorem zo147{x0 x1:Int}(h0:(x0:Int)≠x1)(h1:¬((x1:Int)<x0)):(x0:Int)<x1:=by lia
theorem zo148{n0 n1 n2:Nat}(h0:((n0-n1):Nat)=(n2+1)):¬((n0:Nat)=n1):=by lia
theorem zo149{x0:Int}(h0:((1:Int)≤x0)∧((x0:Int)≤1000000)):(0:Int)<x0:=by lia
theorem zo150{n0 n1:Nat}(h0:(n0:Nat)=n1)(h1:(n1:Nat)<30):(n0:Nat)<1000:=by lia
theorem zo151{x2:Int}{n0 n1:Nat}(h0:(n0:Nat)=n1)(h1:((0:Int)<x2)∧((x2:Int)≤(n1:Int))):((0:Int)<x2)∧((x2:Int)≤(n0:Int)):=by lia
theorem zo152{n0 n1:Nat}(h0:(1:Int)≤(n0:Int))(h1:((n0:Int):Int)≤23)(h2:(n1:Nat)=n0):((-(2^63)):Int)≤(n0:Int):=by lia
theorem zo153{n0 n1 n2:Nat}(h0:(((n0+(16*n1))+200):Nat)<n2):((n0+64):Nat)<n2:=by lia
theorem zo154{n0 n1 n2:Nat}(h0:(n0:Nat)=n1)(h1:(1:Nat)≤n0)(h2:(n0:Nat)≤23)(h3:(n2:Nat)<n0):(n2:Nat)<23:=by lia
theorem zo155{x0 x1 x2:Int}{n3:Nat}(h0:(x0:Int)=x1)(h1:¬((((x0+1)+x2):Int)<(1+(n3:Int)))):(0:Int)≤(((x0+1)+x2)-(1+(n3:Int))):=by lia
theorem zo156{n0 n1 n2:Nat}(h0:(n0:Nat)≤8000)(h1:(n1:Nat)≤8000)(h2:(n2:Nat)=134217728):¬((((n0:Int)+(n1:Int)):Int)>(n2:Int)):=by lia
theorem zo157{n0:Nat}(h0:(1:Nat)≤n0):(n0:Nat)=((n0-1)+1):=by lia
theorem zo158{x0 x2:Int}{n1:Nat}(h0:(x0:Int)=(n1:Int))(h1:(x2:Int)<(x0+1)):(x2:Int)<(1+(n1:Int)):=by lia
theorem zo159{x2:Int}{n0 n1:Nat}(h0:(n0:Nat)≤n1)(h1:(x2:Int)<(n0:Int))(h2:(n1:Nat)<(2^63)):(x2:Int)<(2^63):=by lia
theorem zo160{n0 n1 n2:Nat}(h0:(n0:Nat)=n1)(h1:(1:Nat)≤n0)(h2:(n0:Nat)≤23)(h3:(n2:Nat)<n1):(n2:Nat)<23:=by lia
theorem zo161{x0 x1 x2:Int}{n3:Nat}(h0:(x0:Int)<x1)(h1:((x2:Int)≤x1)∧((x1:Int)<(n3:Int))):(((x0+1):Int)≤x1)∧((x1:Int)<(n3:Int)):=by lia
theorem zo162{x0 x1 x2:Int}(h0:(x0:Int)<x1)(h1:(x2:Int)<x0)(h2:(x1:Int)≤((x2+1)*1)):False:=by lia
theorem zo163{x0 x1 x2:Int}(h0:(x0:Int)=x1)(h1:¬((x2:Int)<x1)):¬((x0:Int)>x2):=by lia
theorem zo164{n0 n1:Nat}(h0:(n0:Nat)=n1)(h1:(n1:Nat)≤23):((64*n0):Nat)<3900:=by lia
theorem zo165{x0:Int}(h0:(1:Int)≤x0):(x0:Int)=(((Int.toNat x0):Nat):Int):=by lia
theorem zo166{x0 x2 x3:Int}{n1:Nat}(h0:(x0:Int)<(n1:Int))(h1:(x2:Int)=x3)(h2:(x3:Int)=(((x2+1)+x0)-(1+(n1:Int)))):False:=by lia
theorem zo167{n0 n1 n2 n3:Nat}(h0:(n0:Nat)<(2^1500))(h1:(n1:Nat)<n2)(h2:(n3:Nat)≤n0):(n3:Nat)<(2^1500):=by lia
theorem zo168{x0 x1:Int}(h0:¬((x0:Int)<x1))(h1:¬((x1:Int)<x0)):(x1:Int)=x0:=by lia
theorem zo169{x0 x1 x2:Int}(h0:(x0:Int)=x1)(h1:(x2:Int)<x1):(x0:Int)>x2:=by lia
theorem zo170{n0 n1:Nat}(h0:(1:Int)≤(n0:Int))(h1:((n0:Int):Int)≤23)(h2:(n1:Nat)=n0):(1:Nat)≤n0:=by lia
theorem zo171{n0 n1 n2:Nat}(h0:(((n0+(3*n1))+5):Nat)<n2):(n0:Nat)<n2:=by lia
theorem zo172{n0 n1 n2 n3 n4:Nat}(h0:(n0:Nat)<n1)(h1:((n2:Nat)≤n3)∧((n4:Nat)≤n0)):(n4:Nat)<n1:=by lia
theorem zo173{x0:Int}{n1:Nat}(h0:(x0:Int)=(n1:Int)):((x0+1):Int)=(1+(n1:Int)):=by lia
theorem zo174{x1:Int}{n0 n2:Nat}(h0:((-(n0:Int)):Int)≤x1)(h1:(n0:Nat)=n2):((-(n2:Int)):Int)≤x1:=by lia
theorem zo175{x0 x2:Int}{n1:Nat}(h0:(x0:Int)=(n1:Int))(h1:(x2:Int)<x0):(x2:Int)<(n1:Int):=by lia
theorem zo176{x0 x1 x2:Int}(h0:(x0:Int)<x1)(h1:(x1:Int)≤x0):(x1:Int)≤x2:=by lia
theorem zo177{x0 x1 x2:Int}(h0:(0:Int)≤x0)(h1:(0:Int)≤x1)(h2:(x0:Int)=x2):(0:Int)≤((x0+1)+x1):=by lia
theorem zo178{x0 x2:Int}{n1:Nat}(h0:(x0:Int)≤(n1:Int))(h1:(x2:Int)≤(n1:Int))(h2:(n1:Nat)≤23):((x0+x2):Int)≤46:=by lia
theorem zo179{n0 n1:Nat}(h0:(n0:Nat)<n1):((n0:Int):Int)<(n1:Int):=by lia
theorem zo180{n0 n1:Nat}(h0:(n0:Nat)≤1000)(h1:(n1:Nat)=0):((n1+(2000*n0)):Nat)≤16777216:=by lia
theorem zo181{n0 n1 n2 n3 n4:Nat}(h0:(n0:Nat)<n1)(h1:((n2:Nat)≤n0)∧((n3:Nat)≤n4)):(n2:Nat)<n1:=by lia
theorem zo182{n0 n1:Nat}(h0:(1:Int)≤(n0:Int))(h1:((n0:Int):Int)≤23)(h2:(n1:Nat)=n0):((n0:Int):Int)<(2^63):=by lia
theorem zo183{n0 n1 n2 n3:Nat}(h0:(n0:Nat)=n1)(h1:(n2:Nat)<n0)(h2:(n1:Nat)=n3):((n2:Int):Int)<(n3:Int):=by lia
theorem zo184{n0 n1:Nat}(h0:(n0:Nat)≤n1)(h1:(n0:Nat)≥n1):(n0:Nat)=n1:=by lia
theorem zo185{n0 n1:Nat}(h0:(1:Int)≤(n0:Int))(h1:((n0:Int):Int)≤23)(h2:(n1:Nat)=n0):(n0:Nat)≤23:=by lia
theorem zo186{n0 n1:Nat}(h0:(n0:Nat)≠n1):((2*n0):Nat)≠(2*n1):=by lia
theorem zo187{n0 n1:Nat}(h0:(n0:Nat)≤(n1*1000000000001))(h1:((n1*1000000000001):Nat)≤(30*1000000000001)):(n0:Nat)≤30000000000030:=by lia
theorem zo188{n0 n1:Nat}(h0:(1:Int)≤(n0:Int))(h1:((n0:Int):Int)≤23)(h2:(n1:Nat)=n0):(n0:Nat)≤1000:=by lia
theorem zo189{n0 n1:Nat}(h0:(n0:Nat)≤23)(h1:(n1:Nat)<n0):(n1:Nat)<31:=by lia
theorem zo190{n0 n1 n2:Nat}(h0:((n0+n1):Nat)≤n2):((n0+n1):Nat)≤(n2+1):=by lia
theorem zo191{n0 n1:Nat}:¬((((2*n0)+1):Nat)=(2*n1)):=by lia
theorem zo192{x2:Int}{n0 n1:Nat}(h0:(n0:Nat)=n1)(h1:((0:Int)<x2)∧((x2:Int)≤(n1:Int))):((x2-1):Int)<(n0:Int):=by lia
theorem zo193{n0:Nat}(h0:(n0:Nat)<(2^1500))(h1:(0:Nat)<n0):(0:Int)<(n0:Int):=by lia
theorem zo194{n0 n1:Nat}(h0:(n0:Nat)=n1)(h1:(n1:Nat)≤10000):(n0:Nat)≤10000:=by lia
theorem zo195{n0:Nat}:(0:Int)≤(500+(1+(n0:Int))):=by lia
theorem zo196{x0 x1:Int}(h0:(x0:Int)<0)(h1:(x1:Int)<x0):((x1+1):Int)≤0:=by lia
theorem zo197{x0 x1:Int}{n2:Nat}(h0:(x0:Int)≤x1)(h1:(x1:Int)≤((n2:Int)-1)):((x0:Int)≤x1)∧((x1:Int)<(n2:Int)):=by lia
theorem zo198{n0:Nat}(h0:(0:Int)<(n0:Int)):(1:Int)≤(n0:Int):=by lia
theorem zo199{n0 n1:Nat}(h0:(1:Int)≤(n0:Int))(h1:((n0:Int):Int)≤23)(h2:(n1:Nat)=n0):(n1:Nat)≤999:=by lia
theorem zo200{n0:Nat}:(0:Nat)<(n0+1):=by lia
theorem zo201{x0:Int}{n1:Nat}(h0:(x0:Int)=(n1:Int))(h1:(n1:Nat)≤23)(h2:(1:Nat)≤n1):(0:Int)<x0:=by lia
theorem zo202{x0:Int}(h0:(0:Int)<x0)(h1:(x0:Int)=0):False:=by lia
theorem zo203{n0 n1 n2:Nat}(h0:(n0:Nat)<n1)(h1:(n0:Nat)=n2):((n0+1):Nat)≤n1:=by lia
theorem zo204{x0 x1:Int}(h0:(0:Int)≤x0)(h1:(0:Int)≤x1)(h2:(x0:Int)<x1):(0:Int)<x1:=by lia
theorem zo205{n0 n1:Nat}:(((n0+(n1+1))+1):Nat)≤((n1+((n0+1)*1))+1):=by lia
theorem zo206{n0:Nat}(h0:((n0:Int):Int)≤9)(h1:(1:Nat)≤n0):(1:Int)≤(n0:Int):=by lia
theorem zo207{n0 n1:Nat}(h0:(n0:Nat)=n1)(h1:(n1:Nat)≤23):((64*n0):Nat)<1500:=by lia
theorem zo208{n0 n1 n2 n3:Nat}(h0:((2*n0):Nat)=n1)(h1:(n1:Nat)=((2*n2)+1)):(0:Nat)=(n3+1):=by lia
theorem zo209{n0 n1 n2 n3:Nat}(h0:((2*n0):Nat)=n1)(h1:(n1:Nat)=((2*n2)+1)):((n3+1):Nat)=0:=by lia
theorem zo210{n0:Nat}:¬(((((2*n0)+1)%2):Nat)=0):=by lia
theorem zo211{n0 n1:Nat}(h0:(n0:Nat)<64)(h1:(n1:Nat)=n0):(n0:Nat)≤1000:=by lia
theorem zo212{n0:Nat}:(0:Int)≤(1+(n0:Int)):=by lia
theorem zo213{n0 n1:Nat}:¬(((((2*n0)%2):Nat)=1)∧((n1:Nat)≤((2*n0)/2))):=by lia
theorem zo214{n0 n1:Nat}(h0:(1:Nat)≤n0)(h1:(n0:Nat)≤23)(h2:(n1:Nat)=n0):(n0:Nat)≤10000:=by lia
theorem zo215{n0 n1 n2:Nat}(h0:(n0:Nat)≤n1)(h1:(n1:Nat)<n2):(n0:Nat)<n2:=by lia
theorem zo216{x0 x1:Int}(h0:(1:Int)≤x0)(h1:(0:Int)≤x1):(0:Int)≤(x0+x1):=by lia
theorem zo217{n0:Nat}(h0:(1:Int)≤(n0:Int))(h1:((n0:Int):Int)≤23):((-(2^63)):Int)≤(n0:Int):=by lia
theorem zo218{n0 n1:Nat}(h0:(n0:Nat)<64)(h1:(n1:Nat)=n0):(n1:Nat)<64:=by lia
theorem zo219{n0:Nat}(h0:((n0:Int):Int)≤9):((-(2^63)):Int)≤(n0:Int):=by lia
theorem zo220{n0 n1:Nat}(h0:(1:Nat)≤n0)(h1:(n0:Nat)≤23)(h2:(n1:Nat)=n0):(n1:Nat)≤9999:=by lia
theorem zo221{n0 n1:Nat}(h0:((n0+1):Nat)=(n1+1)):(n0:Nat)=n1:=by lia
theorem zo222{x0 x1:Int}(h0:(1:Int)≤x0)(h1:(0:Int)≤x1):(0:Int)<(x0+x1):=by lia
theorem zo223{n0 n1 n2:Nat}(h0:(n0:Nat)<n1)(h1:(n0:Nat)=n2):(n2:Nat)≤n1:=by lia
theorem zo224{n0:Nat}(h0:(0:Int)<(n0:Int)):(0:Nat)<n0:=by lia
theorem zo225{n0 n1:Nat}(h0:¬(((n0:Int):Int)=(n1:Int))):¬((n0:Nat)=n1):=by lia
theorem zo226{n0 n1:Nat}(h0:(n0:Nat)≤200)(h1:(n1:Nat)=n0):(n0:Nat)≤1000:=by lia
theorem zo227{n0 n1:Nat}(h0:(n0:Nat)≤10000)(h1:(n1:Nat)<n0):(n1:Nat)<10001:=by lia
theorem zo228{x0:Int}{n1:Nat}(h0:¬((0:Int)≤x0))(h1:((-(n1:Int)):Int)≤x0):(x0:Int)<(n1:Int):=by lia
theorem zo229{n0 n1:Nat}(h0:(n0:Nat)≤30)(h1:(n1:Nat)<n0):(n1:Nat)<31:=by lia
theorem zo230{x0 x1:Int}(h0:(x0:Int)<x1):¬((x0:Int)>x1):=by lia
theorem zo231{n0:Nat}(h0:((n0:Int):Int)=1):(n0:Nat)=1:=by lia
theorem zo232{x0:Int}(h0:(1:Int)≤x0):(0:Int)<x0:=by lia
theorem zo233{n0 n1:Nat}(h0:(n0:Nat)=n1):(n1:Nat)≤n0:=by lia
theorem zo234{n0 n1:Nat}(h0:(n0:Nat)=n1):((n0:Int):Int)=(n1:Int):=by lia
theorem zo235{x0 x1:Int}:((x0+x1):Int)=(x1+x0):=by lia
theorem zo236{x0:Int}{n1:Nat}(h0:((x0:Int)=0)∧(((n1:Int):Int)=1)):(n1:Nat)=1:=by lia
theorem zo237{n0 n1:Nat}(h0:(n0:Nat)=n1)(h1:(1:Int)≤(n0:Int)):(1:Nat)≤n0:=by lia
theorem zo238{x0 x1:Int}{n2:Nat}(h0:(0:Int)≤x0)(h1:((x0:Int)≤x1)∧((x1:Int)<(n2:Int))):(0:Int)≤(x1+1):=by lia
theorem zo239{n0 n1:Nat}(h0:(n0:Nat)≤50)(h1:(n1:Nat)≤n0):(n1:Nat)≤100:=by lia
theorem zo240{n0 n1 n2:Nat}(h0:(n0:Nat)<n1)(h1:(n1:Nat)≤n2)(h2:(n0:Nat)=n2):False:=by lia
theorem zo241{n0 n1:Nat}(h0:(n0:Nat)≤n1)(h1:(n1:Nat)≤30):(n0:Nat)≤1000:=by lia
theorem zo242{x0:Int}(h0:((1:Int)≤x0)∧((x0:Int)≤1000000)):(0:Int)≤x0:=by lia
theorem zo243{x0:Int}(h0:(x0:Int)=0):((0:Int)≤x0)∧((x0:Int)≤0):=by lia
theorem zo244{n0:Nat}(h0:(n0:Nat)≤30):(n0:Nat)≤(2^5):=by lia
theorem zo245{n0 n1:Nat}(h0:(n0:Nat)=n1):¬(((n0+1):Nat)=n1):=by lia
theorem zo246{n0:Nat}(h0:(1:Int)≤(n0:Int))(h1:((n0:Int):Int)≤23):((n0:Int):Int)<(2^63):=by lia
theorem zo247{n0 n1:Nat}:((2*n0):Nat)≠((2*n1)+1):=by lia
theorem zo248{x0:Int}(h0:(x0:Int)≠0)(h1:¬((x0:Int)<0)):(0:Int)<x0:=by lia
theorem zo249{n0:Nat}(h0:((n0:Int):Int)=4):(n0:Nat)=4:=by lia
theorem zo250{n0:Nat}(h0:((n0:Int):Int)=3):(n0:Nat)=3:=by lia
theorem zo251{n0:Nat}(h0:((n0:Int):Int)≤9):((n0:Int):Int)≤23:=by lia
theorem zo252{n0:Nat}(h0:(n0:Nat)≤100):((n0+1):Nat)≤(16777216+1):=by lia
theorem zo253{n0:Nat}(h0:(n0:Nat)≤23):((-(2^63)):Int)≤(n0:Int):=by lia
theorem zo254{n0 n1:Nat}(h0:((n0+1):Nat)<(n1+1)):(n0:Nat)<n1:=by lia
theorem zo255{n0:Nat}(h0:((n0:Int):Int)≤9):((n0:Int):Int)<(2^63):=by lia
theorem zo256{n0:Nat}:((0+n0):Nat)=n0:=by lia
theorem zo257{x0:Int}(h0:(0:Int)<x0):((0:Int)≤x0)∧((x0:Int)≤x0):=by lia
theorem zo258{n0:Nat}(h0:(1:Int)≤(n0:Int))(h1:((n0:Int):Int)≤23):(n0:Nat)≤1000:=by lia
theorem zo259{n0:Nat}:(3:Nat)<((((((0+1)+1)+1)+1)+1)+n0):=by lia
theorem zo260{n0 n1:Nat}(h0:(n0:Nat)<n1):(n0:Nat)<(n1+1):=by lia
theorem zo261{x0:Int}(h0:(1:Int)≤x0)(h1:(x0:Int)=(((Int.toNat x0):Nat):Int)):((Int.toNat x0):Nat)≠0:=by lia
theorem zo262{x0 x1:Int}{n2:Nat}(h0:(((x0+1):Int)≤x1)∧((x1:Int)<(n2:Int))):(x0:Int)<x1:=by lia
theorem zo263{x0 x1:Int}:((x0+x1):Int)=(x0+x1):=by lia
theorem zo264{x0:Int}(h0:(0:Int)≤x0):((0:Int)≤x0)∧(((x0:Int)≤x0)∧((x0:Int)≤x0)):=by lia
theorem zo265{x0:Int}{n1:Nat}(h0:(0:Int)≤x0):((-(n1:Int)):Int)≤x0:=by lia
theorem zo266{n0:Nat}(h0:((n0:Int):Int)≤9):(n0:Nat)≤1000:=by lia
theorem zo267{n0:Nat}(h0:((n0:Int):Int)≤9):(n0:Nat)≤10000:=by lia
theorem zo268{n0 n1:Nat}(h0:(n0:Nat)<n1):((n0+1):Nat)<(n1+1):=by lia
theorem zo269{n0:Nat}(h0:(n0:Nat)<8000):((n0+1):Nat)≤8000:=by lia
theorem zo270{n0 n1:Nat}(h0:((n0+1):Nat)≤n1):(n0:Nat)≤n1:=by lia
theorem zo271{x0:Int}{n1:Nat}(h0:((0:Int)<x0)∧((x0:Int)≤(n1:Int))):(x0:Int)≤(n1:Int):=by lia
theorem zo272{x0:Int}(h0:(0:Int)<x0)(h1:(x0:Int)<1073741824):(0:Int)≤x0:=by lia
theorem zo273{n0:Nat}:((n0:Int):Int)≤(n0:Int):=by lia
theorem zo274{n0 n1:Nat}(h0:((n0:Nat)≤23)∧((n0:Nat)≠n1)):(n0:Nat)≤10000:=by lia
theorem zo275{x0 x1:Int}(h0:¬((x0:Int)≤x1)):(x1:Int)≤x0:=by lia
theorem zo276{n0 n1:Nat}(h0:(n0:Nat)≤n1):(((n0:Int)-(n1:Int)):Int)≤0:=by lia
theorem zo277{n0:Nat}(h0:((n0:Int):Int)<1):¬((1:Nat)≤n0):=by lia
theorem zo278{x0 x1:Int}(h0:(0:Int)≤x0)(h1:(x1:Int)=((x1+1)+x0)):False:=by lia
theorem zo279{x0:Int}(h0:(0:Int)<x0)(h1:(x0:Int)<1073741824):(x0:Int)≠0:=by lia
theorem zo280{n0:Nat}(h0:(n0:Nat)≤23):((n0:Int):Int)<(2^63):=by lia
theorem zo281{x0:Int}{n1:Nat}(h0:((0:Int)<x0)∧((x0:Int)≤(n1:Int))):(0:Int)<x0:=by lia
theorem zo282{x1:Int}{n0:Nat}(h0:((n0:Int):Int)≤x1)(h1:(x1:Int)≤((n0:Int)-1)):False:=by lia
theorem zo283{n0 n1:Nat}(h0:(n0:Nat)≤n1):¬((n0:Nat)>n1):=by lia
theorem zo284{x0:Int}(h0:(x0:Int)<0):(0:Int)<(-x0):=by lia
theorem zo285{n0:Nat}(h0:¬((30:Int)<(n0:Int))):(n0:Nat)≤30:=by lia
theorem zo286{x0:Int}(h0:(0:Int)<x0):(1:Int)≤x0:=by lia
theorem zo287{n0:Nat}:(0:Int)<(1+(n0:Int)):=by lia
theorem zo288{n0:Nat}(h0:(n0:Nat)≤23):(n0:Nat)≤1000:=by lia
theorem zo289{n0:Nat}(h0:(n0:Nat)≤30):(n0:Nat)≤1000:=by lia
theorem zo290{x0:Int}(h0:(1:Int)≤x0):(0:Int)≤x0:=by lia
theorem zo291{n0:Nat}(h0:(30:Int)<(n0:Int)):¬((n0:Nat)≤30):=by lia
theorem zo292{n0:Nat}:¬(((n0:Int):Int)<0):=by lia
theorem zo293{n0:Nat}(h0:(0:Int)<(n0:Int)):¬(((n0:Int):Int)=0):=by lia
theorem zo294{n0:Nat}(h0:((n0:Int):Int)=0)(h1:(0:Nat)<n0):False:=by lia
theorem zo295{n0:Nat}:((1+(n0:Int)):Int)≠0:=by lia
theorem zo296:((-(2^62)):Int)≤0:=by lia
theorem zo297{x0 x1:Int}(h0:(0:Int)<x0)(h1:(x0:Int)=0):(x1:Int)=0:=by lia
theorem zo298{n0:Nat}(h0:(0:Nat)<n0):¬(((n0:Int):Int)=0):=by lia
theorem zo299:((0+1):Nat)≤(16777216+1):=by lia
theorem zo300:(0:Int)<(2^62):=by lia
theorem zo301{n0 n1:Nat}(h0:(n0:Nat)≤n1):(n0:Nat)≤n1:=by lia
theorem zo302{n0 n1 n2:Nat}(h0:((n0+n1):Nat)≤n2):((n0+n1):Nat)≤n2:=by lia
theorem zo303{x0:Int}{n1:Nat}(h0:(x0:Int)<(n1:Int)):(x0:Int)<(n1:Int):=by lia
theorem zo304{x0:Int}(h0:(x0:Int)≠0):(x0:Int)≠0:=by lia
theorem zo305{x0:Int}(h0:(0:Int)≤x0):(0:Int)≤x0:=by lia
theorem zo306{x0:Int}(h0:(x0:Int)<36):(x0:Int)<36:=by lia
theorem PySem.W.Fast.te13810972118991355823:True:=trivial
def PySem.W.Fast.tw13810972118991355823:Nat:=0
theorem PySem.W.Fast.te14217444520564727629:True:=trivial
def PySem.W.Fast.tw14217444520564727629:Nat:=0
def PySem.W.Fast.tw13857324832436524210:PySem.Program:=PySem.Challenge.pw_treeasks_k29_no_shares
theorem PySem.W.Fast.te13857324832436524210:PySem.Challenge.pw_treeasks_k29_no_shares = PySem.W.Fast.tw13857324832436524210:=rfl
namespace L2
open PySem PySem.Spec PyProof.Rows
abbrev Key:=Sum Int Str
def keyIs:Key → Value → Bool
  | .inl k,v => Value.isInt k v
  | .inr x,v => Value.isStrOf x v
def keyH (w:World):Key → Int
  | .inl k => hashInt k
  | .inr x => hashStr w x
theorem keyIs_shape:∀ {k:Key} {v:Value},keyIs k v = true → (∃ i t,k = Sum.inl i ∧ v = Value.int i t) ∨ (∃ x t,k = Sum.inr x ∧ v = Value.str x t)
  | .inl i,v,h => by
    obtain ⟨t,e⟩:=Value.isInt_shape (k:=i) (v:=v) h
    exact .inl ⟨i,t,rfl,e⟩
  | .inr x,v,h => by
    obtain ⟨t,e⟩:=Value.isStrOf_shape (x:=x) (v:=v) h
    exact .inr ⟨x,t,rfl,e⟩
theorem keyIs_int (i:Int) (t:Tok):keyIs (.inl i) (.int i t) = true:=by simp [keyIs,Value.isInt]
theorem key_ll (a b:Int):decide ((Sum.inl a:Key) = Sum.inl b) = (a == b):=by
  by_cases e:a = b
  · subst e; simp
  · have h : ¬ (Sum.inl a:Key) = Sum.inl b:=fun q => e (Sum.inl.inj q)
    rw [decide_eq_false h]
    exact (beq_eq_false_iff_ne.mpr e).symm
theorem key_rr (a b:Str):decide ((Sum.inr a:Key) = Sum.inr b) = decide (a = b):=by
  by_cases e:a = b
  · subst e; simp
  · have h : ¬ (Sum.inr a:Key) = Sum.inr b:=fun q => e (Sum.inr.inj q)
    rw [decide_eq_false h,decide_eq_false e]
theorem key_lr (a:Int) (b:Str):decide ((Sum.inl a:Key) = Sum.inr b) = false:=decide_eq_false (fun q => nomatch q)
theorem key_rl (a:Str) (b:Int):decide ((Sum.inr a:Key) = Sum.inl b) = false:=decide_eq_false (fun q => nomatch q)
def mixKind (prog:Program) (w:World):PySem.KeyKind prog w Key where
  is:=keyIs
  hash:=keyH w
  inj:=fun v a b ha hb => by
    rcases keyIs_shape ha with ⟨i,t,rfl,rfl⟩ | ⟨x,t,rfl,rfl⟩
    · rcases keyIs_shape hb with ⟨j,u,rfl,e⟩ | ⟨y,u,rfl,e⟩
      · injection e with e1 _; rw [e1]
      · exact nomatch e
    · rcases keyIs_shape hb with ⟨j,u,rfl,e⟩ | ⟨y,u,rfl,e⟩
      · exact nomatch e
      · injection e with e1 _; rw [e1]
  byValue:=fun k v h => by
    rcases keyIs_shape h with ⟨i,t,rfl,rfl⟩ | ⟨x,t,rfl,rfl⟩ <;> rfl
  pyHash:=fun hv h => by
    rcases keyIs_shape hv with ⟨i,t,rfl,rfl⟩ | ⟨x,t,rfl,rfl⟩
    · exact wpAny_pyHash_int h
    · exact wpAny_pyHash_str h
  eqBool:=fun hu hv h => by
    rcases keyIs_shape hu with ⟨i,t,rfl,rfl⟩ | ⟨x,t,rfl,rfl⟩
    · rcases keyIs_shape hv with ⟨j,u,rfl,rfl⟩ | ⟨y,u,rfl,rfl⟩
      · rw [key_ll] at h; exact wpAny_eqBool_int h
      · rw [key_lr] at h; exact SeqAt.EqAt.int_str i t y u _ _ _ _ h
    · rcases keyIs_shape hv with ⟨j,u,rfl,rfl⟩ | ⟨y,u,rfl,rfl⟩
      · rw [key_rl] at h; exact SeqAt.EqAt.str_int x t j u _ _ _ _ h
      · rw [key_rr] at h; exact wpAny_eqBool_str h
  «strs»:=fun k x t v h => by
    rcases keyIs_shape h with ⟨i,u,rfl,e⟩ | ⟨y,u,rfl,e⟩
    · exact nomatch e
    · injection e with e1 _
      subst e1
      cases v <;> rfl
theorem mixKind_int (prog:Program) (w:World) (i:Int) (t:Tok):(mixKind prog w).is (.inl i) (.int i t) = true:=keyIs_int i t
inductive V where
  | non | bl (b:Bool) | int (i:Int) | str (x:Str) | byt (b:Array UInt8) | flt (b:UInt64) | ref (a:Addr) | ty (n:String)
  deriving DecidableEq
def RelV:V → Value → Prop
  | .non,u => u = Value.none
  | .bl b,u => u = Value.bool b
  | .int i,u => ∃ t,u = Value.int i t
  | .str x,u => ∃ t,u = Value.str x t
  | .byt b,u => ∃ t,u = Value.bytes b t
  | .flt b,u => ∃ t,u = Value.float b t
  | .ref a,u => u = Value.ref a
  | .ty n,u => u = Value.type n
abbrev Vals:List V → List Value → Prop:=Paired RelV
theorem Vals.length {xs:List V} {us:List Value} (r:Vals xs us):xs.length = us.length:=Paired.length r
theorem Vals.get:∀ {xs:List V} {us:List Value} {i:Nat} {x:V},Vals xs us → xs[i]? = some x → ∃ u,us[i]? = some u ∧ RelV x u
  | _,_,_,_,.nil,e => by simp at e
  | _,_,0,_,.cons r _,e => by simp at e; subst e; exact ⟨_,rfl,r⟩
  | _,_,i + 1,x,.cons _ t,e => by
    obtain ⟨u,h1,h2⟩:=Vals.get (i:=i) (x:=x) t (by simpa using e)
    exact ⟨u,by simpa using h1,h2⟩
theorem Vals.set {x:V} {u:Value} (r:RelV x u):∀ {xs:List V} {us:List Value} (i:Nat),Vals xs us → Vals (xs.set i x) (us.set i u)
  | _,_,_,.nil => .nil
  | _,_,0,.cons _ t => .cons r t
  | _,_,i + 1,.cons q t => .cons q (Vals.set r i t)
theorem Vals.append:∀ {xs ys:List V} {us ws:List Value},Vals xs us → Vals ys ws → Vals (xs ++ ys) (us ++ ws)
  | _,_,_,_,.nil,s => s
  | _,_,_,_,.cons r t,s => .cons r (Vals.append t s)
theorem Vals.take:∀ {xs:List V} {us:List Value} (n:Nat),Vals xs us → Vals (xs.take n) (us.take n)
  | _,_,0,_ => .nil
  | _,_,_ + 1,.nil => .nil
  | _,_,n + 1,.cons r t => .cons r (Vals.take n t)
theorem Vals.drop:∀ {xs:List V} {us:List Value} (n:Nat),Vals xs us → Vals (xs.drop n) (us.drop n)
  | _,_,0,r => r
  | _,_,_ + 1,.nil => .nil
  | _,_,n + 1,.cons _ t => Vals.drop n t
def RelO:Option V → Option Value → Prop
  | some v,some u => RelV v u
  | none,none => True
  | _,_ => False
def KV {κ:Type}:List (κ × V) → List (κ × Value) → Prop:=Paired fun (p : κ × V) (q : κ × Value) => p.1 = q.1 ∧ RelV p.2 q.2
def kV:Key → V
  | .inl i => .int i
  | .inr x => .str x
inductive HO where
  
  | lst (xs:List V)
  
  | tup (xs:List V)
  
  | dK (kvs:List (Key × V)) | dT (kvs:List (List Key × V))
  
  | set (S:Int → Bool) (n:Nat)
  
  | ins (C dx:Addr) (fs:List (Str × V))
  
  | own (x:Addr)
  
  | xd (fs:List (Str × V))
  
  | met (f x:Addr)
  
  | rng (lo hi:Int)
  
  | frz (o:Obj) (u:HO)
  
  | tbl (ps:Array Value)
  
  | ext (φ:Heap → Prop)
abbrev Hp:=Addr → Option HO
def upd (H:Hp) (a:Addr) (o:HO):Hp:=fun b => if b = a then some o else H b
theorem upd_same {H:Hp} {a:Addr} {o:HO}:upd H a o a = some o:=by unfold upd; rw [if_pos rfl]
theorem upd_ne {H:Hp} {a b:Addr} {o:HO} (h:b ≠ a):upd H a o b = H b:=by unfold upd; rw [if_neg h]
theorem upd_upd {H:Hp} {a:Addr} {o u:HO}:upd (upd H a o) a u = upd H a u:=by
  funext b; unfold upd; split <;> rfl
theorem ne_of_none {H:Hp} {a b:Addr} {o:HO} (h:H a = some o) (h':H b = none):a ≠ b:=by
  intro e; subst e; rw [h] at h'; cases h'
section
variable (P:Program) (w:World)
def ObjOk (H:Hp) (h:Heap) (a:Addr):HO → Prop
  | .lst xs => xs.length ≤ sizeLine ∧ ∃ (its:List Value) (n:Nat),Vals xs its ∧ h.get? a = some { cls:=.type "list",data:=.seq its.toArray n }
  | .tup xs => xs.length ≤ sizeLine ∧ ∃ its:List Value,Vals xs its ∧ IsTup h a its.toArray
  | .dK kvs => kvs.length ≤ sizeLine ∧ (a == sysModules) = false ∧ ∃ vs,KV kvs vs ∧ h.DictOf (mixKind P w) a vs
  | .dT kvs => kvs.length ≤ sizeLine ∧ (a == sysModules) = false ∧ ∃ xs:List (List Key × Addr × Value),
      Paired (fun (p:List Key × V) (q:List Key × Addr × Value) => p.1 = q.1 ∧ H q.2.1 = some (.tup (p.1.map kV)) ∧ RelV p.2 q.2.2) kvs xs ∧
      ∃ o es ep,h.get? a = some o ∧ o.ExactDict ∧ o.data = .dict es ep ∧ es.toList = xs.map (entryOfKey (tupleKind (mixKind P w))) ∧ (xs.map (·.1)).Nodup
  | .set S n => h.SetOf (intKind P w) a S n
  | .ins C dx fs => H dx = some (.own a) ∧ fs.length ≤ 1000 ∧ dx ≠ a ∧ h.get? a = some (PySem.W.instObj C dx) ∧
      ∃ mA,h.Ns1 dx mA ∧ (∀ f,RelO (fs.lookup f) (mA f)) ∧ PySem.Within mA (fs.map (·.1))
  | .own _ => ∃ o,h.get? a = some o
  | .xd fs => ∃ mA,h.Ns1 a mA ∧ ∀ f,RelO (fs.lookup f) (mA f)
  | .rng lo hi => ∃ t u v,h.get? a = some { cls:=.type "range",data:=.fields #[.int lo t,.int hi u,.int 1 v] }
  | .frz o u => h.get? a = some o ∧ ObjOk H h a u
  | .tbl ps => h.get? a = some { cls:=.none,data:=.fields ps }
  | .met f x => h.get? a = some (PySem.W.methodObj (.ref f) (.ref x))
  | .ext φ => φ h ∧ (∃ o,h.get? a = some o) ∧ ∀ h1 h2:Heap,φ h1 → (∀ o,h1.get? a = some o → h2.get? a = some o) → φ h2
def HOk (H:Hp) (h:Heap):Prop:=∀ a o,H a = some o → ObjOk P w H h a o
end
section
variable {P:Program} {w:World} {H H':Hp} {h h':Heap} {a:Addr} {o:HO}
theorem ObjOk.lt (x:ObjOk P w H h a o):a < h.objs.size:=by
  cases o with
  | lst xs => obtain ⟨_,_,_,_,e⟩:=x; exact Heap.lt_size e
  | tup xs => obtain ⟨_,_,_,p⟩:=x; exact p.lt
  | dK kvs => obtain ⟨_,_,_,_,o,_,_,e,_⟩:=x; exact Heap.lt_size e
  | dT kvs => obtain ⟨_,_,_,_,o,_,_,e,_⟩:=x; exact Heap.lt_size e
  | set S n => obtain ⟨o,_,_,_,e,_⟩:=x; exact Heap.lt_size e
  | ins C dx fs => obtain ⟨_,_,_,e,_⟩:=x; exact Heap.lt_size e
  | own y => obtain ⟨_,e⟩:=x; exact Heap.lt_size e
  | xd fs => obtain ⟨_,⟨_,_,_,e,_⟩,_⟩:=x; exact Heap.lt_size e
  | rng lo hi => obtain ⟨_,_,_,e⟩:=x; exact Heap.lt_size e
  | frz ob u => obtain ⟨e,_⟩:=x; exact Heap.lt_size e
  | tbl ps => exact Heap.lt_size (show h.get? a = some _ from x)
  | met f y => exact Heap.lt_size (show h.get? a = some _ from x)
  | ext φ => obtain ⟨_,⟨_,e⟩,_⟩:=x; exact Heap.lt_size e
theorem Paired.mapP {α β:Type} {F G : α → β → Prop}:∀ {l₁:List α} {l₂:List β},Paired F l₁ l₂ → (∀ a b,F a b → G a b) → Paired G l₁ l₂
  | _,_,.nil,_ => .nil
  | _,_,.cons r t,f => .cons (f _ _ r) (Paired.mapP t f)
theorem ObjOk.stay (x:ObjOk P w H h a o) (k:∀ b u,(b = a ∨ H b = some (.own a)) → h.get? b = some u → h'.get? b = some u)
    (ho:∀ b,H b = some (.own a) → H' b = some (.own a)) (ht:∀ b xs,H b = some (.tup xs) → H' b = some (.tup xs)):ObjOk P w H' h' a o:=by
  induction o with
  | lst xs => obtain ⟨z,its,n,r,e⟩:=x; exact ⟨z,its,n,r,k _ _ (.inl rfl) e⟩
  | tup xs => obtain ⟨z,its,r,ob,e,c⟩:=x; exact ⟨z,its,r,ob,k _ _ (.inl rfl) e,c⟩
  | dK kvs => obtain ⟨z,y,vs,r,ob,es,ep,e,c⟩:=x; exact ⟨z,y,vs,r,ob,es,ep,k _ _ (.inl rfl) e,c⟩
  | dT kvs =>
    obtain ⟨z,y,xs,r,ob,es,ep,e,c⟩:=x
    exact ⟨z,y,xs,Paired.mapP r fun p q z => ⟨z.1,ht _ _ z.2.1,z.2.2⟩,ob,es,ep,k _ _ (.inl rfl) e,c⟩
  | set S n => obtain ⟨ob,es,ep,t,e,c⟩:=x; exact ⟨ob,es,ep,t,k _ _ (.inl rfl) e,c⟩
  | ins C dx fs =>
    obtain ⟨d,z,ne,e,mA,⟨od,es,ep,e2,c⟩,r⟩:=x
    exact ⟨ho _ d,z,ne,k _ _ (.inl rfl) e,mA,⟨od,es,ep,k _ _ (.inr d) e2,c⟩,r⟩
  | own y => obtain ⟨ob,e⟩:=x; exact ⟨ob,k _ _ (.inl rfl) e⟩
  | xd fs => obtain ⟨mA,⟨od,es,ep,e,c⟩,r⟩:=x; exact ⟨mA,⟨od,es,ep,k _ _ (.inl rfl) e,c⟩,r⟩
  | rng lo hi => obtain ⟨t,u,v,e⟩:=x; exact ⟨t,u,v,k _ _ (.inl rfl) e⟩
  | frz ob u ih => obtain ⟨e,q⟩:=x; exact ⟨k _ _ (.inl rfl) e,ih q⟩
  | tbl ps =>
    have e:h.get? a = some { cls:=.none,data:=.fields ps }:=x
    show h'.get? a = some { cls:=.none,data:=.fields ps }
    exact k a _ (.inl rfl) e
  | met f y =>
    have e:h.get? a = some (PySem.W.methodObj (.ref f) (.ref y)):=x
    show h'.get? a = some (PySem.W.methodObj (.ref f) (.ref y))
    exact k a _ (.inl rfl) e
  | ext φ => obtain ⟨p,⟨o,e⟩,st⟩:=x; exact ⟨st _ _ p fun o q => k _ _ (.inl rfl) q,⟨o,k _ _ (.inl rfl) e⟩,st⟩
theorem HOk.lt (x:HOk P w H h) (e:H a = some o):a < h.objs.size:=(x a o e).lt
theorem HOk.fresh (x:HOk P w H h) (e:h.objs.size ≤ a):H a = none:=by
  cases q:H a with
  | none => rfl
  | some u => exact absurd (Nat.lt_of_lt_of_le (x.lt q) e) (Nat.lt_irrefl _)
theorem HOk.kept (x:HOk P w H h) (k:∀ b u,h.get? b = some u → h'.get? b = some u):HOk P w H h':=fun a o e =>
  (x a o e).stay (fun b u _ q => k b u q) (fun _ q => q) fun _ _ q => q
theorem HOk.laid (x:HOk P w H h) (k:∀ b u,h.get? b = some u → h'.get? b = some u) (hp:h.objs.size ≤ a) (new:ObjOk P w (upd H a o) h' a o):HOk P w (upd H a o) h':=fun b u e => by
  have hn:=x.fresh hp
  by_cases hb:b = a
  · subst hb; rw [upd_same] at e; cases e; exact new
  · rw [upd_ne hb] at e
    exact (x b u e).stay (fun c v _ q => k c v q) (fun c q => by rw [upd_ne (ne_of_none q hn)]; exact q) fun c xs q => by rw [upd_ne (ne_of_none q hn)]; exact q
end
def Rd (H:Hp) (a:Addr) (u:HO):Prop:=H a = some u ∨ ∃ o,H a = some (.frz o u)
theorem Rd.ok {P:Program} {w:World} {H:Hp} {h:Heap} {a:Addr} {u:HO} (r:Rd H a u) (x:HOk P w H h):ObjOk P w H h a u:=by
  rcases r with r | ⟨o,r⟩
  · exact x a u r
  · obtain ⟨_,q⟩:=x a _ r
    exact q
def Mut:Option HO → Prop
  | some (.lst _) => True
  | some (.dK _) => True
  | some (.dT _) => True
  | some (.set _ _) => True
  | some (.ins _ _ _) => True
  | some (.ext _) => True
  | _ => False
section
variable {P:Program} {w:World} {H:Hp} {h h':Heap} {x e:Addr} {o':HO}
theorem HOk.write (ok:HOk P w H h) (mu:Mut (H x)) (he:e = x ∨ H e = some (.own x)) (k:∀ b u,b ≠ e → h.get? b = some u → h'.get? b = some u) (heo:∃ u,h'.get? e = some u)
    (new:ObjOk P w (upd H x o') h' x o'):HOk P w (upd H x o') h':=fun b u q => by
  have nown:∀ c y,H c = some (.own y) → c ≠ x:=fun c y r z => by subst z; rw [r] at mu; exact mu
  have ntup:∀ c xs,H c = some (.tup xs) → c ≠ x:=fun c xs r z => by subst z; rw [r] at mu; exact mu
  by_cases hb:b = x
  · subst hb; rw [upd_same] at q; cases q; exact new
  · rw [upd_ne hb] at q
    by_cases hbe:b = e
    · have q':H b = some (.own x):=by
        rcases he with z | z
        · exact absurd (hbe.trans z) hb
        · rw [hbe]; exact z
      rw [q] at q'; cases q'
      obtain ⟨v,hv⟩:=heo
      exact ⟨v,by rw [hbe]; exact hv⟩
    · refine (ok b u q).stay (fun c v hc r => k c v ?_ r) (fun c r => by rw [upd_ne (nown c b r)]; exact r) fun c xs r => by rw [upd_ne (ntup c xs r)]; exact r
      rcases hc with rfl | hc
      · exact hbe
      · rintro rfl
        rcases he with z | z
        · exact nown c b hc z
        · rw [hc] at z; cases z; exact hb rfl
end
structure Un (fs ex:List Addr) (H H':Hp) (h h':Heap):Prop where
  keep:∀ b o,h.get? b = some o → H b = none → b ∉ fs → b ∉ ex → h'.get? b = some o
  slot:∀ b o,h.get? b = some o → H b = none → b ∈ fs → b ∉ ex → ∃ sl,h'.get? b = some { o with slots:=sl }
  free:∀ b o,h.get? b = some o → H b = none → b ∉ ex → H' b = none
  there:∀ b o,h.get? b = some o → b ∉ ex → ∃ o',h'.get? b = some o'
  tups:∀ b xs,H b = some (.tup xs) → H' b = some (.tup xs)
  frzs:∀ b o u,H b = some (.frz o u) → H' b = some (.frz o u)
  tbls:∀ b ps,H b = some (.tbl ps) → ∃ more,H' b = some (.tbl (ps ++ more))
section
variable {fs fs' ex ex':List Addr} {H H1 H2:Hp} {h h1 h2 h':Heap} {a x e:Addr} {o:HO}
theorem Un.any (u:Un fs ex H H1 h h1) {b:Addr} {ob:Obj} (q:h.get? b = some ob) (n:H b = none) (hx:b ∉ ex):∃ sl,h1.get? b = some { ob with slots:=sl }:=by
  by_cases hb:b ∈ fs
  · exact u.slot b ob q n hb hx
  · exact ⟨ob.slots,u.keep b ob q n hb hx⟩
theorem Un.kept (k:∀ b u,h.get? b = some u → h'.get? b = some u):Un fs ex H H h h' :=
  ⟨fun b ob q _ _ _ => k b ob q,fun b ob q _ _ _ => ⟨ob.slots,k b ob q⟩,fun _ _ _ n _ => n,fun b ob q _ => ⟨ob,k b ob q⟩,fun _ _ q => q,fun _ _ _ q => q,fun _ ps q => ⟨#[],by rw [q]; simp⟩⟩
theorem Un.refl:Un fs ex H H h h:=Un.kept fun _ _ q => q
theorem Un.laid (k:∀ b u,h.get? b = some u → h'.get? b = some u) (hp:h.objs.size ≤ a) (hn:H a = none):Un fs ex H (upd H a o) h h' where
  keep:=fun b u q _ _ _ => k b u q
  slot:=fun b u q _ _ _ => ⟨u.slots,k b u q⟩
  free:=fun b u q n _ => by rw [upd_ne (Nat.ne_of_lt (Nat.lt_of_lt_of_le (Heap.lt_size q) hp))]; exact n
  there:=fun b u q _ => ⟨u,k b u q⟩
  tups:=fun b xs q => by rw [upd_ne (ne_of_none q hn)]; exact q
  frzs:=fun b u xs q => by rw [upd_ne (ne_of_none q hn)]; exact q
  tbls:=fun b ps q => ⟨#[],by rw [upd_ne (ne_of_none q hn),q]; simp⟩
theorem Un.write (mu:Mut (H x)) (he:e = x ∨ H e = some (.own x)) (k:∀ b u,b ≠ e → h.get? b = some u → h'.get? b = some u) (heo:∃ u,h'.get? e = some u):Un fs ex H (upd H x o) h h':=by
  have hx:∀ b,H b = none → b ≠ x:=fun b n z => by subst z; rw [n] at mu; exact mu
  have hb:∀ b,H b = none → b ≠ e:=fun b n z => by
    subst z
    rcases he with r | r
    · exact hx b n r
    · rw [n] at r; cases r
  have hm:∀ b u,H b = some u → ¬ Mut (some u) → b ≠ x:=fun b u q nm z => by subst z; rw [q] at mu; exact nm mu
  refine ⟨fun b u q n _ _ => k b u (hb b n) q,fun b u q n _ _ => ⟨u.slots,k b u (hb b n) q⟩,fun b u q n _ => by rw [upd_ne (hx b n)]; exact n,fun b u q _ => ?_,
    fun b xs q => by rw [upd_ne (hm b _ q fun z => z)]; exact q,fun b u xs q => by rw [upd_ne (hm b _ q fun z => z)]; exact q,fun b ps q => ⟨#[],by rw [upd_ne (hm b _ q fun z => z),q]; simp⟩⟩
  by_cases hbe:b = e
  · subst hbe; exact heo
  · exact ⟨u,k b u hbe q⟩
theorem Un.mono (u:Un fs ex H H1 h h1) (hs:∀ b ∈ fs,b ∈ fs') (hx:∀ b ∈ ex,b ∈ ex'):Un fs' ex' H H1 h h1 :=
  ⟨fun b ob q n hb he => u.keep b ob q n (fun z => hb (hs b z)) fun z => he (hx b z),fun _ _ q n _ he => u.any q n fun z => he (hx _ z),fun b ob q n he => u.free b ob q n fun z => he (hx b z),fun b ob q he => u.there b ob q fun z => he (hx b z),u.tups,u.frzs,u.tbls⟩
end
def trk (h:Heap) (H:Hp):List Addr:=(List.range h.objs.size).filter fun a => (H a).isSome
def hidT (h:Heap) (H:Hp):Heap:=PySem.W.hideAll h (trk h H)
theorem hidT_size (h:Heap) (H:Hp):(hidT h H).objs.size = h.objs.size:=PySem.W.hideAll_size _ _
theorem hidT_get {h:Heap} {H:Hp} {b:Addr} {o:Obj} (e:h.get? b = some o) (n:H b = none):(hidT h H).get? b = some o :=
  PySem.W.hideAll_get _ e fun hm => by
    have q:(H b).isSome = true:=(List.mem_filter.mp hm).2
    rw [n] at q; simp at q
theorem of_hidT {h:Heap} {H:Hp} {b:Addr} {o:Obj} (e:(hidT h H).get? b = some o):h.get? b = some o ∧ H b = none:=by
  have e':h.get? b = some o:=PySem.W.of_hideAll (trk h H) e
  refine ⟨e',?_⟩
  cases q:H b with
  | none => rfl
  | some x =>
    have hm:b ∈ trk h H:=List.mem_filter.mpr ⟨List.mem_range.mpr (Heap.lt_size e'),by simp [q]⟩
    have z:(hidT h H).get? b = none:=PySem.W.hideAll_none (trk h H) hm
    rw [z] at e; cases e
structure Mod (K:PySem.W.Frag) (mg:Str → Option Value) (base:Heap):Prop where
  kin:K.In base
  glob:base.Ns mainGlobals mg
  blt:∃ mb,base.Ns builtinsNs mb ∧ ∀ x:Str,x ≠ "__name__" → mb x = bootBuiltins x
  nolimit:base.NoLimit
structure Cx where
  prog:Program
  w:World
  K:PySem.W.Frag
  mg:Str → Option Value
  base:Heap
  A:Around
  N:List Str
  s₀:Shared
  H₀:Hp
  env:Env
  outer:List Env
  stack:List Env
  ex:List Addr
  fn:Str → Bool
  calm:Bool
  pn:List (Addr × Obj)
  xe:Value → Shared → Prop
def frs (l:List Env):List Addr:=l.filterMap (·.frame)
abbrev Cx.fs (X:Cx):List Addr:=frs X.outer
def Vis (sc:Scope) (x:Str):Prop:=sc.names.lookup x = some .local ∨ sc.names.lookup x = some .cell ∨ sc.names.lookup x = some .free
def Loc (sc:Scope) (x:Str):Prop:=sc.names.lookup x = some .local ∨ sc.names.lookup x = some .cell
def Look (env:Env) (h:Heap) (m:Str → Option Value) (x:Str) (u:Value):Prop :=
  (env.kindOf x = some .local ∧ m x = some u) ∨ ((env.kindOf x = some .cell ∨ env.kindOf x = some .free) ∧ ∃ c,env.cells.lookup x = some c ∧ h.IsCell c (some u))
structure Cx.Ok (X:Cx):Prop where
  mod:Mod X.K X.mg X.base
  kind:X.env.scope.kind = .function
  glob:X.env.globals = mainGlobals
  blt:X.env.builtins = builtinsNs
  above:X.s₀.heap.objs.size ≤ X.env.locals
  inj:∀ x y c,X.env.cells.lookup x = some c → X.env.cells.lookup y = some c → x = y
  has:∀ x,(X.env.kindOf x = some .cell ∨ X.env.kindOf x = some .free) → ∃ c,X.env.cells.lookup x = some c
  cab:∀ x c,X.fn x = true → X.env.cells.lookup x = some c → X.s₀.heap.objs.size ≤ c
  hd:X.calm = true → X.A.handled = none
  frames:X.A.frames = some X.stack
  stk:X.stack = X.outer ∨ (X.stack = X.env :: X.outer ∧ X.env.frame = some X.env.locals)
  exf:∀ b ∈ X.ex,b ≠ X.env.locals ∧ ∀ x c,X.env.cells.lookup x = some c → c ≠ b
  bs:∀ b o,X.base.get? b = some o → X.s₀.heap.get? b = some o ∧ X.H₀ b = none
  bsz:X.base.objs.size ≤ X.s₀.heap.objs.size
  noex:∀ b o,X.base.get? b = some o → b ∉ X.ex
  exfs:∀ b ∈ X.ex,b ∉ X.fs
  funs:X.s₀.heap.FunFrames X.base X.outer
  frf:∀ b ∈ X.fs,X.H₀ b = none
structure Inv (X:Cx) (pins:List (Addr × Obj)) (σ:List (Option V)) (H:Hp) (s:Shared):Prop where
  ok:X.Ok
  os:s.os = X.s₀.os
  bare:AllBare s.gens
  base:Un X.fs X.ex X.H₀ H X.s₀.heap s.heap
  loc:∃ m,s.heap.Ns X.env.locals m ∧ ∀ (i:Nat) (x:Str) (v:V),X.N[i]? = some x → σ[i]? = some (some v) → Vis X.env.scope x → ∃ u,RelV v u ∧ Look X.env s.heap m x u
  cell:∀ x c,X.env.cells.lookup x = some c → ∃ v,s.heap.IsCell c v
  free:H X.env.locals = none
  freeC:∀ x c,X.env.cells.lookup x = some c → H c = none
  pin:∀ p ∈ X.pn ++ pins,s.heap.get? p.1 = some p.2 ∧ H p.1 = none ∧ p.1 ≠ X.env.locals ∧ p.1 ∉ X.fs ∧ ∀ v,p.2.data ≠ .cell v
  hok:HOk X.prog X.w H s.heap
  len : σ.length = X.N.length
section
variable {X:Cx} {pins:List (Addr × Obj)} {σ:List (Option V)} {H H':Hp} {s:Shared} {h':Heap}
theorem Cx.Ok.nofr (ok:X.Ok) {b:Addr} {o:Obj} (e:X.base.get? b = some o):b ∉ X.fs:=fun hb => by
  have:=(ok.funs.mem hb).1
  rw [e] at this; cases this
theorem Inv.bs (I:Inv X pins σ H s):∀ b o,X.base.get? b = some o → s.heap.get? b = some o ∧ H b = none:=fun b o e =>
  ⟨I.base.keep b o (I.ok.bs b o e).1 (I.ok.bs b o e).2 (I.ok.nofr e) (I.ok.noex b o e),I.base.free b o (I.ok.bs b o e).1 (I.ok.bs b o e).2 (I.ok.noex b o e)⟩
theorem Inv.bk (I:Inv X pins σ H s):∀ b o,X.base.get? b = some o → s.heap.get? b = some o:=fun b o e => (I.bs b o e).1
theorem Inv.mod (I:Inv X pins σ H s):Mod X.K X.mg X.base:=I.ok.mod
theorem Inv.kIn (I:Inv X pins σ H s):X.K.In s.heap:=I.ok.mod.kin.keeps I.bk
theorem Inv.fr (I:Inv X pins σ H s):∃ m,Fr X.base X.env.locals s.heap m :=
  let ⟨m,hn,_⟩:=I.loc
  ⟨m,hn,I.bk,Nat.le_trans I.ok.bsz I.ok.above⟩
theorem Inv.lt (I:Inv X pins σ H s):X.env.locals < s.heap.objs.size:=let ⟨_,hn,_⟩:=I.loc; hn.lt
theorem Inv.sz (I:Inv X pins σ H s):X.s₀.heap.objs.size ≤ s.heap.objs.size:=Nat.le_trans I.ok.above (Nat.le_of_lt I.lt)
theorem Inv.nofs (I:Inv X pins σ H s) {a:Addr} (h:s.heap.objs.size ≤ a):a ∉ X.fs:=fun hb => by
  obtain ⟨_,o,ho,_⟩:=I.ok.funs.mem hb
  exact absurd (Nat.lt_of_lt_of_le (Heap.lt_size ho) (Nat.le_trans I.sz h)) (Nat.lt_irrefl _)
theorem Inv.cne (I:Inv X pins σ H s):∀ x c,X.env.cells.lookup x = some c → c ≠ X.env.locals:=fun x c e z => by
  obtain ⟨v,o,ho,hd⟩:=I.cell x c e
  obtain ⟨m,⟨o',es,ep,ho',hd',_⟩,_⟩:=I.loc
  rw [z,ho'] at ho; cases ho; rw [hd'] at hd; cases hd
theorem Inv.funs (I:Inv X pins σ H s):s.heap.FunFrames X.base X.outer:=by
  have all:∀ (l:List Env),(∀ b ∈ frs l,b ∈ X.fs) → X.s₀.heap.FunFrames X.base l → s.heap.FunFrames X.base l:=by
    intro l
    induction l with
    | nil => intro _ _; trivial
    | cons env r ih =>
      intro hs hl
      obtain ⟨hk,⟨L,o,hf,hn,ho,hd⟩,hr⟩:=hl
      have hL:L ∈ X.fs:=hs L (by unfold frs; rw [List.filterMap_cons,hf]; exact List.mem_cons_self)
      obtain ⟨sl,e⟩:=I.base.slot L o ho (I.ok.frf L hL) hL fun z => I.ok.exfs L z hL
      exact ⟨hk,⟨L,_,hf,hn,e,hd⟩,ih (fun b hb => hs b (by unfold frs; rw [List.filterMap_cons,hf]; exact List.mem_cons_of_mem _ hb)) hr⟩
  exact all X.outer (fun _ hb => hb) I.ok.funs
theorem Inv.stack (I:Inv X pins σ H s):s.heap.FunFrames X.base X.stack:=by
  rcases I.ok.stk with e | ⟨e,hf⟩
  · rw [e]; exact I.funs
  · rw [e]
    obtain ⟨m,hn,_⟩:=I.loc
    refine .cons (by rw [I.ok.kind]; decide) hf hn ?_ I.funs
    exact Heap.get?_none_of_le (Nat.le_trans I.ok.bsz I.ok.above)
theorem Inv.stkSub (I:Inv X pins σ H s):∀ b ∈ frs X.stack,b ∈ X.env.locals :: X.fs:=fun b hb => by
  rcases I.ok.stk with e | ⟨e,hf⟩
  · rw [e] at hb; exact List.mem_cons_of_mem _ hb
  · rw [e] at hb
    unfold frs at hb
    rw [List.filterMap_cons,hf] at hb
    exact hb
theorem Inv.stkFree (I:Inv X pins σ H s):∀ b ∈ frs X.stack,H b = none:=fun b hb => by
  rcases List.mem_cons.mp (I.stkSub b hb) with e | hb
  · rw [e]; exact I.free
  · obtain ⟨_,o,ho,_⟩:=I.ok.funs.mem hb
    exact I.base.free b o ho (I.ok.frf b hb) fun z => I.ok.exfs b z hb
theorem Inv.step {g':Array GenState} {t':Nat} {d':Drawn} {ch:List Addr} (I:Inv X pins σ H s)
    (hch:∀ b ∈ ch,(b ∈ X.ex ∨ X.s₀.heap.objs.size ≤ b) ∧ b ≠ X.env.locals ∧ (∀ x c,X.env.cells.lookup x = some c → c ≠ b) ∧ ∀ p ∈ X.pn ++ pins,p.1 ≠ b)
    (keep:∀ b o,b ≠ X.env.locals → b ∉ X.fs → b ∉ ch → s.heap.get? b = some o → H b = none → h'.get? b = some o)
    (slot:∀ b o,b ≠ X.env.locals → b ∈ X.fs → b ∉ ch → s.heap.get? b = some o → H b = none → ∃ sl,h'.get? b = some { o with slots:=sl }) (free:∀ b o,b ∉ ch → s.heap.get? b = some o → H b = none → H' b = none)
    (there:∀ b o,b ∉ ch → s.heap.get? b = some o → ∃ o',h'.get? b = some o')
    (tups:∀ b xs,H b = some (.tup xs) → H' b = some (.tup xs)) (frzs:∀ b o u,H b = some (.frz o u) → H' b = some (.frz o u)) (tbls:∀ b ps,H b = some (.tbl ps) → ∃ more,H' b = some (.tbl (ps ++ more)))
    (ns:∀ m,s.heap.Ns X.env.locals m → h'.Ns X.env.locals m) (hok:HOk X.prog X.w H' h') (hg:AllBare g') :
    Inv X pins σ H' { s with heap:=h',gens:=g',drawn:=d',toks:=t' }:=by
  have neL:∀ b o,X.s₀.heap.get? b = some o → b ≠ X.env.locals:=fun b o e => Nat.ne_of_lt (Nat.lt_of_lt_of_le (Heap.lt_size e) I.ok.above)
  have neC:∀ b o,X.s₀.heap.get? b = some o → b ∉ X.ex → b ∉ ch:=fun b o e hx hb => by
    rcases (hch b hb).1 with z | z
    · exact hx z
    · exact absurd (Nat.lt_of_lt_of_le (Heap.lt_size e) z) (Nat.lt_irrefl _)
  have cellK:∀ x c,X.env.cells.lookup x = some c → ∀ v,s.heap.IsCell c v → h'.IsCell c v:=fun x c e v ⟨o,ho,hd⟩ => by
    have nch:c ∉ ch:=fun z => (hch c z).2.2.1 x c e rfl
    by_cases hc:c ∈ X.fs
    · obtain ⟨sl,q⟩:=slot c o (I.cne x c e) hc nch ho (I.freeC x c e)
      exact ⟨_,q,hd⟩
    · exact ⟨o,keep c o (I.cne x c e) hc nch ho (I.freeC x c e),hd⟩
  refine ⟨I.ok,I.os,hg,⟨fun b o e n hb hx => ?_,fun b o e n hb hx => ?_,fun b o e n hx => ?_,fun b o e hx => ?_,fun b xs e => tups b xs (I.base.tups b xs e),fun b o xs e => frzs b o xs (I.base.frzs b o xs e),fun b ps e => ?_⟩,?_,fun x c e => ?_,?_,fun x c e => ?_,fun p hp => ?_,hok,I.len⟩
  · exact keep b o (neL b o e) hb (neC b o e hx) (I.base.keep b o e n hb hx) (I.base.free b o e n hx)
  · obtain ⟨sl,e1⟩:=I.base.slot b o e n hb hx
    obtain ⟨sl',e2⟩:=slot b _ (neL b o e) hb (neC b o e hx) e1 (I.base.free b o e n hx)
    exact ⟨sl',e2⟩
  · obtain ⟨o',e1⟩:=I.base.there b o e hx
    exact free b o' (neC b o e hx) e1 (I.base.free b o e n hx)
  · obtain ⟨o',e1⟩:=I.base.there b o e hx
    exact there b o' (neC b o e hx) e1
  · obtain ⟨m1,e1⟩:=I.base.tbls b ps e
    obtain ⟨m2,e2⟩:=tbls b _ e1
    exact ⟨m1 ++ m2,by rw [e2,Array.append_assoc]⟩
  · obtain ⟨m,hn,hl⟩:=I.loc
    refine ⟨m,ns m hn,fun i x v e1 e2 e3 => ?_⟩
    obtain ⟨u,r,l⟩:=hl i x v e1 e2 e3
    refine ⟨u,r,?_⟩
    rcases l with l | ⟨k,c,e,z⟩
    · exact .inl l
    · exact .inr ⟨k,c,e,cellK x c e _ z⟩
  · obtain ⟨v,z⟩:=I.cell x c e
    exact ⟨v,cellK x c e v z⟩
  · obtain ⟨m,⟨o,_,_,ho,_⟩,_⟩:=I.loc
    exact free _ o (fun z => (hch _ z).2.1 rfl) ho I.free
  · obtain ⟨v,o,ho,hd⟩:=I.cell x c e
    exact free c o (fun z => (hch c z).2.2.1 x c e rfl) ho (I.freeC x c e)
  · obtain ⟨e,n,ne,nf,d⟩:=I.pin p hp
    have nch:p.1 ∉ ch:=fun z => (hch p.1 z).2.2.2 p hp rfl
    exact ⟨keep p.1 p.2 ne nf nch e n,free p.1 p.2 nch e n,ne,nf,d⟩
theorem Inv.un {t':Nat} (I:Inv X pins σ H s) (u:Un X.fs [] H H' s.heap h') (hok:HOk X.prog X.w H' h'):Inv X pins σ H' { s with heap:=h',toks:=t' }:=by
  obtain ⟨m,⟨o,es,ep,ho,r⟩,_⟩:=id I.loc
  obtain ⟨sl,hL⟩:=u.any ho I.free (by simp)
  exact I.step (g':=s.gens) (d':=s.drawn) (ch:=[]) (fun _ z => nomatch z) (fun b o _ hb _ e n => u.keep b o e n hb (by simp)) (fun b o _ hb _ e n => u.slot b o e n hb (by simp)) (fun b o _ e n => u.free b o e n (by simp)) (fun b o _ e => u.there b o e (by simp)) u.tups u.frzs u.tbls (fun m' hm => by
    obtain ⟨o',es',ep',ho',r'⟩:=hm
    rw [ho] at ho'; cases ho'
    exact ⟨_,es',ep',hL,r'⟩) hok I.bare
theorem Inv.call {g':Array GenState} {t':Nat} {d':Drawn} {ch:List Addr} (I:Inv X pins σ H s) (u:Un (frs X.stack) ch H H' s.heap h') (hok:HOk X.prog X.w H' h') (hg:AllBare g')
    (hch:∀ b ∈ ch,(b ∈ X.ex ∨ X.s₀.heap.objs.size ≤ b) ∧ b ≠ X.env.locals ∧ (∀ x c,X.env.cells.lookup x = some c → c ≠ b) ∧ ∀ p ∈ X.pn ++ pins,p.1 ≠ b) :
    Inv X pins σ H' { s with heap:=h',gens:=g',drawn:=d',toks:=t' }:=by
  obtain ⟨m,⟨o,es,ep,ho,r⟩,_⟩:=id I.loc
  obtain ⟨sl,hL⟩:=u.any ho I.free fun z => (hch _ z).2.1 rfl
  exact I.step (ch:=ch) hch (fun b o hL hb hc e n => u.keep b o e n (fun z => (List.mem_cons.mp (I.stkSub b z)).elim hL hb) hc) (fun b o _ _ hc e n => u.any e n hc) (fun b o hc e n => u.free b o e n hc) (fun b o hc e => u.there b o e hc) u.tups u.frzs u.tbls (fun m' hm => by
    obtain ⟨o',es',ep',ho',r'⟩:=hm
    rw [ho] at ho'; cases ho'
    exact ⟨_,es',ep',hL,r'⟩) hok hg
theorem Inv.turned {t':Nat} {it:Addr} (I:Inv X pins σ H s) (k:∀ b o,b ≠ it → s.heap.get? b = some o → h'.get? b = some o) (hn:H it = none) (hL:it ≠ X.env.locals)
    (h1:it ∈ X.ex ∨ X.s₀.heap.objs.size ≤ it) (h2:∀ x c,X.env.cells.lookup x = some c → c ≠ it) (h3:∀ p ∈ X.pn ++ pins,p.1 ≠ it):Inv X pins σ H { s with heap:=h',toks:=t' }:=by
  have nit:∀ b u,H b = some u → b ≠ it:=fun b u e z => by rw [z,hn] at e; cases e
  refine I.step (g':=s.gens) (d':=s.drawn) (ch:=[it]) (fun b hb => ?_) (fun b o _ _ hc e _ => k b o (fun z => hc (by simp [z])) e) (fun b o _ _ hc e _ => ⟨o.slots,k b o (fun z => hc (by simp [z])) e⟩) (fun _ _ _ _ n => n)
    (fun b o hc e => ⟨o,k b o (fun z => hc (by simp [z])) e⟩) (fun _ _ e => e) (fun _ _ _ e => e) (fun b ps e => ⟨#[],by rw [e]; simp⟩) (fun m hm => ?_) (fun b u e => ?_) I.bare
  · have e:b = it:=by simpa using hb
    subst e
    exact ⟨h1,hL,h2,h3⟩
  · obtain ⟨o,es,ep,ho,r⟩:=hm
    exact ⟨o,es,ep,k _ o (Ne.symm hL) ho,r⟩
  · refine (I.hok b u e).stay (fun c v hc q => k c v ?_ q) (fun _ q => q) fun _ _ q => q
    rcases hc with z | z
    · rw [z]; exact nit b u e
    · exact nit c _ z
theorem Inv.tok (I:Inv X pins σ H s) (t:Nat):Inv X pins σ H { s with toks:=t }:=I.un (h':=s.heap) (t':=t) Un.refl I.hok
theorem Inv.kept {t':Nat} (I:Inv X pins σ H s) (k:∀ b u,s.heap.get? b = some u → h'.get? b = some u):Inv X pins σ H { s with heap:=h',toks:=t' }:=I.un (Un.kept k) (I.hok.kept k)
theorem Inv.laid {a:Addr} {o:HO} {t':Nat} (I:Inv X pins σ H s) (k:∀ b u,s.heap.get? b = some u → h'.get? b = some u) (hp:s.heap.objs.size ≤ a) (new:ObjOk X.prog X.w (upd H a o) h' a o) :
    Inv X pins σ (upd H a o) { s with heap:=h',toks:=t' }:=I.un (Un.laid k hp (I.hok.fresh hp)) (I.hok.laid k hp new)
theorem Inv.write {x e:Addr} {o:HO} {t':Nat} (I:Inv X pins σ H s) (mu:Mut (H x)) (he:e = x ∨ H e = some (.own x)) (k:∀ b u,b ≠ e → s.heap.get? b = some u → h'.get? b = some u) (heo:∃ u,h'.get? e = some u)
    (new:ObjOk X.prog X.w (upd H x o) h' x o):Inv X pins σ (upd H x o) { s with heap:=h',toks:=t' }:=I.un (Un.write mu he k heo) (I.hok.write mu he k heo new)
theorem Inv.weak {σ':List (Option V)} (I:Inv X pins σ H s) (hl : σ'.length = σ.length) (w:∀ (i:Nat) v,σ'[i]? = some (some v) → σ[i]? = some (some v)):Inv X pins σ' H s :=
  ⟨I.ok,I.os,I.bare,I.base,let ⟨m,hn,hl'⟩:=I.loc; ⟨m,hn,fun i x v e1 e2 e3 => hl' i x v e1 (w i v e2) e3⟩,I.cell,I.free,I.freeC,I.pin,I.hok,hl.trans I.len⟩
theorem Inv.pins_of {pins':List (Addr × Obj)} (I:Inv X pins σ H s) (h:∀ p ∈ pins',s.heap.get? p.1 = some p.2 ∧ H p.1 = none ∧ p.1 ≠ X.env.locals ∧ p.1 ∉ X.fs ∧ ∀ v,p.2.data ≠ .cell v):Inv X pins' σ H s :=
  ⟨I.ok,I.os,I.bare,I.base,I.loc,I.cell,I.free,I.freeC,fun p hp => (List.mem_append.mp hp).elim (fun z => I.pin p (List.mem_append_left _ z)) (h p),I.hok,I.len⟩
theorem nodup_ix {N:List Str} (hN:N.Nodup) {i j:Nat} {x:Str} (a:N[i]? = some x) (b:N[j]? = some x):i = j:=by
  obtain ⟨h1,e1⟩:=List.getElem?_eq_some_iff.mp a
  obtain ⟨h2,e2⟩:=List.getElem?_eq_some_iff.mp b
  exact (List.getElem_inj hN).mp (e1.trans e2.symm)
theorem store_ok2 {M:Model} {A:Around} {E:Value → Shared → Prop} {i:Nat} {x:Str} {v:V} {u:Value} {Q:Unit → Shared → Prop} (I:Inv X pins σ H s) (hN:X.N.Nodup) (hi:X.N[i]? = some x) (hx:Loc X.env.scope x) (r:RelV v u)
    (h:∀ s',Inv X pins (σ.set i (some v)) H s' → (∃ a,Heap.SameBut a s.heap s'.heap ∧ (a = X.env.locals ∨ X.env.cells.lookup x = some a)) → Q () s') (hf:X.fn x = true ∨ X.env.scope.names.lookup x = some .local:=by first | exact .inl rfl | exact .inr rfl | assumption):wpAny M A (storeName X.env x u) Q E s:=by
  obtain ⟨m,hn,hl⟩:=id I.loc
  have hcls:(X.env.scope.kind == .class || (X.env.scope.kind == .module && X.env.locals != X.env.globals)) = false:=by rw [I.ok.kind]; rfl
  have hiσ:i < σ.length:=by rw [I.len]; exact (List.getElem?_eq_some_iff.mp hi).1
  have cne:=I.cne
  have tracked:∀ {a:Addr} {h':Heap},(∃ o,s.heap.get? a = some o ∧ H a = none) → Heap.SameBut a s.heap h' → HOk X.prog X.w H h':=fun {a h'} ha hs b ob e => by
    obtain ⟨_,_,hfree⟩:=ha
    refine (I.hok b ob e).stay (fun c w' hc q => (hs.2 c ?_).trans q) (fun _ q => q) fun _ _ q => q
    rintro rfl
    rcases hc with rfl | hc
    · rw [hfree] at e; cases e
    · rw [hfree] at hc; cases hc
  rcases hx with hk | hk
  · refine wpAny_storeName_local hk hn (fun h' hn' hs => ?_) hcls
    obtain ⟨oL,_,_,hoL,_⟩:=id hn
    refine h _ ⟨I.ok,I.os,I.bare,⟨fun b o e n hb hx => ?_,fun b o e n hb hx => ?_,I.base.free,fun b o e hx => ?_,I.base.tups,I.base.frzs,I.base.tbls⟩,⟨_,hn',fun j y v' e1 e2 e3 => ?_⟩,fun y c e => ?_,I.free,I.freeC,fun p hp => ?_,tracked ⟨oL,hoL,I.free⟩ hs,by simpa using I.len⟩ ⟨_,hs,.inl rfl⟩
    · exact (hs.2 b (Nat.ne_of_lt (Nat.lt_of_lt_of_le (Heap.lt_size e) I.ok.above))).trans (I.base.keep b o e n hb hx)
    · obtain ⟨sl,e1⟩:=I.base.slot b o e n hb hx
      exact ⟨sl,(hs.2 b (Nat.ne_of_lt (Nat.lt_of_lt_of_le (Heap.lt_size e) I.ok.above))).trans e1⟩
    · obtain ⟨o',e1⟩:=I.base.there b o e hx
      exact ⟨o',(hs.2 b (Nat.ne_of_lt (Nat.lt_of_lt_of_le (Heap.lt_size e) I.ok.above))).trans e1⟩
    · by_cases hj:j = i
      · subst hj
        rw [hi] at e1; cases e1
        rw [List.getElem?_set_self hiσ] at e2
        cases e2
        exact ⟨u,r,.inl ⟨hk,by simp⟩⟩
      · rw [List.getElem?_set_ne (Ne.symm hj)] at e2
        obtain ⟨u',r',q⟩:=hl j y v' e1 e2 e3
        refine ⟨u',r',?_⟩
        rcases q with ⟨k,e⟩ | ⟨k,c,e,z⟩
        · refine .inl ⟨k,?_⟩
          have:y ≠ x:=fun e => hj (nodup_ix hN e1 (e ▸ hi))
          simp [this,e]
        · exact .inr ⟨k,c,e,z.sameBut hs (cne y c e)⟩
    · obtain ⟨w',z⟩:=I.cell y c e
      exact ⟨w',z.sameBut hs (cne y c e)⟩
    · obtain ⟨e,n,ne,nf,d⟩:=I.pin p hp
      exact ⟨(hs.2 p.1 ne).trans e,n,ne,nf,d⟩
  · have hfn:X.fn x = true:=by
      rcases hf with z | z
      · exact z
      · rw [z] at hk; cases hk
    obtain ⟨c,hc⟩:=I.ok.has x (.inl hk)
    obtain ⟨w',z⟩:=I.cell x c hc
    refine wpAny_storeName_cell I.ok.kind hk hc z (fun h' hc' hs => ?_)
    obtain ⟨oc,hoc,hocd⟩:=id z
    refine h { s with heap:=h' } ⟨I.ok,I.os,I.bare,⟨fun b o e n hb hx => ?_,fun b o e n hb hx => ?_,I.base.free,fun b o e hx => ?_,I.base.tups,I.base.frzs,I.base.tbls⟩,⟨m,hn.sameBut hs (Ne.symm (cne x c hc)),fun j y v' e1 e2 e3 => ?_⟩,fun y c' e => ?_,I.free,I.freeC,fun p hp => ?_,tracked ⟨oc,hoc,I.freeC x c hc⟩ hs,by simpa using I.len⟩ ⟨c,hs,.inr hc⟩
    · exact (hs.2 b (Nat.ne_of_lt (Nat.lt_of_lt_of_le (Heap.lt_size e) (I.ok.cab x c hfn hc)))).trans (I.base.keep b o e n hb hx)
    · obtain ⟨sl,e1⟩:=I.base.slot b o e n hb hx
      exact ⟨sl,(hs.2 b (Nat.ne_of_lt (Nat.lt_of_lt_of_le (Heap.lt_size e) (I.ok.cab x c hfn hc)))).trans e1⟩
    · obtain ⟨o',e1⟩:=I.base.there b o e hx
      exact ⟨o',(hs.2 b (Nat.ne_of_lt (Nat.lt_of_lt_of_le (Heap.lt_size e) (I.ok.cab x c hfn hc)))).trans e1⟩
    · by_cases hj:j = i
      · subst hj
        rw [hi] at e1; cases e1
        rw [List.getElem?_set_self hiσ] at e2
        cases e2
        exact ⟨u,r,.inr ⟨.inl hk,c,hc,hc'⟩⟩
      · rw [List.getElem?_set_ne (Ne.symm hj)] at e2
        obtain ⟨u',r',q⟩:=hl j y v' e1 e2 e3
        refine ⟨u',r',?_⟩
        rcases q with q | ⟨k,c',e,z'⟩
        · exact .inl q
        · refine .inr ⟨k,c',e,z'.sameBut hs ?_⟩
          rintro rfl
          exact hj (nodup_ix hN e1 (I.ok.inj _ _ _ e hc ▸ hi))
    · by_cases hcc:c' = c
      · subst hcc; exact ⟨_,hc'⟩
      · obtain ⟨w2,z2⟩:=I.cell y c' e
        exact ⟨w2,z2.sameBut hs hcc⟩
    · obtain ⟨e,n,ne,nf,d⟩:=I.pin p hp
      refine ⟨(hs.2 p.1 ?_).trans e,n,ne,nf,d⟩
      intro q
      rw [q,hoc] at e
      have q':oc = p.2:=Option.some.inj e
      exact d w' (by rw [← q']; exact hocd)
theorem store_ok {M:Model} {A:Around} {E:Value → Shared → Prop} {i:Nat} {x:Str} {v:V} {u:Value} {Q:Unit → Shared → Prop} (I:Inv X pins σ H s) (hN:X.N.Nodup) (hi:X.N[i]? = some x) (hx:Loc X.env.scope x) (r:RelV v u)
    (h:∀ s',Inv X pins (σ.set i (some v)) H s' → Q () s') (hf:X.fn x = true ∨ X.env.scope.names.lookup x = some .local:=by first | exact .inl rfl | exact .inr rfl | assumption):wpAny M A (storeName X.env x u) Q E s :=
  store_ok2 I hN hi hx r (fun s' I' _ => h s' I') hf
theorem Inv.call' {s':Shared} {ch:List Addr} (I:Inv X pins σ H s) (ho:s'.os = s.os) (u:Un (frs X.stack) ch H H' s.heap s'.heap) (hok:HOk X.prog X.w H' s'.heap) (hg:AllBare s'.gens)
    (hch:∀ b ∈ ch,(b ∈ X.ex ∨ X.s₀.heap.objs.size ≤ b) ∧ b ≠ X.env.locals ∧ (∀ x c,X.env.cells.lookup x = some c → c ≠ b) ∧ ∀ p ∈ X.pn ++ pins,p.1 ≠ b):Inv X pins σ H' s':=by
  obtain ⟨h',g',d',t',o'⟩:=s'
  have e:o' = s.os:=ho
  subst e
  exact I.call (g':=g') (t':=t') (d':=d') u hok hg hch
end
abbrev XK:=Value → Option Addr → Hp → Prop
abbrev St:=List (Option V)
abbrev VK:=V → Hp → Prop
abbrev TE:=St → Hp → VK → Prop
abbrev TT:=St → Hp → (Bool → Hp → Prop) → Prop
abbrev TA:=St → Hp → (List V → Hp → Prop) → Prop
structure Ends where
  nx:St → Hp → Prop
  rt:VK
  bk:St → Hp → Prop:=fun _ _ => False
  ct:St → Hp → Prop:=fun _ _ => False
abbrev TS:=Ends → St → Hp → Prop
def EP (X:Cx) (pins:List (Addr × Obj)) (σ:St) (Q:VK) (u:Value) (s':Shared):Prop:=∃ v H',Inv X pins σ H' s' ∧ RelV v u ∧ Q v H'
def TP (X:Cx) (pins:List (Addr × Obj)) (σ:St) (Q:Bool → Hp → Prop) (b:Bool) (s':Shared):Prop:=∃ H',Inv X pins σ H' s' ∧ Q b H'
def AP (X:Cx) (pins:List (Addr × Obj)) (σ:St) (Q:List V → Hp → Prop) (us:List Value) (s':Shared):Prop:=∃ vs H',Inv X pins σ H' s' ∧ Vals vs us ∧ Q vs H'
def SP (X:Cx) (pins:List (Addr × Obj)) (D:Ends) (f:Flow) (s':Shared):Prop :=
  match f with
  | .next => ∃ σ' H',Inv X pins σ' H' s' ∧ D.nx σ' H'
  | .brk => ∃ σ' H',Inv X pins σ' H' s' ∧ D.bk σ' H'
  | .cont => ∃ σ' H',Inv X pins σ' H' s' ∧ D.ct σ' H'
  | .ret u => ∃ v σ' H',Inv X pins σ' H' s' ∧ RelV v u ∧ D.rt v H'
structure PE (X:Cx) (e:Expr) (t:TE):Prop where
  go:∀ (pins:List (Addr × Obj)) (s:Shared) (σ:St) (H:Hp) (Q:VK),Inv X pins σ H s → t σ H Q → wpAny (model X.prog X.w) X.A (eval e X.env) (EP X pins σ Q) X.xe s
instance {X:Cx} {e:Expr} {t:TE}:CoeFun (PE X e t) fun _ => ∀ (pins:List (Addr × Obj)) (s:Shared) (σ:St) (H:Hp) (Q:VK),Inv X pins σ H s → t σ H Q → wpAny (model X.prog X.w) X.A (eval e X.env) (EP X pins σ Q) X.xe s:=⟨fun h => h.go⟩
structure PT (X:Cx) (e:Expr) (t:TT):Prop where
  go:∀ (pins:List (Addr × Obj)) (s:Shared) (σ:St) (H:Hp) (Q:Bool → Hp → Prop),Inv X pins σ H s → t σ H Q → wpAny (model X.prog X.w) X.A (isTrue e X.env (eval e X.env)) (TP X pins σ Q) X.xe s
instance {X:Cx} {e:Expr} {t:TT}:CoeFun (PT X e t) fun _ => ∀ (pins:List (Addr × Obj)) (s:Shared) (σ:St) (H:Hp) (Q:Bool → Hp → Prop),Inv X pins σ H s → t σ H Q → wpAny (model X.prog X.w) X.A (isTrue e X.env (eval e X.env)) (TP X pins σ Q) X.xe s:=⟨fun h => h.go⟩
structure PW (X:Cx) (e:Expr) (t:TT):Prop where
  go:∀ (whole:Sem Value) (pins:List (Addr × Obj)) (s:Shared) (σ:St) (H:Hp) (Q:Bool → Hp → Prop),Inv X pins σ H s → t σ H Q → wpAny (model X.prog X.w) X.A (isTrue e X.env whole) (TP X pins σ Q) X.xe s
instance {X:Cx} {e:Expr} {t:TT}:CoeFun (PW X e t) fun _ => ∀ (whole:Sem Value) (pins:List (Addr × Obj)) (s:Shared) (σ:St) (H:Hp) (Q:Bool → Hp → Prop),Inv X pins σ H s → t σ H Q → wpAny (model X.prog X.w) X.A (isTrue e X.env whole) (TP X pins σ Q) X.xe s:=⟨fun h => h.go⟩
theorem PW.pt {X:Cx} {e:Expr} {t:TT} (h:PW X e t):PT X e t:=⟨h.go _⟩
structure PA (X:Cx) (es:List Expr) (t:TA):Prop where
  go:∀ (pos:Pos) (pins:List (Addr × Obj)) (s:Shared) (σ:St) (H:Hp) (Q:List V → Hp → Prop),Inv X pins σ H s → t σ H Q → wpAny (model X.prog X.w) X.A (spliced (backTo pos (starEach es X.env))) (AP X pins σ Q) X.xe s
instance {X:Cx} {es:List Expr} {t:TA}:CoeFun (PA X es t) fun _ => ∀ (pos:Pos) (pins:List (Addr × Obj)) (s:Shared) (σ:St) (H:Hp) (Q:List V → Hp → Prop),Inv X pins σ H s → t σ H Q → wpAny (model X.prog X.w) X.A (spliced (backTo pos (starEach es X.env))) (AP X pins σ Q) X.xe s:=⟨fun h => h.go⟩
structure PS (X:Cx) (st:Stmt) (t:TS):Prop where
  go:∀ (pins:List (Addr × Obj)) (s:Shared) (σ:St) (H:Hp) (D:Ends),Inv X pins σ H s → t D σ H → wpAny (model X.prog X.w) X.A (exec st X.env) (SP X pins D) X.xe s
instance {X:Cx} {st:Stmt} {t:TS}:CoeFun (PS X st t) fun _ => ∀ (pins:List (Addr × Obj)) (s:Shared) (σ:St) (H:Hp) (D:Ends),Inv X pins σ H s → t D σ H → wpAny (model X.prog X.w) X.A (exec st X.env) (SP X pins D) X.xe s:=⟨fun h => h.go⟩
structure PSs (X:Cx) (st:List Stmt) (t:TS):Prop where
  go:∀ (pins:List (Addr × Obj)) (s:Shared) (σ:St) (H:Hp) (D:Ends),Inv X pins σ H s → t D σ H → wpAny (model X.prog X.w) X.A (execs st X.env) (SP X pins D) X.xe s
instance {X:Cx} {st:List Stmt} {t:TS}:CoeFun (PSs X st t) fun _ => ∀ (pins:List (Addr × Obj)) (s:Shared) (σ:St) (H:Hp) (D:Ends),Inv X pins σ H s → t D σ H → wpAny (model X.prog X.w) X.A (execs st X.env) (SP X pins D) X.xe s:=⟨fun h => h.go⟩
theorem thn {α:Type} {t:Sem α} {Q Q' : α → Shared → Prop} {M:Model} {A:Around} {E:Value → Shared → Prop} {s:Shared} (h:wpAny M A t Q E s) (hQ:∀ a s,Q a s → Q' a s):wpAny M A t Q' E s:=wpAny_mono h hQ fun _ _ x => x
section
variable {X:Cx}
theorem bin {a b:Expr} {ta tb:TE} (ha:PE X a ta) (hb:PE X b tb) {pins:List (Addr × Obj)} {s:Shared} {σ:St} {H:Hp} {R:V → V → Hp → Prop} (I:Inv X pins σ H s) (h:ta σ H fun x H1 => tb σ H1 fun y H2 => R x y H2)
    {α:Type} {Q : α → Shared → Prop} {f:Value → Value → Sem α}
    (hf:∀ v u s2 x y H2,Inv X pins σ H2 s2 → RelV x v → RelV y u → R x y H2 → wpAny (model X.prog X.w) X.A (f v u) Q X.xe s2) :
    wpAny (model X.prog X.w) X.A (eval a X.env) (fun v s₁ => wpAny (model X.prog X.w) X.A (eval b X.env) (fun u s₂ => wpAny (model X.prog X.w) X.A (f v u) Q X.xe s₂) X.xe s₁) X.xe s:=by
  refine thn (ha pins s σ H _ I h) fun v s1 ⟨x,H1,I1,r1,q1⟩ => ?_
  refine thn (hb pins s1 σ H1 _ I1 q1) fun u s2 ⟨y,H2,I2,r2,q2⟩ => ?_
  exact hf v u s2 x y H2 I2 r1 r2 q2
def tVar (i:Nat):TE:=fun σ H Q => ∃ v,σ[i]? = some (some v) ∧ Q v H
def tC (v:V):TE:=fun _ H Q => Q v H
theorem pe_var {i:Nat} {x:Str} {pos:Pos} (hN:X.N[i]? = some x) (hv:Vis X.env.scope x) (hd:(x == ("__debug__":Str)) = false:=by decide) (hcd:(x == ("__classdict__":Str)) = false:=by decide):PE X (.Name x pos) (tVar i):=by
  (try refine ⟨?_⟩); intro pins s σ H Q I h
  obtain ⟨v,e,h⟩:=h
  obtain ⟨m,hn,hl⟩:=I.loc
  obtain ⟨u,r,l⟩:=hl i x v hN e hv
  have fin:EP X pins σ Q u s:=⟨v,H,I,r,h⟩
  rcases l with ⟨hk,hm⟩ | ⟨hk,c,hc,hcell⟩
  · exact wpAny_Name (wpAny_loadName_local I.ok.kind hk hn hm fin) hd
  · rcases hk with hk | hk
    · exact wpAny_Name (wpAny_loadName_cell I.ok.kind hk hc hcell fin) hd
    · exact wpAny_Name (wpAny_loadName_free I.ok.kind hk hc hcell fin hcd) hd
theorem pe_int {i j pos}:PE X (.Constant (.int i) j pos) (tC (.int i)):=⟨fun _ _ _ H _ I h => wpAny_Constant_int ⟨.int i,H,I.tok _,⟨_,rfl⟩,h⟩⟩
theorem pe_bl {b j pos}:PE X (.Constant (.bool b) j pos) (tC (.bl b)):=⟨fun _ _ _ H _ I h => Constant_bool ⟨.bl b,H,I,rfl,h⟩⟩
theorem pe_non {j pos}:PE X (.Constant .none j pos) (tC .non):=⟨fun _ _ _ H _ I h => Constant_none ⟨.non,H,I,rfl,h⟩⟩
theorem pe_str {x j pos}:PE X (.Constant (.str x) j pos) (tC (.str x)):=⟨fun _ _ _ H _ I h => Calls.Constant_str ⟨.str x,H,I.tok _,⟨_,rfl⟩,h⟩⟩
def Gl (X:Cx) (x:Str):Prop:=X.env.kindOf x = some .globalImplicit
theorem ld_glob {E:Value → Shared → Prop} {pins:List (Addr × Obj)} {s:Shared} {σ:St} {H:Hp} {x:Str} {u:Value} {pos:Pos} {Q:Value → Shared → Prop} (I:Inv X pins σ H s) (hg:Gl X x) (hm:X.mg x = some u) (h:Q u s)
    (hd:(x == ("__debug__":Str)) = false:=by decide):wpAny (model X.prog X.w) X.A (eval (.Name x pos) X.env) Q E s :=
  Calls.Name_function_global I.ok.kind hg (Calls.loadGlobal_global (by rw [I.ok.glob]; exact I.mod.glob.keeps I.bk) hm h) hd
theorem ld_blt {E:Value → Shared → Prop} {pins:List (Addr × Obj)} {s:Shared} {σ:St} {H:Hp} {x:Str} {u:Value} {pos:Pos} {Q:Value → Shared → Prop} (I:Inv X pins σ H s) (hg:Gl X x) (hm:X.mg x = none) (hv:bootBuiltins x = some u) (h:Q u s)
    (hn:x ≠ "__name__":=by decide) (hd:(x == ("__debug__":Str)) = false:=by decide):wpAny (model X.prog X.w) X.A (eval (.Name x pos) X.env) Q E s:=by
  obtain ⟨mb,h1,h2⟩:=I.mod.blt
  exact Calls.Name_function_global I.ok.kind hg (Calls.loadGlobal_builtin (by rw [I.ok.glob]; exact I.mod.glob.keeps I.bk) hm (by rw [I.ok.blt]; exact h1.keeps I.bk) ((h2 x hn).trans hv) h) hd
theorem pe_glob {x:Str} {v:V} {u:Value} {pos:Pos} (hg:Gl X x) (hm:X.mg x = some u) (r:RelV v u) (hd:(x == ("__debug__":Str)) = false:=by decide):PE X (.Name x pos) (tC v):=⟨fun _ _ _ H _ I h => ld_glob I hg hm ⟨v,H,I,r,h⟩ hd⟩
theorem pe_bltn {x:Str} {v:V} {u:Value} {pos:Pos} (hg:Gl X x) (hm:X.mg x = none) (hv:bootBuiltins x = some u) (r:RelV v u) (hn:x ≠ "__name__":=by decide) (hd:(x == ("__debug__":Str)) = false:=by decide):PE X (.Name x pos) (tC v):=⟨fun _ _ _ H _ I h => ld_blt I hg hm hv ⟨v,H,I,r,h⟩ hn hd⟩
variable {a b:Expr} {ta tb:TE} {pos:Pos}
def tB (t:TE):TT:=fun σ H Q => t σ H fun x H1 => ∃ c,x = .bl c ∧ Q c H1
theorem pt_val {e:Expr} {t:TE} (h:PE X e t) (he:∀ whole,isTrue e X.env whole = (do let v ← whole; standAt e.pos; holding [v] (truthy v)):=by intro _; rfl):PT X e (tB t):=by
  (try refine ⟨?_⟩); intro pins s σ H Q I hw
  refine isTrue_plain (thn (h pins s σ H _ I hw) fun v s1 ⟨x,H1,I1,r1,q1⟩ => ?_) (he _)
  obtain ⟨d,rfl,q⟩:=q1
  cases r1
  exact wpAny_truthy_bool ⟨H1,I1,q⟩
variable {tA tB':TT} {rest:List Expr}
def tOr (t u:TT):TT:=fun σ H Q => t σ H fun c H1 => if c = true then Q true H1 else u σ H1 Q
def tNot (t:TT):TT:=fun σ H Q => t σ H fun c H1 => Q (!c) H1
theorem pw_or1 (ha:PT X a tA):PW X (.BoolOp .Or [a] pos) tA:=by
  (try refine ⟨?_⟩); intro wh pins s σ H Q I h
  refine isTrue_or (thn (ha pins s σ H Q I h) fun c s1 e => ?_)
  cases c with
  | false => exact isTrue_or_nil e
  | true => exact e
theorem pw_or (ha:PT X a tA) (hb:PW X (.BoolOp .Or (b :: rest) pos) tB'):PW X (.BoolOp .Or (a :: b :: rest) pos) (tOr tA tB'):=by
  (try refine ⟨?_⟩); intro wh pins s σ H Q I h
  refine isTrue_or (thn (ha pins s σ H _ I h) fun c s1 ⟨H1,I1,q1⟩ => ?_)
  cases c with
  | true => exact ⟨H1,I1,q1⟩
  | false => exact hb wh pins s1 σ H1 Q I1 q1
theorem pt_not (ha:PT X a tA):PT X (.UnaryOp .Not a pos) (tNot tA):=by
  (try refine ⟨?_⟩); intro pins s σ H Q I h
  exact isTrue_not (ha pins s σ H (fun c H1 => Q (!c) H1) I h)
def tAndV (ta tb:TE):TE:=fun σ H Q => ta σ H fun x H1 => ∃ c,x = .bl c ∧ if c = true then tb σ H1 Q else Q (.bl false) H1
def tOrV (ta tb:TE):TE:=fun σ H Q => ta σ H fun x H1 => ∃ c,x = .bl c ∧ if c = true then Q (.bl true) H1 else tb σ H1 Q
def tNotV (ta:TE):TE:=fun σ H Q => ta σ H fun x H1 => ∃ c,x = .bl c ∧ Q (.bl (!c)) H1
theorem pe_one {op} {t:TE} (h:PE X a t):PE X (.BoolOp op [a] pos) t:=⟨fun pins s σ H Q I hw => BoolOp_one (h pins s σ H Q I hw)⟩
theorem pe_and (ha:PE X a ta) (hb:PE X (.BoolOp .And (b :: rest) pos) tb):PE X (.BoolOp .And (a :: b :: rest) pos) (tAndV ta tb):=by
  (try refine ⟨?_⟩); intro pins s σ H Q I h
  refine BoolOp_and (thn (ha pins s σ H _ I h) fun v s1 ⟨x,H1,I1,r1,q1⟩ => ?_)
  obtain ⟨c,rfl,q1⟩:=q1
  cases r1
  refine wpAny_truthy_bool ?_
  cases c with
  | true => exact hb pins s1 σ H1 Q I1 q1
  | false => exact ⟨.bl false,H1,I1,rfl,q1⟩
theorem pe_or (ha:PE X a ta) (hb:PE X (.BoolOp .Or (b :: rest) pos) tb):PE X (.BoolOp .Or (a :: b :: rest) pos) (tOrV ta tb):=by
  (try refine ⟨?_⟩); intro pins s σ H Q I h
  refine BoolOp_or (thn (ha pins s σ H _ I h) fun v s1 ⟨x,H1,I1,r1,q1⟩ => ?_)
  obtain ⟨c,rfl,q1⟩:=q1
  cases r1
  refine wpAny_truthy_bool ?_
  cases c with
  | false => exact hb pins s1 σ H1 Q I1 q1
  | true => exact ⟨.bl true,H1,I1,rfl,q1⟩
theorem pe_not (ha:PE X a ta):PE X (.UnaryOp .Not a pos) (tNotV ta):=by
  (try refine ⟨?_⟩); intro pins s σ H Q I h
  refine UnaryOp_ (thn (ha pins s σ H _ I h) fun v s1 ⟨x,H1,I1,r1,q1⟩ => ?_)
  obtain ⟨c,rfl,q1⟩:=q1
  cases r1
  exact not_of (wpAny_truthy_bool ⟨.bl (!c),H1,I1,rfl,q1⟩)
def tIf (t:TT) (ta tb:TE):TE:=fun σ H Q => t σ H fun c H1 => if c = true then ta σ H1 Q else tb σ H1 Q
theorem pe_ifExp {c:Expr} (hc:PT X c tA) (ha:PE X a ta) (hb:PE X b tb):PE X (.IfExp c a b pos) (tIf tA ta tb):=by
  (try refine ⟨?_⟩); intro pins s σ H Q I h
  refine wpAny_IfExp (thn (hc pins s σ H _ I h) fun d s1 ⟨H1,I1,q1⟩ => ?_)
  cases d with
  | true => exact ha pins s1 σ H1 Q I1 q1
  | false => exact hb pins s1 σ H1 Q I1 q1
end
def SqL (K:PySem.W.Frag) (H:Hp) (a:Addr) (xs:List V):Prop :=
  Rd H a (.lst xs) ∨
    ∃ (o:Obj) (its:Array Value) (n:Nat),K.lookup a = some o ∧ o.cls = .type "list" ∧ o.dict = none ∧ o.data = .seq its n ∧ its.size ≤ sizeLine ∧ Vals xs its.toList
def SqT (K:PySem.W.Frag) (H:Hp) (a:Addr) (xs:List V):Prop :=
  Rd H a (.tup xs) ∨
    ∃ (o:Obj) (its:Array Value) (n:Nat),K.lookup a = some o ∧ o.cls = .type "tuple" ∧ o.data = .seq its n ∧ its.size ≤ sizeLine ∧ Vals xs its.toList
def absV:Value → Option V
  | .none => some .non
  | .bool b => some (.bl b)
  | .int i _ => some (.int i)
  | .str x _ => some (.str x)
  | .bytes b _ => some (.byt b)
  | .float b _ => some (.flt b)
  | .ref a => some (.ref a)
  | .type n => some (.ty n)
  | _ => none
theorem RelV.abs {x:V} {u:Value} (r:RelV x u):absV u = some x:=by
  cases x with
  | non => cases r; rfl
  | bl _ => cases r; rfl
  | int _ => obtain ⟨t,rfl⟩:=r; rfl
  | str _ => obtain ⟨t,rfl⟩:=r; rfl
  | byt _ => obtain ⟨t,rfl⟩:=r; rfl
  | flt _ => obtain ⟨t,rfl⟩:=r; rfl
  | ref _ => cases r; rfl
  | ty _ => cases r; rfl
theorem RelV.inj {x y:V} {u:Value} (r:RelV x u) (q:RelV y u):x = y:=Option.some.inj (r.abs.symm.trans q.abs)
theorem Vals.inj:∀ {xs ys:List V} {us:List Value},Vals xs us → Vals ys us → xs = ys
  | _,_,_,.nil,.nil => rfl
  | _,_,_,.cons r t,.cons r' t' => by rw [r.inj r',Vals.inj t t']
section
variable {X:Cx} {pins:List (Addr × Obj)} {σ:St} {H:Hp} {s:Shared} {a:Addr} {xs ys:List V}
theorem SqL.of {K:PySem.W.Frag} (h:H a = some (.lst xs)):SqL K H a xs:=.inl (.inl h)
theorem SqT.of {K:PySem.W.Frag} (h:H a = some (.tup xs)):SqT K H a xs:=.inl (.inl h)
theorem Inv.list (I:Inv X pins σ H s) (h:SqL X.K H a xs):∃ its:List Value,Vals xs its ∧ PlainL s.heap a its.toArray ∧ xs.length ≤ sizeLine:=by
  rcases h with h | ⟨o,its,n,hk,hc,hd,hs,hz,r⟩
  · obtain ⟨z,its,n,r,e⟩:=h.ok I.hok
    exact ⟨its,r,⟨_,n,e,rfl,rfl,rfl⟩,z⟩
  · refine ⟨its.toList,r,⟨o,n,I.kIn a o hk,hc,hd,by simpa using hs⟩,?_⟩
    have e:=r.length
    simp only [Array.length_toList] at e
    exact zo102 hz e
theorem Inv.tuple (I:Inv X pins σ H s) (h:SqT X.K H a xs):∃ its:List Value,Vals xs its ∧ IsTup s.heap a its.toArray ∧ xs.length ≤ sizeLine:=by
  rcases h with h | ⟨o,its,n,hk,hc,hs,hz,r⟩
  · obtain ⟨z,its,r,p⟩:=h.ok I.hok
    exact ⟨its,r,p,z⟩
  · refine ⟨its.toList,r,⟨o,I.kIn a o hk,hc,n,by simpa using hs⟩,?_⟩
    have e:=r.length
    simp only [Array.length_toList] at e
    exact zo102 hz e
theorem Inv.list_inj (I:Inv X pins σ H s) (h:SqL X.K H a xs) (h':SqL X.K H a ys):xs = ys:=by
  obtain ⟨its,r,⟨o,n,e,_,_,d⟩,_⟩:=I.list h
  obtain ⟨its',r',⟨o',n',e',_,_,d'⟩,_⟩:=I.list h'
  rw [e] at e'; cases e'
  rw [d] at d'
  injection d' with d1 _
  have:its = its':=by simpa using congrArg Array.toList d1
  subst this
  exact r.inj r'
end
abbrev Cx.wish (X:Cx) (E:Value → Shared → Prop):Cx:={ X with xe:=E }
abbrev Cx.nox (X:Cx):Cx:=X.wish fun _ _ => False
theorem Cx.Ok.wish {X:Cx} (ok:X.Ok) (E:Value → Shared → Prop):(X.wish E).Ok :=
  ⟨ok.mod,ok.kind,ok.glob,ok.blt,ok.above,ok.inj,ok.has,ok.cab,ok.hd,ok.frames,ok.stk,ok.exf,ok.bs,ok.bsz,ok.noex,ok.exfs,ok.funs,ok.frf⟩
theorem Cx.Ok.unwish {X:Cx} {E:Value → Shared → Prop} (ok:(X.wish E).Ok):X.Ok :=
  ⟨ok.mod,ok.kind,ok.glob,ok.blt,ok.above,ok.inj,ok.has,ok.cab,ok.hd,ok.frames,ok.stk,ok.exf,ok.bs,ok.bsz,ok.noex,ok.exfs,ok.funs,ok.frf⟩
section
variable {X:Cx} {pins:List (Addr × Obj)} {σ:St} {H:Hp} {s:Shared} {E:Value → Shared → Prop}
theorem Inv.wish (I:Inv X pins σ H s) (E:Value → Shared → Prop):Inv (X.wish E) pins σ H s:=⟨I.ok.wish E,I.os,I.bare,I.base,I.loc,I.cell,I.free,I.freeC,I.pin,I.hok,I.len⟩
theorem Inv.unwish (I:Inv (X.wish E) pins σ H s):Inv X pins σ H s:=⟨I.ok.unwish,I.os,I.bare,I.base,I.loc,I.cell,I.free,I.freeC,I.pin,I.hok,I.len⟩
theorem SP.unwish {D:Ends} {f:Flow} {s':Shared} (h:SP (X.wish E) pins D f s'):SP X pins D f s':=by
  cases f with
  | next => obtain ⟨σ',H',I,q⟩:=h; exact ⟨σ',H',I.unwish,q⟩
  | brk => obtain ⟨σ',H',I,q⟩:=h; exact ⟨σ',H',I.unwish,q⟩
  | cont => obtain ⟨σ',H',I,q⟩:=h; exact ⟨σ',H',I.unwish,q⟩
  | ret u => obtain ⟨v,σ',H',I,r,q⟩:=h; exact ⟨v,σ',H',I.unwish,r,q⟩
theorem PSs.nox {st:List Stmt} {t:TS} (h:PSs X.nox st t):PSs X st t:=⟨fun pins s σ H D I hw =>
  wpAny_mono (h pins s σ H D (I.wish _) hw) (fun _ _ q => q.unwish) fun _ _ z => False.elim z⟩
end
section
variable {X:Cx} {st:Stmt} {rest:List Stmt} {t u:TS} {e:Expr} {te:TE} {pos:Pos}
def tNext:TS:=fun D σ H => D.nx σ H
def tSeq (t u:TS):TS:=fun D σ H => t { D with nx:=u D } σ H
theorem pss_nil:PSs X [] tNext:=⟨fun _ _ σ H _ I h => wpAny_execs_nil ⟨σ,H,I,h⟩⟩
theorem pss_cons (h1:PS X st t) (h2:PSs X rest u):PSs X (st :: rest) (tSeq t u):=by
  (try refine ⟨?_⟩); intro pins s σ H D I h
  refine wpAny_execs_cons (thn (h1 pins s σ H { D with nx:=u D } I h) fun f s1 q => ?_)
  cases f with
  | next =>
    obtain ⟨σ',H',I',q⟩:=q
    exact h2 pins s1 σ' H' D I' q
  | ret v => exact q
  | brk => exact q
  | cont => exact q
theorem pss_one (h1:PS X st t):PSs X [st] t:=by
  (try refine ⟨?_⟩); intro pins s σ H D I h
  refine wpAny_execs_cons (thn (h1 pins s σ H D I h) fun f s1 q => ?_)
  cases f with
  | next => exact wpAny_execs_nil q
  | ret v => exact q
  | brk => exact q
  | cont => exact q
theorem Inv.quiet {pins:List (Addr × Obj)} {σ:St} {H:Hp} {s:Shared} (I:Inv X pins σ H s):interactive X.env = false:=by simp [interactive,I.ok.kind]
def tDrop (te:TE):TS:=fun D σ H => te σ H fun _ H1 => D.nx σ H1
theorem ps_expr (he:PE X e te) (hs:swapsWith e none pos.line X.env = pure false:=by rfl):PS X (.Expr e pos) (tDrop te):=by
  (try refine ⟨?_⟩); intro pins s σ H D I h
  exact wpAny_Expr_any (thn (he pins s σ H _ I h) fun v s1 ⟨x,H1,I1,r1,q1⟩ => ⟨σ,H1,I1,q1⟩) I.quiet hs
def tRet (te:TE):TS:=fun D σ H => te σ H D.rt
theorem ps_ret (he:PE X e te):PS X (.Return (some e) pos) (tRet te):=by
  (try refine ⟨?_⟩); intro pins s σ H D I h
  exact wpAny_Return_some (thn (he pins s σ H _ I h) fun v s1 ⟨x,H1,I1,r1,q1⟩ => ⟨x,σ,H1,I1,r1,q1⟩)
def tIfS (c:TT) (t u:TS):TS:=fun D σ H => c σ H fun b H1 => if b = true then t D σ H1 else u D σ H1
theorem ps_if {c:Expr} {a b:List Stmt} {tc:TT} (hc:PT X c tc) (ha:PSs X a t) (hb:PSs X b u):PS X (.If c a b pos) (tIfS tc t u):=by
  (try refine ⟨?_⟩); intro pins s σ H D I h
  refine wpAny_If (thn (hc pins s σ H _ I h) fun d s1 ⟨H1,I1,q1⟩ => ?_)
  cases d with
  | true => exact ha pins s1 σ H1 D I1 q1
  | false => exact hb pins s1 σ H1 D I1 q1
def tNever:TS:=fun _ _ _ => False
theorem ps_never:PS X st tNever:=⟨fun _ _ _ _ _ _ h => h.elim⟩
end
abbrev TG:=V → St → Hp → (St → Hp → Prop) → Prop
abbrev TGs:=List V → St → Hp → (St → Hp → Prop) → Prop
structure PG (X:Cx) (target:Expr) (t:TG):Prop where
  go:∀ (pins:List (Addr × Obj)) (s:Shared) (σ:St) (H:Hp) (v:V) (u:Value) (Q:St → Hp → Prop),Inv X pins σ H s → RelV v u → t v σ H Q →
    wpAny (model X.prog X.w) X.A (assign target X.env u) (fun _ s' => ∃ σ' H',Inv X pins σ' H' s' ∧ Q σ' H') X.xe s
instance {X:Cx} {target:Expr} {t:TG}:CoeFun (PG X target t) fun _ => ∀ (pins:List (Addr × Obj)) (s:Shared) (σ:St) (H:Hp) (v:V) (u:Value) (Q:St → Hp → Prop),Inv X pins σ H s → RelV v u → t v σ H Q →
    wpAny (model X.prog X.w) X.A (assign target X.env u) (fun _ s' => ∃ σ' H',Inv X pins σ' H' s' ∧ Q σ' H') X.xe s:=⟨fun h => h.go⟩
structure PGs (X:Cx) (ts:List Expr) (t:TGs):Prop where
  go:∀ (pins:List (Addr × Obj)) (s:Shared) (σ:St) (H:Hp) (vs:List V) (us:List Value) (Q:St → Hp → Prop),Inv X pins σ H s → Vals vs us → t vs σ H Q →
    wpAny (model X.prog X.w) X.A (assignInOrder ((assignEach ts X.env).map (·.2)) us) (fun _ s' => ∃ σ' H',Inv X pins σ' H' s' ∧ Q σ' H') X.xe s
instance {X:Cx} {ts:List Expr} {t:TGs}:CoeFun (PGs X ts t) fun _ => ∀ (pins:List (Addr × Obj)) (s:Shared) (σ:St) (H:Hp) (vs:List V) (us:List Value) (Q:St → Hp → Prop),Inv X pins σ H s → Vals vs us → t vs σ H Q →
    wpAny (model X.prog X.w) X.A (assignInOrder ((assignEach ts X.env).map (·.2)) us) (fun _ s' => ∃ σ' H',Inv X pins σ' H' s' ∧ Q σ' H') X.xe s:=⟨fun h => h.go⟩
abbrev TSet:=V → V → V → Hp → (Hp → Prop) → Prop
def PSet (X:Cx) (t:TSet):Prop :=
  ∀ (pins:List (Addr × Obj)) (s:Shared) (σ:St) (H:Hp) (o i v:V) (ov iv u:Value) (Q:Hp → Prop),Inv X pins σ H s → RelV o ov → RelV i iv → RelV v u → t o i v H Q →
    wpAny (model X.prog X.w) X.A (setItem ov iv u) (fun _ s' => ∃ H',Inv X pins σ H' s' ∧ Q H') X.xe s
abbrev TIp:=V → V → Hp → VK → Prop
def PIp (X:Cx) (op:Operator) (t:TIp):Prop :=
  ∀ (pins:List (Addr × Obj)) (s:Shared) (σ:St) (H:Hp) (x y:V) (v u:Value) (Q:VK),Inv X pins σ H s → RelV x v → RelV y u → t x y H Q →
    wpAny (model X.prog X.w) X.A (inplaceOp op v u) (EP X pins σ Q) X.xe s
section
variable {X:Cx} {pos:Pos}
def gName (i:Nat):TG:=fun v σ H Q => Q (σ.set i (some v)) H
theorem pg_name {i:Nat} {x:Str} (hN:X.N.Nodup) (hi:X.N[i]? = some x) (hx:Loc X.env.scope x) (hf:X.fn x = true ∨ X.env.scope.names.lookup x = some .local:=by first | exact .inl rfl | exact .inr rfl | assumption):PG X (.Name x pos) (gName i):=by
  (try refine ⟨?_⟩); intro pins s σ H v u Q I r h
  exact wpAny_assign_Name (store_ok I hN hi hx r (fun s' I' => ⟨_,H,I',h⟩) hf)
def gNil:TGs:=fun vs σ H Q => vs = [] ∧ Q σ H
def gCons (t:TG) (u:TGs):TGs:=fun vs σ H Q => ∃ v r,vs = v :: r ∧ t v σ H fun σ' H' => u r σ' H' Q
theorem pgs_nil:PGs X [] gNil:=by
  (try refine ⟨?_⟩); intro pins s σ H vs us Q I r h
  obtain ⟨e,h⟩:=h
  subst e
  cases r
  exact assignInOrder_nil ⟨σ,H,I,h⟩
theorem pgs_cons {e:Expr} {es:List Expr} {t:TG} {u:TGs} (h1:PG X e t) (h2:PGs X es u)
    (hs:(assignEach (e :: es) X.env).map (·.2) = assign e X.env :: (assignEach es X.env).map (·.2):=by rfl):PGs X (e :: es) (gCons t u):=by
  (try refine ⟨?_⟩); intro pins s σ H vs us Q I r h
  obtain ⟨v,vr,e1,h⟩:=h
  subst e1
  cases r with
  | cons r rr =>
    rw [hs]
    refine assignInOrder_cons (thn (h1 pins s σ H _ _ _ I r h) fun _ s1 ⟨σ1,H1,I1,q1⟩ => ?_)
    exact h2 pins s1 σ1 H1 _ _ Q I1 rr q1
def gTup (K:PySem.W.Frag) (n:Nat) (t:TGs):TG:=fun v σ H Q => ∃ a xs,v = .ref a ∧ SqT K H a xs ∧ xs.length = n ∧ t xs σ H Q
theorem pg_tup {es:List Expr} {k:Nat} {t:TGs} {n:Nat} (hc:X.calm = true) (h:PGs X es t)
    (hn:(assignEach es X.env).length = n:=by rfl) (hst:(assignEach es X.env).findIdx? (·.1) = none:=by rfl):PG X (.Tuple es k pos) (gTup X.K n t):=by
  (try refine ⟨?_⟩); intro pins s σ H v u Q I r hw
  obtain ⟨a,xs,e1,hq,hl,hw⟩:=hw
  subst e1
  cases r
  obtain ⟨its,rv,ht,hz⟩:=I.tuple hq
  refine assign_Tuple_tuple (I.ok.hd hc) ht (by simp [hn,← hl,rv.length]) hst fun h' hx => ?_
  have I1:Inv X pins σ H { s with heap:=h' }:=I.kept (t':=s.toks) fun b o e => hx b o (Nat.ne_of_lt (Heap.lt_size e)) e
  exact h pins _ σ H xs _ Q I1 (by simpa using rv) hw
def gSub (to ti:TE) (t:TSet):TG:=fun v σ H Q => to σ H fun o H1 => ti σ H1 fun i H2 => t o i v H2 fun H3 => Q σ H3
theorem pg_sub {o i:Expr} {to ti:TE} {t:TSet} (ho:PE X o to) (hi:PE X i ti) (hs:PSet X t)
    (ha:∀ v,assign (.Subscript o i pos) X.env v = (do
      let ov ← holding [v] (eval o X.env)
      let iv ← holding [v,ov] (eval i X.env)
      standAt pos
      holding [v,ov,iv] (setItem ov iv v)
      release [v,ov,iv] []):=by intro _; rfl):PG X (.Subscript o i pos) (gSub to ti t):=by
  (try refine ⟨?_⟩); intro pins s σ H v u Q I r h
  rw [ha]
  refine wpAny_bind (wpAny_holding (thn (ho pins s σ H _ I h) fun ov s1 ⟨x,H1,I1,r1,q1⟩ => ?_))
  refine wpAny_bind (wpAny_holding (thn (hi pins s1 σ H1 _ I1 q1) fun iv s2 ⟨y,H2,I2,r2,q2⟩ => ?_))
  refine wpAny_bind (wpAny_standAt (wpAny_bind (wpAny_holding (thn (hs pins s2 σ H2 x y v ov iv u _ I2 r1 r2 r q2) fun _ s3 ⟨H3,I3,q3⟩ => ?_))))
  exact wpAny_release ⟨σ,H3,I3,q3⟩
def tAsg (te:TE) (g:TG):TS:=fun D σ H => te σ H fun x H1 => g x σ H1 D.nx
theorem ps_asg {tg e:Expr} {te:TE} {g:TG} (he:PE X e te) (hg:PG X tg g) (hs:swapsWithSole [tg] e pos.line X.env = pure false:=by rfl) (hw:swappedStores [tg] e X.env = pure none:=by rfl)
    (h1:(assignEach [tg] X.env).map (·.2) = [assign tg X.env]:=by rfl):PS X (.Assign [tg] e pos) (tAsg te g):=by
  (try refine ⟨?_⟩); intro pins s σ H D I h
  refine wpAny_Assign_stores (thn (he pins s σ H _ I h) fun v s1 ⟨x,H1,I1,r1,q1⟩ => ?_) hs hw
  rw [h1]
  exact thn (hg pins s1 σ H1 x v _ I1 r1 q1) fun _ s2 q => q
theorem ps_set {i:Nat} {x:Str} {e:Expr} {te:TE} {pos':Pos} (hN:X.N.Nodup) (hi:X.N[i]? = some x) (hx:Loc X.env.scope x) (he:PE X e te) (hs:swapsWith e (some (.Name x pos')) pos.line X.env = pure false:=by rfl) (hf:X.fn x = true ∨ X.env.scope.names.lookup x = some .local:=by first | exact .inl rfl | exact .inr rfl | assumption) :
    PS X (.Assign [.Name x pos'] e pos) (tAsg te (gName i)):=by
  (try refine ⟨?_⟩); intro pins s σ H D I h
  refine wpAny_Assign_Name (thn (he pins s σ H _ I h) fun v s1 ⟨y,H1,I1,r1,q1⟩ => ?_) hs
  exact store_ok I1 hN hi hx r1 (fun s2 I2 => ⟨_,H1,I2,q1⟩) hf
def tPar (i j:Nat) (ta:TA):TS:=fun D σ H => ta σ H fun vs H1 => ∃ v w,vs = [v,w] ∧ D.nx ((σ.set i (some v)).set j (some w)) H1
theorem ps_par {i j:Nat} {x y:Str} {a b:Expr} {ta:TA} {px py pt:Pos} {kt k2 pt2} (hc:X.calm = true) (hN:X.N.Nodup) (hi:X.N[i]? = some x) (hj:X.N[j]? = some y) (hij:i ≠ j)
    (hx:X.env.scope.names.lookup x = some .local) (hy:X.env.scope.names.lookup y = some .local) (ha:PA X [a,b] ta)
    (hw:swappedStores [.Tuple [.Name x px,.Name y py] kt pt] (.Tuple [a,b] k2 pt2) X.env = pure (some [x,y]))
    (hs:swapsWithSole [.Tuple [.Name x px,.Name y py] kt pt] (.Tuple [a,b] k2 pt2) pos.line X.env = pure false:=by rfl) :
    PS X (.Assign [.Tuple [.Name x px,.Name y py] kt pt] (.Tuple [a,b] k2 pt2) pos) (tPar i j ta):=by
  (try refine ⟨?_⟩); intro pins s σ H D I h
  rw [exec_Assign_arm]
  refine wpAny_bind (wpAny_standAt ?_)
  rw [hs]
  refine wpAny_bind (wpAny_pure ?_)
  rw [if_neg (by decide)]
  refine wpAny_bind (Tuple_ (thn (ha _ pins s σ H _ I h) fun us s1 ⟨vs,H1,I1,r1,q1⟩ => ?_))
  obtain ⟨v,w,e1,q1⟩:=q1
  subst e1
  obtain ⟨u1,u2,rfl,rv,rw'⟩:∃ u1 u2,us = [u1,u2] ∧ RelV v u1 ∧ RelV w u2:=by
    cases r1 with
    | cons p q =>
      cases q with
      | cons p' q' =>
        cases q'
        exact ⟨_,_,rfl,p,p'⟩
  refine wpAny_newObj_type ?_ (by show 2 ≤ sizeLine; decide)
  have I2:Inv X pins σ H1 { s1 with heap:=s1.heap.push { cls:=.type "tuple",data:=.seq [u1,u2].toArray } }:=I1.kept (t':=s1.toks) fun b o e => Heap.get?_push_of_some _ e
  rw [hw]
  refine wpAny_bind (wpAny_pure ?_)
  show wpAny (model X.prog X.w) X.A (do rule "assign.swapped-stores"; let items ← unpackItems (.ref s1.heap.objs.size) 2 none; assignInOrder [fun v => bindName X.env y v,fun v => bindName X.env x v] items.reverse; pure Flow.next) _ _ _
  refine wpAny_bind (wpAny_rule (wpAny_bind (unpackItems_tuple (items:=#[u1,u2]) (I.ok.hd hc) (IsTup.new s1.heap _) fun h' hx' => ?_)))
  have I3:=I2.kept (h':=h') (t':=s1.toks) fun b o e => hx' b o (Nat.ne_of_lt (Heap.lt_size e)) e
  show wpAny _ _ (assignInOrder [fun v => bindName X.env y v,fun v => bindName X.env x v] [u2,u1] >>= fun _ => pure Flow.next) _ _ _
  refine wpAny_bind (assignInOrder_cons (wpAny_bindName (store_ok I3 hN hj (.inl hy) rw' (fun s2 I4 => ?_) (.inr hy))))
  refine assignInOrder_cons (wpAny_bindName (store_ok I4 hN hi (.inl hx) rv (fun s3 I5 => assignInOrder_nil (wpAny_pure ?_)) (.inr hx)))
  rw [List.set_comm _ _ (Ne.symm hij)] at I5
  exact ⟨_,H1,I5,q1⟩
def tAugS (to ti te:TE) (tget:V → V → Hp → VK → Prop) (tip:TIp) (tset:TSet):TS:=fun D σ H => to σ H fun o H1 => ti σ H1 fun i H2 => tget o i H2 fun x H3 => te σ H3 fun y H4 => tip x y H4 fun z H5 => tset o i z H5 fun H6 => D.nx σ H6
def PGet (X:Cx) (t:V → V → Hp → VK → Prop):Prop :=
  ∀ (pins:List (Addr × Obj)) (s:Shared) (σ:St) (H:Hp) (o i:V) (ov iv:Value) (Q:VK),Inv X pins σ H s → RelV o ov → RelV i iv → t o i H Q →
    wpAny (model X.prog X.w) X.A (getItem ov iv) (EP X pins σ Q) X.xe s
theorem ps_augS {o i e:Expr} {to ti te:TE} {tget:V → V → Hp → VK → Prop} {tip:TIp} {tset:TSet} {op:Operator} {tpos:Pos} (ho:PE X o to) (hi:PE X i ti) (hg:PGet X tget) (he:PE X e te) (hp:PIp X op tip) (hs:PSet X tset)
    (ha:∀ ov iv new,augStore i ov iv new = (do holding [new,ov,iv] (setItem ov iv new); release [new,ov,iv] []; pure .next):=by intros; rfl):PS X (.AugAssign (.Subscript o i tpos) op e pos) (tAugS to ti te tget tip tset):=by
  (try refine ⟨?_⟩); intro pins s σ H D I h
  refine wpAny_AugAssign_SubscriptAny (thn (ho pins s σ H _ I h) fun ov s1 ⟨x1,H1,I1,r1,q1⟩ => ?_) ha
  refine thn (hi pins s1 σ H1 _ I1 q1) fun iv s2 ⟨x2,H2,I2,r2,q2⟩ => ?_
  refine thn (hg pins s2 σ H2 x1 x2 ov iv _ I2 r1 r2 q2) fun old s3 ⟨x3,H3,I3,r3,q3⟩ => ?_
  refine thn (he pins s3 σ H3 _ I3 q3) fun v s4 ⟨x4,H4,I4,r4,q4⟩ => ?_
  refine thn (hp pins s4 σ H4 x3 x4 old v _ I4 r3 r4 q4) fun new s5 ⟨x5,H5,I5,r5,q5⟩ => ?_
  exact thn (hs pins s5 σ H5 x1 x2 x5 ov iv new _ I5 r1 r2 r5 q5) fun _ s6 ⟨H6,I6,q6⟩ => ⟨σ,H6,I6,q6⟩
def ipI (f:Int → Int → Int):TIp:=fun x y H Q => ∃ i j,x = .int i ∧ y = .int j ∧ Q (.int (f i j)) H
theorem ip_add:PIp X .Add (ipI fun i j => i + j):=by
  (try refine ⟨?_⟩); intro pins s σ H x y v u Q I r1 r2 h
  obtain ⟨i,j,e1,e2,q⟩:=h
  subst e1; subst e2
  obtain ⟨t,rfl⟩:=r1
  obtain ⟨t',rfl⟩:=r2
  exact iadd_int ⟨.int _,H,I.tok _,⟨_,rfl⟩,q⟩
end
section
variable {X:Cx} {pos:Pos}
def tWhile (c:TT) (tb:TS):TS:=fun D σ H => ∃ W:Nat → St → Hp → Prop,(∃ m,W m σ H) ∧ ∀ m σ H,W m σ H →
  c σ H fun b H1 => if b = true then ∃ N:St → Hp → Prop,(∀ σ' H',N σ' H' → ∃ m',m' < m ∧ W m' σ' H') ∧ tb { D with nx:=N,ct:=N,bk:=D.nx } σ H1 else D.nx σ H1
theorem ps_while {c:Expr} {body:List Stmt} {tc:TT} {tb:TS} (hp:PassesOwn (model X.prog X.w) X.A X.env X.xe) (hc:PT X c tc) (hb:PSs X body tb):PS X (.While c body [] pos) (tWhile tc tb):=by
  (try refine ⟨?_⟩); intro pins s σ H D I h
  obtain ⟨W,⟨m0,w0⟩,turn⟩:=h
  refine wpAny_While (codeAny_whileLoop (fun n s' => ∃ σ' H',Inv X pins σ' H' s' ∧ W n σ' H') ?_ m0 ⟨σ,H,I,w0⟩)
  rintro n s1 ⟨σ1,H1,I1,w1⟩
  refine wpAny_passesOwn hp (thn (hc pins s1 σ1 H1 _ I1 (turn n σ1 H1 w1)) fun b s2 ⟨H2,I2,q2⟩ => ?_)
  cases b with
  | true =>
    obtain ⟨N,hN,q2⟩:=q2
    rw [if_pos rfl]
    refine wpAny_passesOwn hp (thn (hb pins s2 σ1 H2 _ I2 q2) fun f s3 q3 => ?_)
    cases f with
    | next =>
      obtain ⟨σ3,H3,I3,n3⟩:=q3
      obtain ⟨m',hm,w3⟩:=hN σ3 H3 n3
      exact ⟨m',hm,σ3,H3,I3,w3⟩
    | cont =>
      obtain ⟨σ3,H3,I3,n3⟩:=q3
      obtain ⟨m',hm,w3⟩:=hN σ3 H3 n3
      exact ⟨m',hm,σ3,H3,I3,w3⟩
    | brk => exact q3
    | ret v => exact q3
  | false =>
    rw [if_neg Bool.false_ne_true]
    exact wpAny_execs_nil ⟨σ1,H2,I2,q2⟩
end
structure It where
  go:Nat → Hp → Prop
  yld:Nat → Hp → V → Hp → Prop
  stop:Nat → Hp → Prop
def FpOk (X:Cx) (pins:List (Addr × Obj)) (H:Hp) (b:Addr):Prop :=
  H b = none ∧ b ≠ X.env.locals ∧ b ∉ X.fs ∧ (b ∈ X.ex ∨ X.s₀.heap.objs.size ≤ b) ∧ (∀ x c,X.env.cells.lookup x = some c → c ≠ b) ∧ ∀ p ∈ X.pn ++ pins,p.1 ≠ b
theorem Inv.fpOk {X:Cx} {pins:List (Addr × Obj)} {σ:St} {H H':Hp} {s:Shared} {b:Addr} (I:Inv X pins σ H s) (hb:s.heap.objs.size ≤ b) (hn:H' b = none):FpOk X pins H' b:=by
  refine ⟨hn,Nat.ne_of_gt (Nat.lt_of_lt_of_le I.lt hb),I.nofs hb,.inr (Nat.le_trans I.sz hb),fun x c e z => ?_,fun p hp z => ?_⟩
  · obtain ⟨v,q⟩:=I.cell x c e
    exact absurd (Nat.lt_of_lt_of_le q.lt (by rw [z]; exact hb)) (Nat.lt_irrefl _)
  · exact absurd (Nat.lt_of_lt_of_le (Heap.lt_size (I.pin p hp).1) (by rw [z]; exact hb)) (Nat.lt_irrefl _)
structure Turn (P:Program) (w:World) (K:PySem.W.Frag) (tg:Expr) (J:It) (fp:List Addr) (it:Addr) (tn:Nat → Heap → Prop):Prop where
  mem:it ∈ fp
  obj:∀ i h,tn i h → ∀ b ∈ fp,∃ o,h.get? b = some o ∧ ∀ v,o.data ≠ .cell v
  keep:∀ i h h',tn i h → (∀ b ∈ fp,∀ o,h.get? b = some o → h'.get? b = some o) → tn i h'
  item:∀ (X:Cx),X.prog = P → X.w = w → X.K = K → X.calm = true → ∀ (i:Nat) (pins:List (Addr × Obj)) (s:Shared) (σ:St) (H:Hp) (E:Value → Shared → Prop),Inv X pins σ H s → (∀ b ∈ fp,FpOk X pins H b) → tn i s.heap → J.go i H →
    wpAny (model P w) X.A (pyNext (.ref it)) (fun r s1 => ∃ u,r = some u ∧
      wpAny (model P w) X.A (letOwnedTupleGo tg (.ref it) u) (fun _ s2 => ∃ x H',Inv X pins σ H' s2 ∧ RelV x u ∧ J.yld i H x H' ∧ tn (i + 1) s2.heap ∧ ∀ b ∈ fp,H' b = none) E s1) E s
  done:∀ (X:Cx),X.prog = P → X.w = w → X.K = K → X.calm = true → ∀ (i:Nat) (pins:List (Addr × Obj)) (s:Shared) (σ:St) (H:Hp) (E:Value → Shared → Prop),Inv X pins σ H s → (∀ b ∈ fp,FpOk X pins H b) → tn i s.heap → J.stop i H →
    wpAny (model P w) X.A (pyNext (.ref it)) (fun r s1 => r = none ∧ Inv X pins σ H s1) E s
  self:∀ (A:Around) (i:Nat) (s:Shared) (Q:Value → Shared → Prop) (E:Value → Shared → Prop),tn i s.heap → Q (.ref it) s → wpAny (model P w) A (pyIter (.ref it)) Q E s
abbrev TI:=St → Hp → (It → Hp → Prop) → Prop
def PIE (X:Cx) (pins:List (Addr × Obj)) (σ:St) (tg:Expr) (R:It → Hp → Prop) (itv:Value) (s2:Shared):Prop :=
  ∃ (it:Addr) (fp:List Addr) (tn:Nat → Heap → Prop) (J:It) (H':Hp),itv = .ref it ∧ Inv X pins σ H' s2 ∧ Turn X.prog X.w X.K tg J fp it tn ∧ tn 0 s2.heap ∧ (∀ b ∈ fp,FpOk X pins H' b) ∧ R J H'
structure PI (X:Cx) (tg iter:Expr) (wi:TI):Prop where
  go:∀ (pins:List (Addr × Obj)) (s:Shared) (σ:St) (H:Hp) (R:It → Hp → Prop),Inv X pins σ H s → wi σ H R →
    wpAny (model X.prog X.w) X.A (eval iter X.env) (fun v s1 => wpAny (model X.prog X.w) X.A (pyIter v) (PIE X pins σ tg R) X.xe s1) X.xe s
instance {X:Cx} {tg iter:Expr} {wi:TI}:CoeFun (PI X tg iter wi) fun _ => ∀ (pins:List (Addr × Obj)) (s:Shared) (σ:St) (H:Hp) (R:It → Hp → Prop),Inv X pins σ H s → wi σ H R →
    wpAny (model X.prog X.w) X.A (eval iter X.env) (fun v s1 => wpAny (model X.prog X.w) X.A (pyIter v) (PIE X pins σ tg R) X.xe s1) X.xe s:=⟨fun h => h.go⟩
theorem go_of {M:Model} {A:Around} {E:Value → Shared → Prop} {s:Shared} {tg:Expr} {it:Addr} {u:Value} {o:Obj} {n:String} {vs:Array Value} {Q:Unit → Shared → Prop} (ho:s.heap.get? it = some o) (hc:o.cls = .type n) (hd:o.data = .fields vs)
    (hn : ["enumerate","zip","dict_itemiterator","dict_reverseitemiterator","odict_iterator","itertools.zip_longest","itertools.pairwise"].contains n = false) (hQ:Q () s):wpAny M A (letOwnedTupleGo tg (.ref it) u) Q E s:=by
  unfold letOwnedTupleGo
  cases tg <;> first
    | exact wpAny_pure hQ
    | (cases u <;> first
        | exact wpAny_pure hQ
        | (refine wpAny_bind (wpAny_load ho ?_)
           rw [hc,hd]
           show wpAny M A (if (["enumerate","zip","dict_itemiterator","dict_reverseitemiterator","odict_iterator","itertools.zip_longest","itertools.pairwise"].contains n && vs[0]? == some (rawInt _)) = true then _ else _) Q E s
           rw [if_neg (by intro h; rw [hn,Bool.false_and] at h; cases h)]
           exact wpAny_pure hQ))
def Itl (K:PySem.W.Frag) (a:Addr):It :=
  ⟨fun i H => ∃ xs x,SqL K H a xs ∧ xs[i]? = some x,fun i H x H' => H' = H ∧ ∀ xs,SqL K H a xs → xs[i]? = some x,fun i H => ∃ xs,SqL K H a xs ∧ xs.length ≤ i⟩
def Itr (lo:Int) (n:Nat):It:=⟨fun i _ => i < n,fun i H x H' => H' = H ∧ x = .int (lo + i),fun i _ => n ≤ i⟩
theorem turn_list {P:Program} {w:World} {K:PySem.W.Frag} {tg:Expr} (a it:Addr):Turn P w K tg (Itl K a) [it] it (fun i h => h.IsListIter it a i) where
  mem:=by simp
  obj:=fun i h st b hb => by
    have e:b = it:=by simpa using hb
    subst e
    obtain ⟨o,e,c,d⟩:=st
    exact ⟨o,e,fun v z => by rw [d] at z; cases z⟩
  keep:=fun i h h' st k => st.at fun o e => k it (by simp) o e
  item:=by
    intro X hP hw hK hc i pins s σ H E I hf st hg
    subst hP hw hK
    obtain ⟨xs,x,hq,hx⟩:=hg
    obtain ⟨its,rv,p,hz⟩:=I.list hq
    obtain ⟨u,hu,ru⟩:=rv.get hx
    obtain ⟨f0,f1,f2,f3,f4,f5⟩:=hf it (by simp)
    refine wpAny_pyNext_list_item st p.isList (x:=u) (by simpa using hu) fun h' st' sb => ?_
    have I1:Inv X pins σ H { s with heap:=h' }:=I.turned (t':=s.toks) (fun b o hb e => (sb.2 b hb).trans e) f0 f1 f3 f4 f5
    obtain ⟨o,e,c,d⟩:=id st'
    exact ⟨u,rfl,go_of (s:={ s with heap:=h' }) e c d (by decide) ⟨x,H,I1,ru,⟨rfl,fun ys hy => by rw [I.list_inj hy hq]; exact hx⟩,st',fun b hb => (hf b hb).1⟩⟩
  done:=by
    intro X hP hw hK hc i pins s σ H E I hf st hg
    subst hP hw hK
    obtain ⟨xs,hq,hx⟩:=hg
    obtain ⟨its,rv,p,hz⟩:=I.list hq
    obtain ⟨f0,f1,f2,f3,f4,f5⟩:=hf it (by simp)
    have hl:=rv.length
    exact wpAny_pyNext_list_end (I.ok.hd hc) st p.isList (by simp; exact zo10 hx hl) fun h' eb => ⟨rfl,I.turned (t':=s.toks) (fun b o hb e => eb b o hb e) f0 f1 f3 f4 f5⟩
  self:=fun _ _ _ _ _ st h => wpAny_pyIter_listiter st h
theorem turn_range {P:Program} {w:World} {K:PySem.W.Frag} {tg:Expr} (it:Addr) (lo:Int) (n:Nat):Turn P w K tg (Itr lo n) [it] it (fun i h => IsRangeIter h it (lo + (i:Nat) * 1) ((n:Int) - (i:Nat)) 1) where
  mem:=by simp
  obj:=fun i h st b hb => by
    have e:b = it:=by simpa using hb
    subst e
    exact ⟨_,st,fun v z => by
      have z':Data.fields _ = Data.cell v:=z
      cases z'⟩
  keep:=fun i h h' st k => k it (by simp) _ st
  item:=by
    intro X hP hw hK hc i pins s σ H E I hf st hg
    subst hP hw hK
    obtain ⟨f0,f1,f2,f3,f4,f5⟩:=hf it (by simp)
    have W:=Walks.range (prog:=X.prog) (w:=X.w) (I.ok.hd hc) it lo 1 n
    refine W.item i s _ _ hg st fun v h' tk hv st' kk => ?_
    obtain ⟨t,rfl⟩:=hv
    have I1:Inv X pins σ H { s with heap:=h',toks:=tk }:=I.turned (fun b o hb e => kk b o (by simpa using hb) e) f0 f1 f3 f4 f5
    refine ⟨_,rfl,go_of (s:={ s with heap:=h',toks:=tk }) (n:="range_iterator") st' rfl rfl (by decide) ⟨.int (lo + i),H,I1,⟨t,?_⟩,⟨rfl,rfl⟩,st',fun b hb => (hf b hb).1⟩⟩
    rw [Int.mul_one]
  done:=by
    intro X hP hw hK hc i pins s σ H E I hf st hg
    subst hP hw hK
    obtain ⟨f0,f1,f2,f3,f4,f5⟩:=hf it (by simp)
    exact wpAny_pyNext_range_end (I.ok.hd hc) st (by have:n ≤ i:=hg; exact zo276 this) fun h' eb => ⟨rfl,I.turned (t':=s.toks) (fun b o hb e => eb b o hb e) f0 f1 f3 f4 f5⟩
  self:=fun _ _ _ _ _ st h => wpAny_pyIter_rangeiter st h
section
variable {X:Cx} {tg:Expr}
def iList (K:PySem.W.Frag) (tl:TE):TI:=fun σ H R => tl σ H fun x H1 => ∃ a,x = .ref a ∧ (∃ xs,SqL K H1 a xs) ∧ R (Itl K a) H1
theorem pi_list {l:Expr} {tl:TE} (hl:PE X l tl):PI X tg l (iList X.K tl):=by
  (try refine ⟨?_⟩); intro pins s σ H R I h
  refine thn (hl pins s σ H _ I h) fun v s1 ⟨x,H1,I1,r1,q1⟩ => ?_
  obtain ⟨a,e,⟨xs,hq⟩,q⟩:=q1
  subst e
  cases r1
  obtain ⟨its,rv,p,hz⟩:=I1.list hq
  refine wpAny_pyIter_list p.isList ?_
  refine ⟨s1.heap.objs.size,[s1.heap.objs.size],_,_,H1,rfl,I1.kept (t':=s1.toks) fun b o e => Heap.get?_push_of_some _ e,turn_list a _,⟨_,Heap.get?_push_size _ rfl,rfl,rfl⟩,fun b hb => ?_,q⟩
  have e:b = s1.heap.objs.size:=by simpa using hb
  subst e
  exact I1.fpOk (Nat.le_refl _) (I1.hok.fresh (Nat.le_refl _))
theorem range_it {pins:List (Addr × Obj)} {σ:St} {H:Hp} {s:Shared} {R:It → Hp → Prop} {E:Value → Shared → Prop} {lo hi:Int} {t u v:Tok} {tk:Nat} (I:Inv X pins σ H s) (h1 : -(2 ^ 62) ≤ lo) (h2:lo < 2 ^ 62) (h3 : -(2 ^ 62) ≤ hi) (h4:hi < 2 ^ 62)
    (q:R (Itr lo (hi - lo).toNat) H):wpAny (model X.prog X.w) X.A (pyIter (.ref s.heap.objs.size)) (PIE X pins σ tg R) E { s with heap:=s.heap.push { cls:=.type "range",data:=.fields #[.int lo t,.int hi u,.int 1 v] },toks:=tk }:=by
  refine wpAny_pyIter_range (IsRange.new ..) (small_one h1 h2 h3 h4) ?_
  have I1:Inv X pins σ H { s with heap:=s.heap.push { cls:=.type "range",data:=.fields #[.int lo t,.int hi u,.int 1 v] },toks:=tk }:=I.kept fun b o e => Heap.get?_push_of_some _ e
  refine ⟨(s.heap.push { cls:=.type "range",data:=.fields #[.int lo t,.int hi u,.int 1 v] }).objs.size,[(s.heap.push { cls:=.type "range",data:=.fields #[.int lo t,.int hi u,.int 1 v] }).objs.size],_,_,H,rfl,
    I1.kept (t':=tk) fun b o e => Heap.get?_push_of_some _ e,turn_range _ lo (hi - lo).toNat,?_,fun b hb => ?_,q⟩
  · have e1:lo + ((0:Nat):Int) * 1 = lo:=by simp
    have e2:(((hi - lo).toNat:Nat):Int) - ((0:Nat):Int) = Builtin.Range.rangeSize lo hi 1:=by rw [rangeSize_one]; split <;> (first|lia|omega)
    show IsRangeIter _ _ (lo + ((0:Nat):Int) * 1) ((((hi - lo).toNat:Nat):Int) - ((0:Nat):Int)) 1
    rw [e1,e2]
    exact Heap.get?_push_size _ rfl
  · have e:b = (s.heap.push { cls:=.type "range",data:=.fields #[.int lo t,.int hi u,.int 1 v] }).objs.size:=by simpa using hb
    subst e
    exact I1.fpOk (Nat.le_refl _) (I1.hok.fresh (Nat.le_refl _))
def iRng1 (ta:TA):TI:=fun σ H R => ta σ H fun vs H1 => ∃ j:Int,vs = [.int j] ∧ -(2 ^ 62) ≤ j ∧ j < 2 ^ 62 ∧ R (Itr 0 j.toNat) H1
def iRng2 (ta:TA):TI:=fun σ H R => ta σ H fun vs H1 => ∃ i j:Int,vs = [.int i,.int j] ∧ (-(2 ^ 62) ≤ i ∧ i < 2 ^ 62 ∧ -(2 ^ 62) ≤ j ∧ j < 2 ^ 62) ∧ R (Itr i (j - i).toNat) H1
theorem pi_range1 {a:Expr} {ta:TA} {p pos:Pos} (hg:Gl X "range") (hm:X.mg "range" = none) (ha:PA X [a] ta) (hs:starEach [a] X.env = [(false,eval a X.env)]:=by rfl):PI X tg (.Call (.Name "range" p) [a] [] pos) (iRng1 ta):=by
  (try refine ⟨?_⟩); intro pins s σ H R I h
  refine Call_ (ld_blt I hg hm boot_range (PyProof.Rows.callWith_type1 (thn (ha pos pins s σ H _ I h) fun us s1 ⟨vs,H1,I1,r1,q1⟩ => ?_) hs rfl))
  obtain ⟨j,e,q1,q2,q⟩:=q1
  subst e
  cases r1 with
  | cons r rr =>
    cases rr
    obtain ⟨t,rfl⟩:=r
    exact call_range_1 (range_it I1 (by exact zo296) (by exact zo300) q1 q2 (by simpa using q))
theorem pi_range2 {a b:Expr} {ta:TA} {p pos:Pos} (hg:Gl X "range") (hm:X.mg "range" = none) (ha:PA X [a,b] ta) (hs:starEach [a,b] X.env = [(false,eval a X.env),(false,eval b X.env)]:=by rfl) (hs2:starEach [b] X.env = [(false,eval b X.env)]:=by rfl) :
    PI X tg (.Call (.Name "range" p) [a,b] [] pos) (iRng2 ta):=by
  (try refine ⟨?_⟩); intro pins s σ H R I h
  refine Call_ (ld_blt I hg hm boot_range (PyProof.Rows.callWith_type1 (thn (ha pos pins s σ H _ I h) fun us s1 ⟨vs,H1,I1,r1,q1⟩ => ?_) (by rw [hs,hs2]) (by rw [hs2]; rfl)))
  obtain ⟨i,j,e,⟨q1,q2,q3,q4⟩,q⟩:=q1
  subst e
  cases r1 with
  | cons r rr =>
    cases rr with
    | cons r' rr =>
      cases rr
      obtain ⟨t,rfl⟩:=r
      obtain ⟨t',rfl⟩:=r'
      exact call_range_2 (range_it I1 q1 q2 q3 q4 q)
def tFor (wi:TI) (g:TG) (tb:TS):TS:=fun D σ H => wi σ H fun J H1 => ∃ W:Nat → Nat → St → Hp → Prop,(∃ m,W 0 m σ H1) ∧ ∀ i m σ H,W i m σ H →
  (J.stop i H ∧ D.nx σ H) ∨ (J.go i H ∧ ∃ N:St → Hp → Prop,(∀ σ' H',N σ' H' → ∃ m',m' < m ∧ W (i + 1) m' σ' H') ∧ ∀ x H',J.yld i H x H' → g x σ H' fun σ2 H2 => tb { D with nx:=N,ct:=N,bk:=D.nx } σ2 H2)
def pinsAt (fp:List Addr) (h:Heap):List (Addr × Obj):=fp.filterMap fun b => (h.get? b).map fun o => (b,o)
theorem mem_pinsAt {fp:List Addr} {h:Heap} {b:Addr} {o:Obj} (hb:b ∈ fp) (e:h.get? b = some o):(b,o) ∈ pinsAt fp h:=List.mem_filterMap.mpr ⟨b,hb,by rw [e]; rfl⟩
theorem of_pinsAt {fp:List Addr} {h:Heap} {p:Addr × Obj} (hp:p ∈ pinsAt fp h):p.1 ∈ fp ∧ h.get? p.1 = some p.2:=by
  obtain ⟨b,hb,e⟩:=List.mem_filterMap.mp hp
  cases q:h.get? b with
  | none => rw [q] at e; cases e
  | some o =>
    rw [q] at e
    have e':(b,o) = p:=Option.some.inj e
    subst e'
    exact ⟨hb,q⟩
theorem Inv.pinned {pins:List (Addr × Obj)} {σ:St} {H:Hp} {s:Shared} {fp:List Addr} (I:Inv X pins σ H s) (hf:∀ b ∈ fp,FpOk X pins H b) (ho:∀ b ∈ fp,∃ o,s.heap.get? b = some o ∧ ∀ v,o.data ≠ .cell v):Inv X (pins ++ pinsAt fp s.heap) σ H s :=
  I.pins_of fun p hp => (List.mem_append.mp hp).elim (fun z => I.pin p (List.mem_append_right _ z)) fun z => by
    obtain ⟨hb,e⟩:=of_pinsAt z
    obtain ⟨f0,f1,f2,_⟩:=hf p.1 hb
    obtain ⟨o,e',d⟩:=ho p.1 hb
    rw [e] at e'; cases e'
    exact ⟨e,f0,f1,f2,d⟩
theorem Inv.unpinned {pins pl:List (Addr × Obj)} {σ:St} {H:Hp} {s:Shared} (I:Inv X (pins ++ pl) σ H s):Inv X pins σ H s:=I.pins_of fun p hp => I.pin p (List.mem_append_right _ (List.mem_append_left _ hp))
theorem ps_for {iter:Expr} {body:List Stmt} {wi:TI} {g:TG} {tb:TS} {pos:Pos} (hp:PassesOwn (model X.prog X.w) X.A X.env X.xe) (hc:X.calm = true) (hi:PI X tg iter wi) (hg:PG X tg g) (hb:PSs X body tb)
    (hs:∀ x,foldedSetIterable iter X.env x = pure x:=by intro _; rfl):PS X (.For tg iter body [] pos) (tFor wi g tb):=by
  (try refine ⟨?_⟩); intro pins s σ H D I h
  refine wpAny_For (thn (hi pins s σ H _ I h) fun v s1 h1 => thn h1 fun itv s2 h2 => ?_) hs
  obtain ⟨it,fp,tn,J,H2,e,I2,T,st2,f2,W,⟨m0,w0⟩,turn⟩:=h2
  subst e
  -- what stays true of the iterator's objects through the loop
  have stat:∀ {H':Hp},(∀ b ∈ fp,H' b = none) → ∀ b ∈ fp,FpOk X pins H' b:=fun hn b hb => ⟨hn b hb,(f2 b hb).2⟩
  refine codeAny_forLoop_any (fun n s' => ∃ i σ' H',Inv X pins σ' H' s' ∧ tn i s'.heap ∧ (∀ b ∈ fp,H' b = none) ∧ W i n σ' H') ?_ m0 ⟨0,σ,H2,I2,st2,fun b hb => (f2 b hb).1,w0⟩
  rintro n s3 ⟨i,σ3,H3,I3,st3,fr3,w3⟩
  rcases turn i n σ3 H3 w3 with ⟨stop,qn⟩ | ⟨go,N,hN,step⟩
  · refine wpAny_passesOwn hp (thn (T.done X rfl rfl rfl hc i pins s3 σ3 H3 X.xe I3 (stat fr3) st3 stop) fun r s4 ⟨hr,I4⟩ => ?_)
    subst hr
    exact wpAny_execs_nil ⟨σ3,H3,I4,qn⟩
  · refine wpAny_passesOwn hp (thn (T.item X rfl rfl rfl hc i pins s3 σ3 H3 X.xe I3 (stat fr3) st3 go) fun r s4 ⟨u,hr,h4⟩ => ?_)
    subst hr
    refine wpAny_passesOwn hp (thn h4 fun _ s5 ⟨x,H5,I5,r5,y5,st5,fr5⟩ => ?_)
    have I5':=I5.pinned (stat fr5) (T.obj _ _ st5)
    refine wpAny_passesOwn hp (thn (hg _ s5 σ3 H5 x u _ I5' r5 (step x H5 y5)) fun _ s6 ⟨σ6,H6,I6,q6⟩ => ?_)
    refine wpAny_passesOwn hp (thn (hb _ s6 σ6 H6 _ I6 q6) fun f s7 q7 => ?_)
    have again:∀ {σ7:St} {H7:Hp},Inv X (pins ++ pinsAt fp s5.heap) σ7 H7 s7 → N σ7 H7 → ∃ m,m < n ∧ ∃ i σ' H',Inv X pins σ' H' s7 ∧ tn i s7.heap ∧ (∀ b ∈ fp,H' b = none) ∧ W i m σ' H':=fun {σ7 H7} I7 n7 => by
      obtain ⟨m',hm,w7⟩:=hN σ7 H7 n7
      refine ⟨m',hm,i + 1,σ7,H7,I7.unpinned,T.keep _ _ _ st5 fun b hb o e => (I7.pin (b,o) (List.mem_append_right _ (List.mem_append_right _ (mem_pinsAt hb e)))).1,fun b hb => ?_,w7⟩
      obtain ⟨o,e,d⟩:=T.obj _ _ st5 b hb
      exact (I7.pin (b,o) (List.mem_append_right _ (List.mem_append_right _ (mem_pinsAt hb e)))).2.1
    cases f with
    | next => obtain ⟨σ7,H7,I7,n7⟩:=q7; exact again I7 n7
    | cont => obtain ⟨σ7,H7,I7,n7⟩:=q7; exact again I7 n7
    | brk => obtain ⟨σ7,H7,I7,q7⟩:=q7; exact ⟨σ7,H7,I7.unpinned,q7⟩
    | ret v => obtain ⟨x7,σ7,H7,I7,r7,q7⟩:=q7; exact ⟨x7,σ7,H7,I7.unpinned,r7,q7⟩
end
abbrev R2:=V → V → Hp → VK → Prop
def OpR (X:Cx) (f:Value → Value → Sem Value) (r:R2):Prop :=
  ∀ (pins:List (Addr × Obj)) (s:Shared) (σ:St) (H:Hp) (x y:V) (v u:Value) (Q:VK),Inv X pins σ H s → RelV x v → RelV y u → r x y H Q →
    wpAny (model X.prog X.w) X.A (f v u) (EP X pins σ Q) X.xe s
def UnR (X:Cx) (f:Value → Sem Value) (r:V → Hp → VK → Prop):Prop :=
  ∀ (pins:List (Addr × Obj)) (s:Shared) (σ:St) (H:Hp) (x:V) (v:Value) (Q:VK),Inv X pins σ H s → RelV x v → r x H Q →
    wpAny (model X.prog X.w) X.A (f v) (EP X pins σ Q) X.xe s
def CallR (X:Cx) (f:Value) (r:List V → Hp → VK → Prop):Prop :=
  ∀ (pins:List (Addr × Obj)) (s:Shared) (σ:St) (H:Hp) (xs:List V) (us:List Value) (Q:VK),Inv X pins σ H s → Vals xs us → r xs H Q →
    wpAny (model X.prog X.w) X.A (call f us) (EP X pins σ Q) X.xe s
def tOp (r:R2) (ta tb:TE):TE:=fun σ H Q => ta σ H fun x H1 => tb σ H1 fun y H2 => r x y H2 Q
def tUn (r:V → Hp → VK → Prop) (ta:TE):TE:=fun σ H Q => ta σ H fun x H1 => r x H1 Q
def rI (C:Int → Int → Prop) (g:Int → Int → V):R2:=fun x y H Q => ∃ i j,x = .int i ∧ y = .int j ∧ C i j ∧ Q (g i j) H
def rI0 (g:Int → Int → V):R2:=fun x y H Q => ∃ i j,x = .int i ∧ y = .int j ∧ Q (g i j) H
def rU (g:Int → V):V → Hp → VK → Prop:=fun x H Q => ∃ i,x = .int i ∧ Q (g i) H
section
variable {X:Cx} {a b c:Expr} {ta tb tc:TE} {pos:Pos}
theorem binT (ha:PE X a ta) (hb:PE X b tb) {pins:List (Addr × Obj)} {s:Shared} {σ:St} {H:Hp} {R:V → V → Hp → Prop} (I:Inv X pins σ H s)
    (h:ta σ H fun x H1 => tb σ H1 fun y H2 => R x y H2) {Q:Value → Shared → Prop} {f:Value → Value → Sem Value}
    (hf:∀ v u s2 x y H2,Inv X pins σ H2 s2 → RelV x v → RelV y u → R x y H2 → wpAny (model X.prog X.w) X.A (f v u) Q X.xe s2) :
    wpAny (model X.prog X.w) X.A (eval a X.env) (fun v s₁ => wpAny (model X.prog X.w) X.A (eval b X.env) (fun u s₂ => wpAny (model X.prog X.w) X.A (f v u) Q X.xe s₂) X.xe s₁) X.xe s:=by
  refine thn (ha pins s σ H _ I h) fun v s1 ⟨x,H1,I1,r1,q1⟩ => ?_
  refine thn (hb pins s1 σ H1 _ I1 q1) fun u s2 ⟨y,H2,I2,r2,q2⟩ => ?_
  exact hf v u s2 x y H2 I2 r1 r2 q2
theorem pe_op {op:Operator} {r:R2} (ho:OpR X (binaryOp op) r) (ha:PE X a ta) (hb:PE X b tb):PE X (.BinOp a op b pos) (tOp r ta tb):=by
  (try refine ⟨?_⟩); intro pins s σ H Q I h
  exact wpAny_BinOp (binT ha hb I h fun v u s2 x y H2 I2 rx ry q => ho pins s2 σ H2 x y v u Q I2 rx ry q)
theorem pe_un {op:UnaryOp} {r:V → Hp → VK → Prop} (ho:UnR X (unaryOp op) r) (ha:PE X a ta):PE X (.UnaryOp op a pos) (tUn r ta):=by
  (try refine ⟨?_⟩); intro pins s σ H Q I h
  exact UnaryOp_ (thn (ha pins s σ H _ I h) fun v s1 ⟨x,H1,I1,r1,q1⟩ => ho pins s1 σ H1 x v Q I1 r1 q1)
theorem opI {f:Value → Value → Sem Value} {C:Int → Int → Prop} {g:Int → Int → Int}
    (rule:∀ (i j:Int) (t u:Tok) (s:Shared) (Q:Value → Shared → Prop) (E:Value → Shared → Prop),C i j → Q (.int (g i j) s.toks) { s with toks:=s.toks + 1 } → wpAny (model X.prog X.w) X.A (f (.int i t) (.int j u)) Q E s) :
    OpR X f (rI C fun i j => .int (g i j)):=by
  (try refine ⟨?_⟩); intro pins s σ H x y v u Q I rx ry h
  obtain ⟨i,j,rfl,rfl,hc,q⟩:=h
  obtain ⟨t,rfl⟩:=rx
  obtain ⟨t',rfl⟩:=ry
  exact rule i j t t' s _ _ hc ⟨.int (g i j),H,I.tok _,⟨_,rfl⟩,q⟩
theorem opI0 {f:Value → Value → Sem Value} {g:Int → Int → Int}
    (rule:∀ (i j:Int) (t u:Tok) (s:Shared) (Q:Value → Shared → Prop) (E:Value → Shared → Prop),Q (.int (g i j) s.toks) { s with toks:=s.toks + 1 } → wpAny (model X.prog X.w) X.A (f (.int i t) (.int j u)) Q E s) :
    OpR X f (rI0 fun i j => .int (g i j)):=by
  (try refine ⟨?_⟩); intro pins s σ H x y v u Q I rx ry h
  obtain ⟨i,j,rfl,rfl,q⟩:=h
  obtain ⟨t,rfl⟩:=rx
  obtain ⟨t',rfl⟩:=ry
  exact rule i j t t' s _ _ ⟨.int (g i j),H,I.tok _,⟨_,rfl⟩,q⟩
theorem opB0 {f:Value → Value → Sem Value} {g:Int → Int → Bool}
    (rule:∀ (i j:Int) (t u:Tok) (s:Shared) (Q:Value → Shared → Prop) (E:Value → Shared → Prop),Q (.bool (g i j)) s → wpAny (model X.prog X.w) X.A (f (.int i t) (.int j u)) Q E s) :
    OpR X f (rI0 fun i j => .bl (g i j)):=by
  (try refine ⟨?_⟩); intro pins s σ H x y v u Q I rx ry h
  obtain ⟨i,j,rfl,rfl,q⟩:=h
  obtain ⟨t,rfl⟩:=rx
  obtain ⟨t',rfl⟩:=ry
  exact rule i j t t' s _ _ ⟨.bl (g i j),H,I,rfl,q⟩
def CDiv (i j:Int):Prop:=0 < j ∧ j < 1073741824
def CPow (i j:Int):Prop:=0 ≤ j ∧ j ≤ 1000000 ∧ i.natAbs < 2 ^ 64
def CMul (i j:Int):Prop:=(-(2 ^ 64) < i ∧ i < 2 ^ 64) ∨ (-(2 ^ 64) < j ∧ j < 2 ^ 64)
theorem CMul.ok {i j:Int} (h:CMul i j):IntMulOk i j:=by
  rcases h with ⟨h1,h2⟩ | ⟨h1,h2⟩
  · exact .of_left (intBits_le_64 h1 h2)
  · exact .of_right (intBits_le_64 h1 h2)
theorem op_add:OpR X (binaryOp .Add) (rI0 fun i j => .int (i + j)):=opI0 fun _ _ _ _ _ _ _ q => add_int q
theorem op_sub:OpR X (binaryOp .Sub) (rI0 fun i j => .int (i - j)):=opI0 fun _ _ _ _ _ _ _ q => sub_int q
theorem op_mul:OpR X (binaryOp .Mult) (rI CMul fun i j => .int (i * j)):=opI fun _ _ _ _ _ _ _ hc q => mul_int q hc.ok
theorem op_fdiv:OpR X (binaryOp .FloorDiv) (rI CDiv fun i j => .int (i / j)):=opI fun i j _ _ _ _ _ hc q => by
  have h1:(0:Int) < j:=hc.1
  have h2:j < 1073741824:=hc.2
  exact floordiv_int (by exact zo279 h1 h2) (by rw [Int.fdiv_eq_ediv_of_nonneg i (by exact zo272 h1 h2)]; exact q) (.inl (PyProof.noPylong_small (by (first|lia|omega))))
theorem op_mod:OpR X (binaryOp .Mod) (rI (fun _ j => 0 < j) fun i j => .int (i % j)):=opI fun i j _ _ _ _ _ hc q => by
  have h1:(0:Int) < j:=hc
  exact mod_int' (by exact zo31 hc) (by rw [Int.fmod_eq_emod_of_nonneg i (by exact zo119 hc)]; exact q)
theorem op_pow:OpR X (binaryOp .Pow) (rI CPow fun i j => .int (i ^ j.toNat)):=opI fun _ _ _ _ _ _ _ hc q => pow_int_small hc.1 hc.2.1 hc.2.2 q
theorem unI {f:Value → Sem Value} {g:Int → Int}
    (rule:∀ (i:Int) (t:Tok) (s:Shared) (Q:Value → Shared → Prop) (E:Value → Shared → Prop),Q (.int (g i) s.toks) { s with toks:=s.toks + 1 } → wpAny (model X.prog X.w) X.A (f (.int i t)) Q E s) :
    UnR X f (rU fun i => .int (g i)):=by
  (try refine ⟨?_⟩); intro pins s σ H x v Q I rx h
  obtain ⟨i,rfl,q⟩:=h
  obtain ⟨t,rfl⟩:=rx
  exact rule i t s _ _ ⟨.int (g i),H,I.tok _,⟨_,rfl⟩,q⟩
theorem un_neg:UnR X (unaryOp .USub) (rU fun i => .int (-i)):=unI fun _ _ _ _ _ q => neg_int q
end
section
variable {X:Cx} {a b c:Expr} {ta tb tc:TE} {pos:Pos}
theorem fin_bl {pins:List (Addr × Obj)} {σ:St} {H:Hp} {s:Shared} {Q:VK} {k k':Bool} (I:Inv X pins σ H s) (q:Q (.bl k) H) (e:k = k'):EP X pins σ Q (.bool k') s:=by
  subst e
  exact ⟨.bl k,H,I,rfl,q⟩
theorem op_lt:OpR X (compareOp .Lt) (rI0 fun i j => .bl (decide (i < j))):=opB0 fun _ _ _ _ _ _ _ q => lt_int q
theorem op_le:OpR X (compareOp .LtE) (rI0 fun i j => .bl (decide (i ≤ j))):=opB0 fun _ _ _ _ _ _ _ q => le_int q
theorem op_gt:OpR X (compareOp .Gt) (rI0 fun i j => .bl (decide (j < i))):=opB0 fun _ _ _ _ _ _ _ q => gt_int q
theorem op_ge:OpR X (compareOp .GtE) (rI0 fun i j => .bl (decide (j ≤ i))):=opB0 fun _ _ _ _ _ _ _ q => ge_int q
theorem op_isN:OpR X (compareOp .Is) (fun x y H Q => y = .non ∧ Q (.bl (decide (x = .non))) H):=by
  (try refine ⟨?_⟩); intro pins s σ H x y v u Q I rx ry h
  obtain ⟨rfl,q⟩:=h
  cases ry
  refine is_none_gen (fin_bl I q ?_)
  cases x <;> first
    | (cases rx; rfl)
    | (obtain ⟨t,rfl⟩:=rx; rfl)
theorem nomark (b:Expr) {op:CmpOp} (h:op ≠ .In:=by decide) (h2:op ≠ .NotIn:=by decide):behindInMarks op b = false:=by
  have e1:(op == CmpOp.In) = false:=by cases op <;> first | rfl | exact absurd rfl h
  have e2:(op == CmpOp.NotIn) = false:=by cases op <;> first | rfl | exact absurd rfl h2
  cases b <;> simp [behindInMarks,e1,e2]
theorem pe_cmpR {op:CmpOp} {r:R2} (ho:OpR X (compareOp op) r) (ha:PE X a ta) (hb:PE X b tb) (hm:behindInMarks op b = false):PE X (.Compare a [op] [b] pos) (tOp r ta tb):=by
  (try refine ⟨?_⟩); intro pins s σ H Q I h
  exact wpAny_Compare1 (binT ha hb I h fun v u s2 x y H2 I2 rx ry q => ho pins s2 σ H2 x y v u Q I2 rx ry q) hm
def tTest (t:TE):TT:=fun σ H Q => t σ H fun x H' => ∃ k,x = .bl k ∧ Q k H'
theorem pt_cmpR {op:CmpOp} {r:R2} (ho:OpR X (compareOp op) r) (ha:PE X a ta) (hb:PE X b tb) (hm:behindInMarks op b = false):PT X (.Compare a [op] [b] pos) (tTest (tOp r ta tb)):=by
  (try refine ⟨?_⟩); intro pins s σ H Q I h
  refine wpAny_isTrue_Compare1 (thn (ha pins s σ H _ I h) fun v s1 ⟨x,H1,I1,r1,q1⟩ => thn (hb pins s1 σ H1 _ I1 q1) fun u s2 ⟨y,H2,I2,r2,q2⟩ =>
    thn (ho pins s2 σ H2 x y v u _ I2 r1 r2 q2) fun c s3 ⟨z,H3,I3,r3,k,e,q3⟩ => ?_) hm
  subst e
  cases r3
  exact wpAny_truthy_bool ⟨H3,I3,q3⟩
def tChain (r r':R2) (ta tb tc:TE):TE:=fun σ H Q => ta σ H fun x H1 => tb σ H1 fun y H2 => r x y H2 fun z H3 => ∃ k,z = .bl k ∧
  (if k = true then tc σ H3 fun w' H4 => r' y w' H4 Q else Q (.bl false) H3)
theorem pe_chain {op op':CmpOp} {r r':R2} (ho:OpR X (compareOp op) r) (ho':OpR X (compareOp op') r') (ha:PE X a ta) (hb:PE X b tb) (hc:PE X c tc)
    (hm:lastMarks [op,op'] [b,c] = false:=by with_unfolding_all rfl):PE X (.Compare a [op,op'] [b,c] pos) (tChain r r' ta tb tc):=by
  (try refine ⟨?_⟩); intro pins s σ H Q I h
  refine Compare_chain (thn (ha pins s σ H _ I h) fun v s1 ⟨x,H1,I1,r1,q1⟩ => chain_link (thn (hb pins s1 σ H1 _ I1 q1) fun u s2 ⟨y,H2,I2,r2,q2⟩ =>
    thn (ho pins s2 σ H2 x y v u _ I2 r1 r2 q2) fun d s3 ⟨z,H3,I3,r3,k,e,q3⟩ => ?_)) hm
  subst e
  cases r3
  refine wpAny_truthy_bool ?_
  cases k with
  | false => exact ite_ff ⟨.bl false,H3,I3,rfl,q3⟩
  | true => exact ite_tt (chain_last (thn (hc pins s3 σ H3 _ I3 q3) fun w' s4 ⟨z',H4,I4,r4,q4⟩ => ho' pins s4 σ H4 y z' u w' Q I4 r2 r4 q4))
theorem line63:(sizeLine:Nat) < 2 ^ 63:=by rw [sizeLine_eq]; decide
theorem vals1 {x:V} {us:List Value} (r:Vals [x] us):∃ u,us = [u] ∧ RelV x u:=by
  cases r with
  | cons r1 r2 => cases r2; exact ⟨_,rfl,r1⟩
theorem vals2 {x y:V} {us:List Value} (r:Vals [x,y] us):∃ u w',us = [u,w'] ∧ RelV x u ∧ RelV y w':=by
  cases r with
  | cons r1 r2 =>
    cases r2 with
    | cons r3 r4 => cases r4; exact ⟨_,_,rfl,r1,r3⟩
theorem call_abs:CallR X (.builtin "abs") (fun xs H Q => ∃ i,xs = [.int i] ∧ Q (.int (if i < 0 then -i else i)) H):=by
  (try refine ⟨?_⟩); intro pins s σ H xs us Q I r h
  obtain ⟨i,rfl,q⟩:=h
  obtain ⟨u,rfl,t,rfl⟩:=vals1 r
  exact call_abs_int fun u tk => ⟨.int (if i < 0 then -i else i),H,I.tok _,⟨_,rfl⟩,q⟩
theorem call_max2 (hc:X.calm = true):CallR X (.builtin "max") (fun xs H Q => ∃ i j,xs = [.int i,.int j] ∧ Q (.int (if j > i then j else i)) H):=by
  (try refine ⟨?_⟩); intro pins s σ H xs us Q I r h
  obtain ⟨i,j,rfl,q⟩:=h
  obtain ⟨u,w',rfl,⟨t,rfl⟩,⟨t',rfl⟩⟩:=vals2 r
  refine max_two_ints (I.ok.hd hc) fun h' tk k => ⟨_,H,I.kept k,?_,q⟩
  by_cases hj:j > i
  · rw [if_pos hj,if_pos hj]; exact ⟨_,rfl⟩
  · rw [if_neg hj,if_neg hj]; exact ⟨_,rfl⟩
theorem call_min2 (hc:X.calm = true):CallR X (.builtin "min") (fun xs H Q => ∃ i j,xs = [.int i,.int j] ∧ Q (.int (if j < i then j else i)) H):=by
  (try refine ⟨?_⟩); intro pins s σ H xs us Q I r h
  obtain ⟨i,j,rfl,q⟩:=h
  obtain ⟨u,w',rfl,⟨t,rfl⟩,⟨t',rfl⟩⟩:=vals2 r
  refine min_two_ints (I.ok.hd hc) fun h' tk k => ⟨_,H,I.kept k,?_,q⟩
  by_cases hj:j < i
  · rw [if_pos hj,if_pos hj]; exact ⟨_,rfl⟩
  · rw [if_neg hj,if_neg hj]; exact ⟨_,rfl⟩
end
structure ObjM (h:Heap) (x dx C:Addr) (mA:Str → Option Value):Prop where
  obj:h.get? x = some (PySem.W.instObj C dx)
  ns:h.Ns1 dx mA
  ne:dx ≠ x
theorem lookIn_ns {h:Heap} {dx:Addr} {mA:Str → Option Value} (n:h.Ns1 dx mA):∃ od,h.get? dx = some od ∧ ∀ name,PySem.W.lookIn name od = some (mA name):=by
  obtain ⟨o,es,ep,ho,hd,hk,_,hm⟩:=n
  refine ⟨o,ho,fun name => ?_⟩
  have e:=hm name
  unfold nsFind findBy at e
  rw [← Array.find?_toList] at e
  unfold PySem.W.lookIn
  rw [hd]
  dsimp only
  split
  · rename_i y q
    rw [q] at e
    exact congrArg some e
  · rename_i q
    rw [q] at e
    have a:es.toList.any (·.refKey) = false:=by
      rw [List.any_eq_false]
      intro y hy
      obtain ⟨z,t,hkey⟩:=hk y (Array.mem_toList_iff.mp hy)
      simp [DictEntry.refKey,hkey]
    have a' : ¬ es.toList.any (·.refKey) = true:=by rw [a]; exact Bool.false_ne_true
    rw [if_neg a']
    exact congrArg some e
theorem ObjM.look {h:Heap} {x dx C:Addr} {mA:Str → Option Value} (I:ObjM h x dx C mA):∃ od,PySem.W.InstAt h x (PySem.W.instObj C dx) C (some od) ∧ ∀ name,PySem.W.lookIn name od = some (mA name) :=
  let ⟨od,ho,hl⟩:=lookIn_ns I.ns
  ⟨od,⟨I.obj,rfl,rfl,ho⟩,hl⟩
section
variable {prog:Program} {w:World} {A:Around} {E:Value → Shared → Prop} {s:Shared} {K:PySem.W.Frag} {x dx C f:Addr} {mA:Str → Option Value} {name:Str} {v:Value}
end
section
variable {P:Program} {w:World} {H H':Hp} {h h':Heap} {a C dx:Addr} {fs fs':List (Str × V)}
theorem ins_get (hok:HOk P w H h) (e:H a = some (.ins C dx fs)):∃ mA,ObjM h a dx C mA ∧ (∀ f,RelO (fs.lookup f) (mA f)) ∧ PySem.Within mA (fs.map (·.1)) ∧ fs.length ≤ 1000 ∧ H dx = some (.own a):=by
  obtain ⟨d,z,ne,ob,mA,n,r,q⟩:=(show ObjOk P w H h a (.ins C dx fs) from hok a _ e)
  exact ⟨mA,⟨ob,n,ne⟩,r,q,z,d⟩
end
structure Cls (K:PySem.W.Frag) (C:Addr):Prop where
  pg:PySem.W.plainGet K C Str.empty = true
  hd:PySem.W.hasDictIn K C = true
  po:PySem.W.plainOver K C = true
  sa:PySem.W.findIn K (.ref C) "__setattr__" = some (some (.builtin "object.__setattr__"))
theorem Cls.get {K:PySem.W.Frag} {C:Addr} (c:Cls K C) (f:Str):PySem.W.plainGet K C f = true:=c.pg
section
variable {X:Cx} {pins:List (Addr × Obj)} {σ:St} {H:Hp} {s:Shared} {a C dx:Addr} {fs:List (Str × V)} {f:Str} {v:V} {A:Around} {E:Value → Shared → Prop}
end
section
variable {X:Cx} {o e value:Expr} {f:Str} {pos pos' tpos:Pos} {ta tv:TE}
end
section
variable {X:Cx} {pins:List (Addr × Obj)} {σ:St} {H:Hp} {s:Shared} {A:Around} {E:Value → Shared → Prop} {Q:Value → Shared → Prop} {c:Value} {b:Bool}
inductive TyOf (K:PySem.W.Frag) (H:Hp):V → Value → Prop where
  | non:TyOf K H .non (.type "NoneType")
  | bl (x:Bool):TyOf K H (.bl x) (.type "bool")
  | int (i:Int):TyOf K H (.int i) (.type "int")
  | str (x:Str):TyOf K H (.str x) (.type "str")
  | flt (x:UInt64):TyOf K H (.flt x) (.type "float")
  | lst {a:Addr} {xs:List V} (e:H a = some (.lst xs)):TyOf K H (.ref a) (.type "list")
  | frz {a:Addr} {o:Obj} {xs:List V} (e:H a = some (.frz o (.lst xs))):TyOf K H (.ref a) (.type "list")
  | tup {a:Addr} {xs:List V} (e:H a = some (.tup xs)):TyOf K H (.ref a) (.type "tuple")
  | dK {a:Addr} {kvs:List (Key × V)} (e:H a = some (.dK kvs)):TyOf K H (.ref a) (.type "dict")
  | dT {a:Addr} {kvs:List (List Key × V)} (e:H a = some (.dT kvs)):TyOf K H (.ref a) (.type "dict")
  | ins {a C dx:Addr} {fs:List (Str × V)} (e:H a = some (.ins C dx fs)) (cl:Cls K C) (ha:PySem.W.findIn K (.ref C) "__class__" = some (some (.builtin "object.__class__")))
      (hn:PySem.W.specialIn K (.builtin "object.__class__") "__get__" = some (some (.builtin "getset_descriptor.__get__"))) (htk:PySem.W.takesIn K (.builtin "object.__class__") = some true)
      (hm:PySem.W.mroIn K C (.type "object") = some true):TyOf K H (.ref a) (.ref C)
theorem isinst_ok {x:V} {u t:Value} (I:Inv X pins σ H s) (rx:RelV x u) (ty:TyOf X.K H x t) (e:PySem.W.kitOne X.K t c = some b) (h:∀ tk,Q (.bool b) { s with toks:=tk }) :
    wpAny (model X.prog X.w) A (call (.builtin "isinstance") [u,c]) Q E s:=by
  cases ty with
  | non => cases (show u = Value.none from rx); exact PySem.W.kia_one PySem.W.kitx_none I.kIn True.intro e (fun z => nomatch z) h
  | bl y => cases (show u = Value.bool y from rx); exact PySem.W.kia_one PySem.W.kitx_bool I.kIn True.intro e (fun z => nomatch z) h
  | int i => obtain ⟨t,q⟩:=(show ∃ t,u = Value.int i t from rx); cases q; exact PySem.W.kia_one PySem.W.kitx_int I.kIn True.intro e (fun z => nomatch z) h
  | str y => obtain ⟨t,q⟩:=(show ∃ t,u = Value.str y t from rx); cases q; exact PySem.W.kia_one PySem.W.kitx_str I.kIn True.intro e (fun z => nomatch z) h
  | flt y => obtain ⟨t,q⟩:=(show ∃ t,u = Value.float y t from rx); cases q; exact PySem.W.kia_one PySem.W.kitx_float I.kIn True.intro e (fun z => nomatch z) h
  | @lst a xs ea =>
    cases (show u = Value.ref a from rx)
    obtain ⟨_,_,n,_,h1⟩:=(show ObjOk X.prog X.w H s.heap a (.lst xs) from I.hok a _ ea)
    exact PySem.W.kia_one PySem.W.kitx_list I.kIn ⟨_,h1,rfl⟩ e (fun z => nomatch z) h
  | @frz a ob xs ea =>
    cases (show u = Value.ref a from rx)
    obtain ⟨_,_,_,n,_,h1⟩:=(show ObjOk X.prog X.w H s.heap a (.frz ob (.lst xs)) from I.hok a _ ea)
    exact PySem.W.kia_one PySem.W.kitx_list I.kIn ⟨_,h1,rfl⟩ e (fun z => nomatch z) h
  | @tup a xs ea =>
    cases (show u = Value.ref a from rx)
    obtain ⟨_,_,_,p⟩:=(show ObjOk X.prog X.w H s.heap a (.tup xs) from I.hok a _ ea)
    obtain ⟨o,h1,h2,_⟩:=p
    exact PySem.W.kia_one PySem.W.kitx_tuple I.kIn ⟨o,h1,h2⟩ e (fun z => nomatch z) h
  | @dK a kvs ea =>
    cases (show u = Value.ref a from rx)
    obtain ⟨_,_,vs,_,p⟩:=(show ObjOk X.prog X.w H s.heap a (.dK kvs) from I.hok a _ ea)
    obtain ⟨o,es,ep,h1,h2,_⟩:=p
    exact PySem.W.kia_one PySem.W.kitx_dict I.kIn ⟨o,h1,h2.1⟩ e (fun z => nomatch z) h
  | @dT a kvs ea =>
    cases (show u = Value.ref a from rx)
    obtain ⟨_,_,xs,_,o,es,ep,h1,h2,_⟩:=(show ObjOk X.prog X.w H s.heap a (.dT kvs) from I.hok a _ ea)
    exact PySem.W.kia_one PySem.W.kitx_dict I.kIn ⟨o,h1,h2.1⟩ e (fun z => nomatch z) h
  | @ins a C dx fs ea cl ha hn htk hm =>
    cases (show u = Value.ref a from rx)
    obtain ⟨mA,O,_⟩:=ins_get I.hok ea
    obtain ⟨od,J,_⟩:=O.look
    exact PySem.W.kia_one (PySem.W.kitx_own (cl.get _) cl.hd ha hn htk hm) I.kIn J e (fun z => nomatch z) h
end
structure Room (k:Nat) (A:Around):Prop where
  hd:A.handled = none
  dp:A.depth + 3 * k + 5 < recursionLimit
  un:A.units + 16 * k + 200 < cLine
  gd:A.guards = some []
theorem Room.mono {j k:Nat} {A:Around} (r:Room k A) (h:j ≤ k):Room j A:=⟨r.hd,by have:=r.dp; exact zo111 h this,by have:=r.un; exact zo112 h this,r.gd⟩
theorem Room.deeper {k:Nat} {A:Around} (r:Room (k + 1) A) (env:Env):Room k (A.deeper env) :=
  ⟨r.hd,by have:=r.dp; show A.depth + 1 + 3 * k + 5 < _; exact zo33 this,by have:=r.un; show A.units + 3 + 16 * k + 200 < _; exact zo130 this,r.gd⟩
theorem make_depth {A:Around} {C:Addr} {us:List Value} {kw:List (Str × Value)}:(A.under (.builtin "type.__call__" ⟨.ref C :: us,kw⟩)).depth = A.depth + 1:=by
  first | rfl | simp [Around.under,Code.weight,Code.isCreation,Code.isGuard,Code.isCaller,Code.frames,Code.isFrame,guardIds]
theorem make_units {A:Around} {C:Addr} {us:List Value} {kw:List (Str × Value)}:(A.under (.builtin "type.__call__" ⟨.ref C :: us,kw⟩)).units = A.units + 1:=by
  first | rfl | simp [Around.under,Code.cUnits,Code.frames,Code.isFrame]
theorem Room.make {k:Nat} {A:Around} (r:Room (k + 1) A) (C:Addr) (us:List Value) (kw:List (Str × Value)):Room k (A.under (.builtin "type.__call__" ⟨.ref C :: us,kw⟩)) :=
  ⟨r.hd,by have:=r.dp; rw [make_depth]; exact zo33 this,by have:=r.un; rw [make_units]; exact zo133 this,r.gd⟩
theorem Room.depth {k:Nat} {A:Around} (r:Room k A):A.depth < recursionLimit:=by have:=r.dp; exact zo171 this
theorem Room.units {k:Nat} {A:Around} (r:Room k A):A.units + 64 < cLine:=by have:=r.un; exact zo153 this
def tNil:TA:=fun _ H Q => Q [] H
def tCons (ta:TE) (tr:TA):TA:=fun σ H Q => ta σ H fun x H1 => tr σ H1 fun xs H2 => Q (x :: xs) H2
section
variable {X:Cx} {e:Expr} {es:List Expr} {te:TE} {t:TA} {pos:Pos}
theorem pa_nil:PA X [] tNil:=⟨fun _ _ _ _ H Q I h => Calls.spliced_nil ⟨[],H,I,.nil,h⟩⟩
theorem pa_cons (ha:PE X e te) (hr:PA X es t) (hs:starEach (e :: es) X.env = (false,eval e X.env) :: starEach es X.env:=by rfl):PA X (e :: es) (tCons te t):=by
  (try refine ⟨?_⟩); intro pos pins s σ H Q I h
  rw [hs]
  show wpAny _ _ (spliced ((false,eval e X.env) :: backTo pos (starEach es X.env))) _ _ s
  refine Calls.spliced_cons (thn (ha pins s σ H _ I h) fun u s1 ⟨x,H1,I1,r1,q1⟩ => ?_)
  exact thn (hr pos pins s1 σ H1 _ I1 q1) fun us s2 ⟨xs,H2,I2,r2,q2⟩ => ⟨x :: xs,H2,I2,.cons r1 r2,q2⟩
def tTup (t:TA):TE:=fun σ H Q => t σ H fun xs H1 => xs.length ≤ sizeLine ∧ ∀ p,H1 p = none → Q (.ref p) (upd H1 p (.tup xs))
def tLst (t:TA):TE:=fun σ H Q => t σ H fun xs H1 => xs.length ≤ sizeLine ∧ ∀ p,H1 p = none → Q (.ref p) (upd H1 p (.lst xs))
theorem pe_tup {x1} (h:PA X es t):PE X (.Tuple es x1 pos) (tTup t):=by
  (try refine ⟨?_⟩); intro pins s σ H Q I hq
  refine wpAny_Tuple_spliced (thn (h pos pins s σ H _ I hq) fun us s1 ⟨xs,H1,I1,r,z,q⟩ => ⟨by rw [← r.length]; exact z,?_⟩)
  have hf:H1 s1.heap.objs.size = none:=I1.hok.fresh (Nat.le_refl _)
  refine ⟨.ref s1.heap.objs.size,upd H1 s1.heap.objs.size (.tup xs),I1.laid (t':=s1.toks) (fun b u e => Heap.get?_push_of_some _ e) (Nat.le_refl _) ?_,rfl,q _ hf⟩
  exact ⟨z,us,r,⟨_,Heap.get?_push_size _ rfl,rfl,_,rfl⟩⟩
theorem pe_lst (h:PA X es t):PE X (.List es pos) (tLst t):=by
  (try refine ⟨?_⟩); intro pins s σ H Q I hq
  refine wpAny_List_spliced (thn (h pos pins s σ H _ I hq) fun us s1 ⟨xs,H1,I1,r,z,q⟩ => ⟨by rw [← r.length]; exact z,?_⟩)
  have hf:H1 s1.heap.objs.size = none:=I1.hok.fresh (Nat.le_refl _)
  refine ⟨.ref s1.heap.objs.size,upd H1 s1.heap.objs.size (.lst xs),I1.laid (t':=s1.toks) (fun b u e => Heap.get?_push_of_some _ e) (Nat.le_refl _) ?_,rfl,q _ hf⟩
  exact ⟨z,us,0,r,Heap.get?_push_size _ rfl⟩
end
abbrev Sp:=List V → Hp → VK → XK → Prop
abbrev CXT:=List Env → Hp → Shared → XK → Value → Shared → Prop
structure Env0 (P:Program) (w:World) (K:PySem.W.Frag) (mg:Str → Option Value) (base:Heap) (A:Around) (outer:List Env) (s:Shared) (H:Hp):Prop where
  frames:A.frames = some outer
  mod:Mod K mg base
  bs:∀ b o,base.get? b = some o → s.heap.get? b = some o ∧ H b = none
  bsz:base.objs.size ≤ s.heap.objs.size
  funs:s.heap.FunFrames base outer
  frf:∀ b ∈ frs outer,H b = none
  hok:HOk P w H s.heap
  bare:AllBare s.gens
def CE (outer:List Env) (P:Program) (w:World) (H:Hp) (s:Shared) (Q:VK) (u:Value) (s':Shared):Prop :=
  ∃ v H',s'.os = s.os ∧ AllBare s'.gens ∧ Un (frs outer) [] H H' s.heap s'.heap ∧ HOk P w H' s'.heap ∧ RelV v u ∧ Q v H'
def CR (CX:CXT) (outer:List Env) (P:Program) (w:World) (H:Hp) (s:Shared) (Q:VK) (E:XK) (r:Result) (s':Shared):Prop :=
  match r with
  | .ok (.ret u) => CE outer P w H s Q u s'
  | .ok _ => False
  | .error e => CX outer H s E e s'
structure FnOk (P:Program) (w:World) (K:PySem.W.Frag) (mg:Str → Option Value) (base:Heap) (CX:CXT) (k:Nat) (f:Addr) (fd:FuncData) (ps:List Str) (sp:Sp):Prop where
  len:∀ vs H Q E,sp vs H Q E → vs.length = ps.length
  run:∀ (A:Around) (outer:List Env) (s:Shared) (H:Hp) (args:Args) (us:List Value) (vs:List V) (Q:VK) (E:XK),Room k A → Env0 P w K mg base A outer s H → BindsTo s fd args (ps.zip us) → Vals vs us → sp vs H Q E →
    codeAny (model P w) A (.call (.ref f) args) (CR CX outer P w H s Q E) s
theorem FnOk.imp {P:Program} {w:World} {K:PySem.W.Frag} {mg:Str → Option Value} {base:Heap} {CX:CXT} {k:Nat} {f:Addr} {fd:FuncData} {ps:List Str} {sp sp':Sp} (F:FnOk P w K mg base CX k f fd ps sp)
    (h:∀ vs H Q E,sp' vs H Q E → sp vs H Q E):FnOk P w K mg base CX k f fd ps sp' :=
  ⟨fun vs H Q E q => F.len vs H Q E (h _ _ _ _ q),fun A outer s H args us vs Q E hr he hb hv hs => F.run A outer s H args us vs Q E hr he hb hv (h _ _ _ _ hs)⟩
theorem Env0.make {P:Program} {w:World} {K:PySem.W.Frag} {mg:Str → Option Value} {base:Heap} {A:Around} {outer:List Env} {s:Shared} {H:Hp} (e:Env0 P w K mg base A outer s H) (C:Addr) (us:List Value) (kw:List (Str × Value)) :
    Env0 P w K mg base (A.under (.builtin "type.__call__" ⟨.ref C :: us,kw⟩)) outer s H:=⟨by first | exact e.frames | (simpa [Around.under,Code.envs,Code.isFrame,pushEnvs] using e.frames),e.mod,e.bs,e.bsz,e.funs,e.frf,e.hok,e.bare⟩
section
variable {X:Cx} {pins:List (Addr × Obj)} {σ:St} {H:Hp} {s s':Shared}
theorem Inv.env0 (I:Inv X pins σ H s):Env0 X.prog X.w X.K X.mg X.base X.A X.stack s H :=
  ⟨I.ok.frames,I.ok.mod,I.bs,Nat.le_trans I.ok.bsz I.sz,I.stack,I.stkFree,I.hok,I.bare⟩
theorem Inv.after {Q:VK} {u:Value} (I:Inv X pins σ H s) (h:CE X.stack X.prog X.w H s Q u s'):EP X pins σ Q u s':=by
  obtain ⟨v,H',os,bare,un,hok,r,q⟩:=h
  obtain ⟨hh,g,d,t,os'⟩:=s'
  obtain rfl:os' = s.os:=os
  exact ⟨v,H',I.call (h':=hh) (g':=g) (d':=d) (t':=t) (ch:=[]) un hok bare (fun b z => absurd z (by simp)),r,q⟩
end
def tCall (sp:Sp) (dvs:List V) (E:XK) (t:TA):TE:=fun σ H Q => t σ H fun vs H1 => sp (vs ++ dvs) H1 Q E
def Binds (K:PySem.W.Frag) (fd:FuncData) (ps:List Str) (ds:List Value):Prop :=
  ∀ (s:Shared) (us:List Value),K.In s.heap → (us ++ ds).length = ps.length → BindsTo s fd ⟨us,[]⟩ (ps.zip (us ++ ds))
theorem Binds.all {K:PySem.W.Frag} {fd:FuncData} {ps:List Str} (h:∀ us:List Value,us.length = ps.length → bindArgs fd ⟨us,[]⟩ = pure (ps.zip us)):Binds K fd ps []:=fun s us _ hl => by
  rw [List.append_nil] at hl ⊢
  exact .of_eq (h us hl)
def Passes (CX:CXT) (X:Cx) (E:XK):Prop:=∀ (pins:List (Addr × Obj)) (σ:St) (H:Hp) (s:Shared) (e:Value) (s':Shared),Inv X pins σ H s → CX X.stack H s E e s' → X.xe e s'
section
variable {X:Cx} {CX:CXT} {k:Nat} {f C:Addr} {fd:FuncData} {ps:List Str} {sp:Sp} {dvs:List V} {ds:List Value} {E:XK} {x m:Str} {p pos apos:Pos} {e o:Expr} {es:List Expr} {ta:TE} {t:TA}
theorem run_fn {pins:List (Addr × Obj)} {σ:St} {H:Hp} {s:Shared} {Q:VK} {us:List Value} {vs:List V} (F:FnOk X.prog X.w X.K X.mg X.base CX k f fd ps sp) (hr:Room k X.A) (hb:Binds X.K fd ps ds) (hd:Vals dvs ds) (hx:Passes CX X E)
    (I:Inv X pins σ H s) (r:Vals vs us) (h:sp (vs ++ dvs) H Q E):wpAny (model X.prog X.w) X.A (call (.ref f) us) (EP X pins σ Q) X.xe s:=by
  have r2:Vals (vs ++ dvs) (us ++ ds):=r.append hd
  have hl:(us ++ ds).length = ps.length:=by rw [← r2.length]; exact F.len _ _ _ _ h
  refine wpAny_call (codeAny_mono (F.run X.A X.stack s H ⟨us,[]⟩ (us ++ ds) (vs ++ dvs) Q E hr I.env0 (hb s us I.kIn hl) r2 h) fun r s' hq => ?_)
  cases r with
  | error e => exact hx pins σ H s e s' I hq
  | ok fl =>
    cases fl with
    | ret u => exact I.after hq
    | next => exact False.elim hq
    | brk => exact False.elim hq
    | cont => exact False.elim hq
theorem pe_call (F:FnOk X.prog X.w X.K X.mg X.base CX k f fd ps sp) (hr:Room k X.A) (hg:Gl X x) (hm:X.mg x = some (.ref f)) (hk:PySem.W.keepIn X.K (.ref f) = true) (hb:Binds X.K fd ps ds) (hd:Vals dvs ds) (hx:Passes CX X E)
    (ha:PA X (e :: es) t) (hdb:(x == ("__debug__":Str)) = false:=by decide) (he:starEach (e :: es) X.env = (false,eval e X.env) :: starEach es X.env:=by rfl) (hpl:(backTo pos (starEach es X.env)).any (·.1) = false:=by rfl) :
    PE X (.Call (.Name x p) (e :: es) [] pos) (tCall sp dvs E t):=by
  (try refine ⟨?_⟩); intro pins s σ H Q I h
  refine wpAny_Call_Name_kw (ld_glob I hg hm ?_ hdb)
  refine PySem.W.callWith_K (h₀:=X.base) I.ok.mod.kin hk (thn (ha pos pins s σ H _ I h) fun us s1 ⟨vs,H1,I1,r,q⟩ => ⟨I1.kIn,?_⟩) he hpl
  exact run_fn F hr hb hd hx I1 r q
structure Mk (K:PySem.W.Frag) (C f:Addr):Prop where
  makes:PySem.W.makesIn K C = true
  init:PySem.W.findIn K (.ref C) "__init__" = some (some (.ref f))
  fn:PySem.W.isFn K (.ref f) = true
  kp:PySem.W.keepIn K (.ref C) = true
end
section
variable {X:Cx} {CX:CXT} {k:Nat} {f C:Addr} {fd:FuncData} {ps ks:List Str} {sp:Sp} {E:XK} {x m:Str} {p pos apos kpos:Pos} {e o:Expr} {es:List Expr} {kws:List Keyword} {te ta:TE} {t tk:TA} {nm:Option Str}
variable {g:List Value → List Value → List Value} {gV:List V → List V → List V}
end
structure FnScope (N P:List Str) (sc:Scope):Prop where
  kind:sc.kind = .function
  co:sc.isCoroutine = false
  gen:sc.isGenerator = false
  nd:N.Nodup
  pre:N.take P.length = P
  par:∀ x ∈ P,sc.names.lookup x = some .local ∨ sc.names.lookup x = some .cell
  nofree:∀ y ∈ sc.names,y.2 ≠ .free
theorem bindL_out {kindOf:Str → Option NameKind} {x:Str}:∀ {binds:List (Str × Value)} {m:Str → Option Value},(∀ v,(x,v) ∉ binds) → bindL kindOf binds m x = m x
  | [],_,_ => rfl
  | (n,v) :: r,m,h => by
    unfold bindL
    rw [bindL_out fun w hw => h w (List.mem_cons_of_mem _ hw)]
    split
    · have:x ≠ n:=by rintro rfl; exact h v List.mem_cons_self
      simp [this]
    · rfl
theorem bindC_out {kindOf:Str → Option NameKind} {x:Str}:∀ {binds:List (Str × Value)} {m:Str → Option Value},(∀ v,(x,v) ∉ binds) → bindC kindOf binds m x = m x
  | [],_,_ => rfl
  | (n,v) :: r,m,h => by
    unfold bindC
    rw [bindC_out fun w hw => h w (List.mem_cons_of_mem _ hw)]
    split
    · rfl
    · have:x ≠ n:=by rintro rfl; exact h v List.mem_cons_self
      simp [this]
theorem bindL_get {kindOf:Str → Option NameKind} {x:Str} {v:Value}:∀ {P:List Str} {vs:List Value} {i:Nat} {m:Str → Option Value},P.Nodup → P[i]? = some x → vs[i]? = some v → kindOf x = some .local →
    bindL kindOf (P.zip vs) m x = some v
  | [],_,_,_,_,h,_,_ => by simp at h
  | _ :: _,[],_,_,_,_,h,_ => by simp at h
  | p :: P,w :: vs,0,m,nd,h1,h2,hk => by
    simp at h1 h2; subst h1; subst h2
    show bindL kindOf ((p,w) :: P.zip vs) m p = _
    unfold bindL
    rw [bindL_out fun v hv => (List.nodup_cons.mp nd).1 (List.of_mem_zip hv).1,if_pos hk]
    simp
  | p :: P,w :: vs,i + 1,m,nd,h1,h2,hk => by
    show bindL kindOf ((p,w) :: P.zip vs) m x = _
    unfold bindL
    exact bindL_get (i:=i) (List.nodup_cons.mp nd).2 (by simpa using h1) (by simpa using h2) hk
theorem bindC_get {kindOf:Str → Option NameKind} {x:Str} {v:Value}:∀ {P:List Str} {vs:List Value} {i:Nat} {m:Str → Option Value},P.Nodup → P[i]? = some x → vs[i]? = some v → kindOf x ≠ some .local →
    bindC kindOf (P.zip vs) m x = some v
  | [],_,_,_,_,h,_,_ => by simp at h
  | _ :: _,[],_,_,_,_,h,_ => by simp at h
  | p :: P,w :: vs,0,m,nd,h1,h2,hk => by
    simp at h1 h2; subst h1; subst h2
    show bindC kindOf ((p,w) :: P.zip vs) m p = _
    unfold bindC
    rw [bindC_out fun v hv => (List.nodup_cons.mp nd).1 (List.of_mem_zip hv).1,if_neg hk]
    simp
  | p :: P,w :: vs,i + 1,m,nd,h1,h2,hk => by
    show bindC kindOf ((p,w) :: P.zip vs) m x = _
    unfold bindC
    exact bindC_get (i:=i) (List.nodup_cons.mp nd).2 (by simpa using h1) (by simpa using h2) hk
def start (N:List Str) (vs:List V):St:=vs.map some ++ List.replicate (N.length - vs.length) none
def cxOf (CX:CXT) (P:Program) (w:World) (K:PySem.W.Frag) (mg:Str → Option Value) (base:Heap) (N:List Str) (qual:Str) (scope:Scope) (f:Addr) (cd:Value) (A:Around) (outer:List Env) (s:Shared) (H:Hp) (E:XK):Cx where
  prog:=P
  w:=w
  K:=K
  mg:=mg
  base:=base
  A:=A.deeper (envOfC qual scope s.heap.objs.size f cd)
  N:=N
  s₀:=s
  H₀:=H
  env:=envOfC qual scope s.heap.objs.size f cd
  outer:=outer
  stack:=envOfC qual scope s.heap.objs.size f cd :: outer
  ex:=[]
  calm:=true
  fn:=fun _ => true
  pn:=[]
  xe:=fun e s' => wpAny (model P w) (A.deeper (envOfC qual scope s.heap.objs.size f cd)) (leaving (envOfC qual scope s.heap.objs.size f cd) e) (fun _ s'' => CX outer H s E e s'') (fun e' s'' => CX outer H s E e' s'') s'
theorem cell_has {sc:Scope} {n:Nat} {x:Str} (h:sc.names.lookup x = some .cell):∃ c,(cellsFrom n sc.names []).lookup x = some c:=by
  have q:=PySem.W.cellsFrom_some sc.names n [] (.inl h)
  exact Option.isSome_iff_exists.mp q
theorem inv_start {CX:CXT} {P:Program} {w:World} {K:PySem.W.Frag} {mg:Str → Option Value} {base:Heap} {N ps:List Str} {qual:Str} {scope:Scope} {f:Addr} {cd:Value} {A:Around} {outer:List Env} {s s1:Shared} {H:Hp} {E:XK} {us:List Value} {vs:List V}
    (S:FnScope N ps scope) (hd:A.handled = none) (e0:Env0 P w K mg base A outer s H) (hl:vs.length = ps.length) (r:Vals vs us)
    (x:InCallC s s.heap.objs.size (bindL (envOfC qual scope s.heap.objs.size f cd).kindOf (ps.zip us) fun _ => none) (cellsFrom (s.heap.objs.size + 1) scope.names []) (bindC (envOfC qual scope s.heap.objs.size f cd).kindOf (ps.zip us) fun _ => none) s1) :
    Inv (cxOf CX P w K mg base N qual scope f cd A outer s H E) [] (start N vs) H s1:=by
  have hpl:ps.length ≤ N.length:=by have:=congrArg List.length S.pre; rw [List.length_take] at this; (first|lia|omega)
  obtain ⟨h1,tk,rfl,hk⟩:=x.done
  have noA:∀ b:Addr,b ∉ (cxOf CX P w K mg base N qual scope f cd A outer s H E).ex:=fun b z => absurd (show b ∈ ([]:List Addr) from z) (by simp)
  refine ⟨⟨e0.mod,S.kind,rfl,rfl,Nat.le_refl _,fun y z c h1 h2 => ?_,fun y hy => ?_,fun y c _ h => ?_,fun _ => hd,Around.frames_deeper e0.frames,.inr ⟨rfl,rfl⟩,fun b z => absurd z (noA b),e0.bs,e0.bsz,fun b _ _ => noA b,fun b z => absurd z (noA b),e0.funs,e0.frf⟩,
    rfl,e0.bare,Un.kept hk,⟨_,x.toInCall.ns,fun i y v h1 h2 h3 => ?_⟩,fun y c h => ⟨_,x.cell y c h⟩,e0.hok.fresh (Nat.le_refl _),fun y c h => ?_,fun p hp => absurd (show p ∈ ([]:List (Addr × Obj)) from hp) (by simp),e0.hok.kept hk,?_⟩
  · exact name_of_addr x.apart (PySem.mem_of_lookup h1) (PySem.mem_of_lookup h2)
  · have hy:scope.names.lookup y = some .cell ∨ scope.names.lookup y = some .free:=hy
    rcases hy with hy | hy
    · exact cell_has hy
    · exact absurd rfl (S.nofree _ (PySem.mem_of_lookup hy))
  · exact Nat.le_of_lt (x.above y c (PySem.mem_of_lookup h))
  · have hi:i < vs.length:=by
      unfold start at h2
      by_cases hi:i < vs.length
      · exact hi
      · rw [List.getElem?_append_right (by simpa using hi)] at h2
        rw [List.getElem?_replicate] at h2
        split at h2 <;> cases h2
    have ha:vs[i]? = some v:=by
      unfold start at h2
      rw [List.getElem?_append_left (by simpa using hi),List.getElem?_map] at h2
      cases e:vs[i]? with
      | none => rw [e] at h2; cases h2
      | some a => rw [e] at h2; cases h2; rfl
    obtain ⟨u,hu,rv⟩:=r.get ha
    have hp:ps[i]? = some y:=by
      rw [← S.pre,List.getElem?_take_of_lt (by exact zo51 hl hi)]; exact h1
    have ndP:ps.Nodup:=by rw [← S.pre]; exact S.nd.sublist (List.take_sublist _ _)
    refine ⟨u,rv,?_⟩
    rcases S.par y (List.mem_of_getElem? hp) with k | k
    · exact .inl ⟨k,bindL_get ndP hp hu k⟩
    · obtain ⟨c,e⟩:=cell_has (n:=s.heap.objs.size + 1) k
      refine .inr ⟨.inl k,c,e,?_⟩
      have q:=x.cell y c e
      rw [bindC_get ndP hp hu (by show scope.names.lookup y ≠ _; rw [k]; decide)] at q
      exact q
  · exact e0.hok.fresh (Nat.le_of_lt (x.above y c (PySem.mem_of_lookup h)))
  · unfold start
    show _ = N.length
    rw [List.length_append,List.length_map,List.length_replicate]
    exact zo75 hl hpl
theorem fn_of {CX:CXT} {P:Program} {w:World} {K:PySem.W.Frag} {mg:Str → Option Value} {base:Heap} {k:Nat} {f:Addr} {name qual:Str} {params:Arguments} {body:List Stmt} {scope:Scope} {dV kV doc pm cdv ct oc:Value} {an od:Option Addr}
    {osl:Array (Option Value)} {N ps:List Str} {sp:Sp} (lk:K.lookup f = some ⟨oc,od,.func (PySem.W.fnOf name qual params body scope dV kV doc pm an cdv ct),osl⟩) (hcd:PySem.W.codeIn K cdv qual = true) (S:FnScope N ps scope)
    (len:∀ vs H Q E,sp vs H Q E → vs.length = ps.length)
    (hbody:∀ (A:Around) (outer:List Env) (s:Shared) (H:Hp) (vs:List V) (Q:VK) (E:XK),Room k (A.deeper (envOfC qual scope s.heap.objs.size f cdv)) → sp vs H Q E →
      ∃ t,PSs (cxOf CX P w K mg base N qual scope f cdv A outer s H E) body t ∧ t { nx:=fun _ H' => Q .non H',rt:=Q } (start N vs) H) :
    FnOk P w K mg base CX (k + 1) f (PySem.W.fnOf name qual params body scope dV kV doc pm an cdv ct) ps sp:=by
  refine ⟨len,fun A outer s H args us vs Q E hr e0 hb r hsp => ?_⟩
  have hl:=len _ _ _ _ hsp
  have KX:K.In s.heap:=e0.mod.kin.keeps fun b o e => (e0.bs b o e).1
  have lim:s.heap.NoLimit:=e0.mod.nolimit.keeps fun b o e => (e0.bs b o e).1
  have hkind:∀ y ∈ ps.zip us,scope.names.lookup y.1 = some .local ∨ (scope.names.lookup y.1 = some .cell ∧ ((cellsFrom (s.heap.objs.size + 1) scope.names []).lookup y.1).isSome = true):=fun ⟨n,v⟩ hy => by
    rcases S.par n (List.of_mem_zip hy).1 with q | q
    · exact .inl q
    · exact .inr ⟨q,PySem.W.cellsFrom_some _ _ _ (.inl q)⟩
  refine codeAny_call_function hr.depth (KX _ _ lk) rfl S.co S.gen rfl (PySem.W.codeRec_of KX hcd) (hb _ _ _ _ ?_)
  refine wpAny_newFunctionEnv_cells S.kind hkind fun env he s1 x => ?_
  subst he
  refine ⟨lim.keeps x.toInCall.keep,codeAny_func ?_⟩
  obtain ⟨t,ht,hq⟩:=hbody A outer s H vs Q E (hr.deeper _) hsp
  have I:Inv (cxOf CX P w K mg base N qual scope f cdv A outer s H E) [] (start N vs) H s1:=inv_start S hr.hd e0 hl r x
  refine wpAny_mono (ht [] s1 (start N vs) H _ I hq) (fun fl s' hs => ?_) fun e s' hs => hs
  have fin:∀ {σ':St} {H':Hp} {v:V} {u:Value},Inv (cxOf CX P w K mg base N qual scope f cdv A outer s H E) [] σ' H' s' → RelV v u → Q v H' → CE outer P w H s Q u s' :=
    fun {σ' H' v u} J rv q => ⟨v,H',J.os,J.bare,J.base,J.hok,rv,q⟩
  cases fl with
  | ret u =>
    obtain ⟨v,σ',H',J,rv,q⟩:=hs
    exact fin J rv q
  | next =>
    obtain ⟨σ',H',J,q⟩:=hs
    exact fin (v:=V.non) (u:=Value.none) J rfl q
  | brk =>
    obtain ⟨_,_,_,q⟩:=hs
    exact False.elim q
  | cont =>
    obtain ⟨_,_,_,q⟩:=hs
    exact False.elim q
section
variable {X:Cx} {x:Str} {p pos:Pos} {e:Expr} {es:List Expr} {t:TA} {id T:String} {r:List V → Hp → VK → Prop}
def tCB (r:List V → Hp → VK → Prop) (t:TA):TE:=fun σ H Q => t σ H fun vs H1 => r vs H1 Q
theorem pe_callB (hc:CallR X (.builtin id) r) (hg:Gl X x) (hm:X.mg x = none) (hv:bootBuiltins x = some (.builtin id)) (ha:PA X (e :: es) t) (hn:x ≠ "__name__":=by decide) (hdb:(x == ("__debug__":Str)) = false:=by decide)
    (he:starEach (e :: es) X.env = (false,eval e X.env) :: starEach es X.env:=by rfl) (hpl:(backTo pos (starEach es X.env)).any (·.1) = false:=by rfl):PE X (.Call (.Name x p) (e :: es) [] pos) (tCB r t):=by
  (try refine ⟨?_⟩); intro pins s σ H Q I h
  refine wpAny_Call_Name_kw (ld_blt I hg hm hv ?_ hn hdb)
  exact PyProof.Rows.callWith_builtin1 (thn (ha pos pins s σ H _ I h) fun us s1 ⟨vs,H1,I1,r1,q1⟩ => hc pins s1 σ H1 vs us Q I1 r1 q1) he hpl
theorem pe_callTy (hc:CallR X (.type T) r) (hg:Gl X x) (hm:X.mg x = none) (hv:bootBuiltins x = some (.type T)) (ha:PA X (e :: es) t) (hn:x ≠ "__name__":=by decide) (hdb:(x == ("__debug__":Str)) = false:=by decide)
    (he:starEach (e :: es) X.env = (false,eval e X.env) :: starEach es X.env:=by rfl) (hpl:(backTo pos (starEach es X.env)).any (·.1) = false:=by rfl):PE X (.Call (.Name x p) (e :: es) [] pos) (tCB r t):=by
  (try refine ⟨?_⟩); intro pins s σ H Q I h
  refine wpAny_Call_Name_kw (ld_blt I hg hm hv ?_ hn hdb)
  exact PyProof.Rows.callWith_type1 (thn (ha pos pins s σ H _ I h) fun us s1 ⟨vs,H1,I1,r1,q1⟩ => hc pins s1 σ H1 vs us Q I1 r1 q1) he hpl
end
end L2
namespace HT
open PySem PyProof.Rows
section
open PySem.SeqAt
open PySem.AutoSeq1 (wpAny_loadPart')
open PySem.MeetsSeq PySem.MeetsSeq2 PySem.MeetsSeq3
end
section
variable {prog:Program} {w:World} {A:Around} {E:Value → Shared → Prop} {s:Shared}
def sIx (n d:Nat):Option Int → Nat
  | none => d
  | some v => if v < 0 then (v + (n:Int)).toNat else min v.toNat n
theorem sIx_none (n d:Nat):sIx n d none = d:=rfl
theorem sIx_nat (n d k:Nat):sIx n d (some (k:Int)) = min k n:=by
  show (if (k:Int) < 0 then ((k:Int) + (n:Int)).toNat else min (k:Int).toNat n) = min k n
  rw [if_neg (by exact zo292),Int.toNat_natCast]
end
end HT
namespace L2
open PySem PySem.Spec PyProof.Rows
abbrev TO:=St → Hp → (Option Int → Hp → Prop) → Prop
structure PO (X:Cx) (e:Option Expr) (t:TO):Prop where
  go:∀ (pins:List (Addr × Obj)) (s:Shared) (σ:St) (H:Hp) (Q:Option Int → Hp → Prop),Inv X pins σ H s → t σ H Q →
    wpAny (model X.prog X.w) X.A (evalPart e X.env) (fun u s' => ∃ o H',Inv X pins σ H' s' ∧ IsPart u o ∧ Q o H') X.xe s
instance {X:Cx} {e:Option Expr} {t:TO}:CoeFun (PO X e t) fun _ => ∀ (pins:List (Addr × Obj)) (s:Shared) (σ:St) (H:Hp) (Q:Option Int → Hp → Prop),Inv X pins σ H s → t σ H Q →
    wpAny (model X.prog X.w) X.A (evalPart e X.env) (fun u s' => ∃ o H',Inv X pins σ H' s' ∧ IsPart u o ∧ Q o H') X.xe s:=⟨fun h => h.go⟩
def tNoPart:TO:=fun _ H Q => Q none H
def tPart (t:TE):TO:=fun σ H Q => t σ H fun x H1 => ∃ i,x = .int i ∧ Q (some i) H1
theorem intsAre_of {ns:List Int}:∀ {us:List Value},Vals (ns.map V.int) us → IntsAre us ns:=by
  induction ns with
  | nil => intro us r; rw [List.map_nil] at r; cases r; exact .nil
  | cons n ns ih =>
    intro us r
    rw [List.map_cons] at r
    cases r with
    | cons r1 r2 =>
      obtain ⟨t,e⟩:=r1
      subst e
      exact .cons n t (ih r2)
section
variable {X:Cx} {e:Expr} {te:TE} {lo hi:Option Expr} {tl th:TO} {pos p2:Pos}
theorem po_none:PO X none tNoPart:=by
  (try refine ⟨?_⟩); intro pins s σ H Q I h
  rw [evalPart_none]
  exact wpAny_pure ⟨none,H,I,.none,h⟩
theorem po_some (h:PE X e te):PO X (some e) (tPart te):=by
  (try refine ⟨?_⟩); intro pins s σ H Q I hw
  rw [evalPart_some]
  refine thn (h pins s σ H _ I hw) fun u s1 ⟨x,H1,I1,r1,q1⟩ => ?_
  obtain ⟨i,rfl,q⟩:=q1
  obtain ⟨t,rfl⟩:=r1
  exact ⟨some i,H1,I1,.int i t,q⟩
def SlR (X:Cx) (r:V → Option Int → Option Int → Hp → VK → Prop):Prop :=
  ∀ (pins:List (Addr × Obj)) (s:Shared) (σ:St) (H:Hp) (x:V) (v vl vu:Value) (lo hi:Option Int) (sl:Addr) (Q:VK),Inv X pins σ H s → RelV x v → s.heap.IsSliceOf sl vl vu .none → IsPart vl lo → IsPart vu hi → r x lo hi H Q →
    ∃ T id,typeLookup (.type T) "__getitem__" = pure (some (.builtin id)) ∧ s.TypeIs v T ∧ wpAny (model X.prog X.w) X.A (getItem v (.ref sl)) (EP X pins σ Q) X.xe s
def tSl (r:V → Option Int → Option Int → Hp → VK → Prop) (te:TE) (tl th:TO):TE:=fun σ H Q => te σ H fun x H1 => tl σ H1 fun l H2 => th σ H2 fun u H3 => r x l u H3 Q
theorem pe_slice {r:V → Option Int → Option Int → Hp → VK → Prop} (hr:SlR X r) (he:PE X e te) (hl:PO X lo tl) (hu:PO X hi th):PE X (.Subscript e (.Slice lo hi none p2) pos) (tSl r te tl th):=by
  (try refine ⟨?_⟩); intro pins s σ H Q I h
  refine Subscript_ (thn (he pins s σ H _ I h) fun v s1 ⟨x,H1,I1,r1,q1⟩ => ?_)
  refine wpAny_Slice (thn (hl pins s1 σ H1 _ I1 q1) fun vl s2 ⟨l,H2,I2,pl,q2⟩ => thn (hu pins s2 σ H2 _ I2 q2) fun vu s3 ⟨u,H3,I3,pu,q3⟩ => ?_)
  rw [evalPart_none]
  refine wpAny_pure ?_
  have I4:Inv X pins σ H3 { s3 with heap:=s3.heap.push { cls:=.type "slice",data:=.fields #[vl,vu,.none] } }:=I3.kept (t':=s3.toks) fun b ob q => Heap.get?_push_of_some _ q
  obtain ⟨T,id,hT,ht,hg⟩:=hr pins { s3 with heap:=s3.heap.push { cls:=.type "slice",data:=.fields #[vl,vu,.none] } } σ H3 x v vl vu l u s3.heap.objs.size Q I4 r1 (Heap.IsSliceOf.new ..) pl pu q3
  show wpAny (model X.prog X.w) X.A (subscriptTail e (.Slice lo hi none p2) v (.ref s3.heap.objs.size)) (EP X pins σ Q) X.xe { s3 with heap:=s3.heap.push { cls:=.type "slice",data:=.fields #[vl,vu,.none] } }
  exact tail_any (ops:=[.ref s3.heap.objs.size,v]) ht hT hg (by with_unfolding_all rfl)
def cutV (xs:List V) (lo hi:Option Int):List V:=(xs.drop (HT.sIx xs.length 0 lo)).take (HT.sIx xs.length xs.length hi - HT.sIx xs.length 0 lo)
theorem cutV_length (xs:List V) (lo hi:Option Int):(cutV xs lo hi).length ≤ xs.length:=by
  unfold cutV
  rw [List.length_take,List.length_drop]
  (first|lia|omega)
end
def ixN (n:Nat) (i:Int):Option Nat:=if 0 ≤ i then (if i < n then some i.toNat else none) else if -(n:Int) ≤ i then some (i + n).toNat else none
def atI {α:Type} (xs:List α) (i:Int):Option α:=(ixN xs.length i).bind fun j => xs[j]?
theorem ixN_seq {n:Nat} {i:Int} {j:Nat} (h:ixN n i = some j):seqIndex? i n = some j ∧ j < n ∧ -(n:Int) ≤ i ∧ i < n:=by
  unfold ixN at h
  by_cases h0 : 0 ≤ i
  · rw [if_pos h0] at h
    by_cases h1:i < n
    · rw [if_pos h1] at h
      have e:i.toNat = j:=Option.some.inj h
      exact ⟨by rw [seqIndex_of h0 h1,e],by exact zo90 h0 h1 e,by exact zo265 h0,h1⟩
    · rw [if_neg h1] at h; cases h
  · rw [if_neg h0] at h
    by_cases h1 : -(n:Int) ≤ i
    · rw [if_pos h1] at h
      have e:(i + n).toNat = j:=Option.some.inj h
      exact ⟨by rw [seqIndex_neg (by exact zo39 h0) h1,e],by exact zo76 h0 h1 e,h1,by exact zo228 h0 h1⟩
    · rw [if_neg h1] at h; cases h
theorem atI_get {α:Type} {xs:List α} {i:Int} {v : α} (h:atI xs i = some v):∃ j,seqIndex? i xs.length = some j ∧ xs[j]? = some v ∧ j < xs.length ∧ -(xs.length:Int) ≤ i ∧ i < xs.length:=by
  unfold atI at h
  cases e:ixN xs.length i with
  | none => rw [e] at h; cases h
  | some j =>
    rw [e] at h
    obtain ⟨h1,h2,h3,h4⟩:=ixN_seq e
    exact ⟨j,h1,h,h2,h3,h4⟩
theorem atI_nat {α:Type} {xs:List α} {j:Nat} {v : α} (h:xs[j]? = some v):atI xs (j:Int) = some v:=by
  have hj:j < xs.length:=(List.getElem?_eq_some_iff.mp h).1
  have e:ixN xs.length (j:Int) = some j:=by
    unfold ixN
    rw [if_pos (by exact zo54),if_pos (by exact zo179 hj)]; simp
  unfold atI; rw [e]; exact h
def PlainIx (b:Expr):Prop:=∀ o i,subscripted b false o i = operate [o,i] (getItem o i)
def IxR (X:Cx) (r:R2):Prop :=
  ∀ (value slice:Expr) (pins:List (Addr × Obj)) (s:Shared) (σ:St) (H:Hp) (x y:V) (v u:Value) (Q:VK),Inv X pins σ H s → RelV x v → RelV y u → r x y H Q →
    subscripted slice false v u = operate [v,u] (getItem v u) → wpAny (model X.prog X.w) X.A (subscriptTail value slice v u) (EP X pins σ Q) X.xe s
def MtR (X:Cx) (id:String) (r:V → List V → Hp → VK → Prop):Prop :=
  ∀ (pins:List (Addr × Obj)) (s:Shared) (σ:St) (H:Hp) (x:V) (xs:List V) (v:Value) (us:List Value) (Q:VK),Inv X pins σ H s → RelV x v → Vals xs us → r x xs H Q →
    wpAny (model X.prog X.w) X.A (call (.builtin id) (v :: us)) (EP X pins σ Q) X.xe s
section
variable {X:Cx} {a b:Expr} {ta tb:TE} {pos:Pos}
theorem IxR.or {r r':R2} (h:IxR X r) (h':IxR X r'):IxR X (fun x y H Q => r x y H Q ∨ r' x y H Q):=by
  intro value slice pins s σ H x y v u Q I rx ry q hs
  rcases q with q | q
  · exact h value slice pins s σ H x y v u Q I rx ry q hs
  · exact h' value slice pins s σ H x y v u Q I rx ry q hs
theorem pe_ix {r:R2} (hr:IxR X r) (ha:PE X a ta) (hb:PE X b tb) (hs:PlainIx b):PE X (.Subscript a b pos) (tOp r ta tb):=by
  (try refine ⟨?_⟩); intro pins s σ H Q I h
  exact Subscript_ (binT ha hb I h fun v u s2 x y H2 I2 rx ry q => hr a b pins s2 σ H2 x y v u Q I2 rx ry q (hs _ _))
def rIxL (K:PySem.W.Frag):R2:=fun x y H Q => ∃ p xs i v,x = .ref p ∧ y = .int i ∧ SqL K H p xs ∧ atI xs i = some v ∧ Q v H
def rIxT (K:PySem.W.Frag):R2:=fun x y H Q => ∃ p xs i v,x = .ref p ∧ y = .int i ∧ SqT K H p xs ∧ atI xs i = some v ∧ Q v H
def rIxS:R2:=fun x y H Q => ∃ z i c,x = .str z ∧ y = .int i ∧ z.length ≤ sizeLine ∧ atI z.cps.toList i = some c ∧ Q (.str ⟨#[c]⟩) H
theorem ix_list:IxR X (rIxL X.K):=by
  intro value slice pins s σ H x y v u Q I rx ry h hs
  obtain ⟨p,xs,i,z,rfl,rfl,hq,he,q⟩:=h
  cases rx
  obtain ⟨t,rfl⟩:=ry
  obtain ⟨its,r,pl,hz⟩:=I.list hq
  obtain ⟨j,h1,h2,h3,h4,h5⟩:=atI_get he
  obtain ⟨w,ew,rw'⟩:=r.get h2
  have hl:=r.length
  have hn:=line63
  have fin:EP X pins σ Q w s:=⟨z,H,I,rw',q⟩
  by_cases h0 : 0 ≤ i
  · have hj:i.toNat = j:=by
      rw [seqIndex_of h0 h5] at h1
      exact Option.some.inj h1
    exact item_listR pl.isList h0 (by exact zo24 hz h5 hl hn) (by rw [hj]; simpa using ew) fin hs
  · have hj:(i + (its.toArray.size:Int)).toNat = j:=by
      rw [seqIndex_neg (by exact zo39 h0) h4] at h1
      rw [List.size_toArray,← hl]
      exact Option.some.inj h1
    exact subscriptTail_builtinR (x:=w) pl.isList.typeIs slot_list_getitem.lookup
      (wpAny_getItem_list_neg (Q:=fun r s' => r = w ∧ EP X pins σ Q r s') pl.isList (by exact zo39 h0) (by rw [List.size_toArray] <;> exact zo174 h4 hl) (by exact zo17 hz h4 hl hn) (by rw [hj]; simpa using ew) ⟨rfl,fin⟩) hs
theorem ix_tup:IxR X (rIxT X.K):=by
  intro value slice pins s σ H x y v u Q I rx ry h hs
  obtain ⟨p,xs,i,z,rfl,rfl,hq,he,q⟩:=h
  cases rx
  obtain ⟨t,rfl⟩:=ry
  obtain ⟨its,r,pl,hz⟩:=I.tuple hq
  obtain ⟨j,h1,h2,h3,h4,h5⟩:=atI_get he
  obtain ⟨w,ew,rw'⟩:=r.get h2
  have hl:=r.length
  have hn:=line63
  have fin:EP X pins σ Q w s:=⟨z,H,I,rw',q⟩
  exact subscriptTail_builtinR (x:=w) pl.typeIs slot_tuple_getitem.lookup
    (getItem_tuple (j:=j) (Q:=fun r s' => r = w ∧ EP X pins σ Q r s') pl (by exact zo63 hz h3 h4 hl hn) (by exact zo72 hz h3 h5 hl hn) (by rw [List.size_toArray,← hl]; exact h1) (by simpa using ew) ⟨rfl,fin⟩) hs
theorem ix_str:IxR X rIxS:=by
  intro value slice pins s σ H x y v u Q I rx ry h hs
  obtain ⟨z,i,c,rfl,rfl,hz,he,q⟩:=h
  obtain ⟨t,rfl⟩:=rx
  obtain ⟨t',rfl⟩:=ry
  obtain ⟨j,h1,h2,h3,h4,h5⟩:=atI_get he
  have hl:z.cps.toList.length = z.length:=by simp [Str.length]
  rw [hl] at h1 h4 h5
  have hn:=line63
  exact tail_any (typeIs_str s z t) slot_str_getitem.lookup (getItem_str (c:=c) (by
    have e1:decide (i < -(2 ^ 63:Int)) = false:=decide_eq_false (by exact zo86 hz h4 hl hn)
    have e2:decide (i ≥ 2 ^ 63) = false:=decide_eq_false (by exact zo94 hz h5 hl hn)
    rw [e1,e2,Bool.or_false]) (by rw [h1]; simpa using h2) ⟨.str ⟨#[c]⟩,H,I.tok _,⟨_,rfl⟩,q⟩) hs
def rIx (K:PySem.W.Frag):R2:=fun x y H Q => rIxL K x y H Q ∨ rIxT K x y H Q ∨ rIxS x y H Q
theorem ix_seq:IxR X (rIx X.K):=ix_list.or (ix_tup.or ix_str)
theorem mapSeq_set (its:List Value) (n j:Nat) (u:Value):Obj.mapSeq (·.setIfInBounds j u) { cls:=.type "list",data:=.seq its.toArray n } = { cls:=.type "list",data:=.seq (its.set j u).toArray n }:=by
  simp [Obj.mapSeq]
theorem Inv.lst {pins:List (Addr × Obj)} {σ:St} {H:Hp} {s:Shared} {p:Addr} {xs:List V} (I:Inv X pins σ H s) (h:H p = some (.lst xs)) :
    ∃ (its:List Value) (n:Nat),Vals xs its ∧ s.heap.get? p = some { cls:=.type "list",data:=.seq its.toArray n } ∧ xs.length ≤ sizeLine:=by
  obtain ⟨z,its,n,r,e⟩:=I.hok p _ h
  exact ⟨its,n,r,e,z⟩
theorem Inv.lstUpd {pins:List (Addr × Obj)} {σ:St} {H:Hp} {s:Shared} {p:Addr} {xs ys:List V} {its its':List Value} {n n':Nat} {f:Obj → Obj} (I:Inv X pins σ H s) (h:H p = some (.lst xs))
    (ho:s.heap.get? p = some { cls:=.type "list",data:=.seq its.toArray n }) (hf:f { cls:=.type "list",data:=.seq its.toArray n } = { cls:=.type "list",data:=.seq its'.toArray n' }) (r:Vals ys its') (hz:ys.length ≤ sizeLine) (t:Nat) :
    Inv X pins σ (upd H p (.lst ys)) { s with heap:=s.heap.update p f,toks:=t }:=by
  have e:(s.heap.update p f).get? p = some { cls:=.type "list",data:=.seq its'.toArray n' }:=by
    rw [Heap.get?_update_self f ho (by rw [hf] <;> rfl),hf]
  refine I.write (x:=p) (e:=p) (by rw [h]; trivial) (.inl rfl) (fun b u hb q => (Heap.get?_update_other _ _ (Ne.symm hb)).trans q) ⟨_,e⟩ ?_
  exact ⟨hz,its',n',r,e⟩
def rSetL:V → V → V → Hp → (Hp → Prop) → Prop:=fun o i v H Q => ∃ p xs k j,o = .ref p ∧ i = .int k ∧ H p = some (.lst xs) ∧ ixN xs.length k = some j ∧ Q (upd H p (.lst (xs.set j v)))
theorem set_list:PSet X rSetL:=by
  (try refine ⟨?_⟩); intro pins s σ H o i v ov iv u Q I ro ri rv h
  obtain ⟨p,xs,k,j,rfl,rfl,hp,hj,q⟩:=h
  cases ro
  obtain ⟨t,rfl⟩:=ri
  obtain ⟨its,n,r,ho,hz⟩:=I.lst hp
  obtain ⟨h1,h2,h3,h4⟩:=ixN_seq hj
  have hl:=r.length
  have hn:=line63
  have I':Inv X pins σ (upd H p (.lst (xs.set j v))) { s with heap:=s.heap.update p (Obj.mapSeq (·.setIfInBounds j u)) } :=
    I.lstUpd hp ho (mapSeq_set its n j u) (r.set rv j) (by rw [List.length_set]; exact hz) s.toks
  by_cases h0 : 0 ≤ k
  · have hk:k.toNat = j:=by
      rw [seqIndex_of h0 h4] at h1
      exact Option.some.inj h1
    exact PySem.W.ki_setAt ho h0 (by exact zo24 hz h4 hl hn) (by rw [List.size_toArray,← hl]; exact h4) (by rw [hk]; exact ⟨_,I',q⟩)
  · have hk:(k + (its.toArray.size:Int)).toNat = j:=by
      rw [seqIndex_neg (by exact zo39 h0) h3] at h1
      rw [List.size_toArray,← hl]
      exact Option.some.inj h1
    exact PySem.W.ki_setBack ho (by exact zo39 h0) (by rw [List.size_toArray,← hl]; exact h3) (by exact zo17 hz h3 hl hn) (by rw [hk]; exact ⟨_,I',q⟩)
theorem slice_bounds (lo hi:Option Int) (n:Nat):(sliceBounds lo hi none n).1 = ((HT.sIx n 0 lo:Nat):Int) ∧ (sliceBounds lo hi none n).2.1 = ((HT.sIx n n hi:Nat):Int) ∧ (sliceBounds lo hi none n).2.2 = 1:=by
  refine ⟨?_,?_,rfl⟩
  · cases lo with
    | none => simp [sliceBounds,HT.sIx]
    | some i =>
      simp only [sliceBounds,HT.sIx,Option.getD_none,show (1:Int) > 0 by decide,if_true]
      by_cases h:i < 0
      · simp only [h,if_true] <;> (first|lia|omega)
      · simp only [h,if_false] <;> (first|lia|omega)
  · cases hi with
    | none => simp [sliceBounds,HT.sIx]
    | some i =>
      simp only [sliceBounds,HT.sIx,Option.getD_none,show (1:Int) > 0 by decide,if_true]
      by_cases h:i < 0
      · simp only [h,if_true] <;> (first|lia|omega)
      · simp only [h,if_false] <;> (first|lia|omega)
theorem slicePick_cut (its:List Value) (lo hi:Option Int):slicePick its.toArray lo hi none = ((its.drop (HT.sIx its.length 0 lo)).take (HT.sIx its.length its.length hi - HT.sIx its.length 0 lo)).toArray:=by
  obtain ⟨h1,h2,h3⟩:=slice_bounds lo hi its.toArray.size
  unfold slicePick
  rw [h1,h2,h3]
  simp only [sliceRange_one,pick_run,List.size_toArray] <;> rfl
def rSlL (K:PySem.W.Frag):V → Option Int → Option Int → Hp → VK → Prop:=fun x lo hi H Q => ∃ a xs,x = .ref a ∧ SqL K H a xs ∧ ∀ p,H p = none → Q (.ref p) (upd H p (.lst (cutV xs lo hi)))
theorem sl_list:SlR X (rSlL X.K):=by
  (try refine ⟨?_⟩); intro pins s σ H x v vl vu lo hi sl Q I rx hs pl pu h
  obtain ⟨a,xs,rfl,hx,q⟩:=h
  cases rx
  obtain ⟨its,r,ht,hz⟩:=I.list hx
  have hlen:=r.length
  refine ⟨"list",_,slot_list_getitem.lookup,ht.isList.typeIs,?_⟩
  refine wpAny_getItem_list_slice ht.isList hs pl pu .none (by simp) ?_ (by rw [List.size_toArray] <;> exact zo10 hz hlen)
  rw [slicePick_cut,← hlen]
  refine ⟨.ref s.heap.objs.size,_,I.laid (t':=s.toks) (o:=.lst (cutV xs lo hi)) (fun b ob q => Heap.get?_push_of_some _ q) (Nat.le_refl _) ?_,rfl,q _ (I.hok.fresh (Nat.le_refl _))⟩
  exact ⟨Nat.le_trans (cutV_length xs lo hi) hz,_,0,(r.drop (HT.sIx xs.length 0 lo)).take (HT.sIx xs.length xs.length hi - HT.sIx xs.length 0 lo),Heap.get?_push_size _ rfl⟩
theorem call_len_seq:CallR X (.builtin "len") (fun xs H Q => ∃ p ys,xs = [.ref p] ∧ (SqL X.K H p ys ∨ SqT X.K H p ys) ∧ Q (.int ys.length) H):=by
  (try refine ⟨?_⟩); intro pins s σ H xs us Q I r h
  obtain ⟨p,ys,rfl,hq,q⟩:=h
  obtain ⟨u,rfl,rx⟩:=vals1 r
  cases rx
  have hn:=line63
  rcases hq with hq | hq
  · obtain ⟨its,r',pl,hz⟩:=I.list hq
    have hlen:=r'.length
    exact Calls.call_len_list pl.isList (by simp only [List.size_toArray] <;> exact zo53 hn hz hlen) ⟨.int ys.length,H,I.tok _,⟨s.toks + 1,by rw [List.size_toArray,hlen]⟩,q⟩
  · obtain ⟨its,r',pl,hz⟩:=I.tuple hq
    have hlen:=r'.length
    exact len_tuple pl (by simp only [List.size_toArray] <;> exact zo53 hn hz hlen) ⟨.int ys.length,H,I.tok _,⟨s.toks + 1,by rw [List.size_toArray,hlen]⟩,q⟩
theorem call_list_of:CallR X (.type "list") (fun xs H Q => ∃ p ys,xs = [.ref p] ∧ (SqL X.K H p ys ∨ SqT X.K H p ys) ∧ ∀ l,H l = none → Q (.ref l) (upd H l (.lst ys))):=by
  (try refine ⟨?_⟩); intro pins s σ H xs us Q I r h
  obtain ⟨p,ys,rfl,hq,q⟩:=h
  obtain ⟨u,rfl,rx⟩:=vals1 r
  cases rx
  have fin:∀ (its:List Value),Vals ys its → ys.length ≤ sizeLine → ∀ (h':Heap) (c':Nat),(∀ b o',s.heap.get? b = some o' → h'.get? b = some o') →
      h'.get? s.heap.objs.size = some { cls:=.type "list",dict:=none,data:=.seq its.toArray c',slots:=#[] } → EP X pins σ Q (.ref s.heap.objs.size) { s with heap:=h' }:=fun its r' hz h' c' kp e =>
    ⟨.ref s.heap.objs.size,_,I.laid (t':=s.toks) kp (Nat.le_refl _) (show ObjOk X.prog X.w _ h' _ (.lst ys) from ⟨hz,its,c',r',e⟩),rfl,q _ (I.hok.fresh (Nat.le_refl _))⟩
  rcases hq with hq | hq
  · obtain ⟨its,r',pl,hz⟩:=I.list hq
    have hlen:=r'.length
    obtain ⟨o,ho,hc,n,hd⟩:=pl.isList
    exact call_list_seq p (.inl rfl) ho hc hd (fun h' c' kp e => fin its r' hz h' c' kp e) (by simp only [List.size_toArray] <;> exact zo10 hz hlen)
  · obtain ⟨its,r',pl,hz⟩:=I.tuple hq
    have hlen:=r'.length
    obtain ⟨o,ho,hc,n,hd⟩:=pl
    exact call_list_seq p (.inr rfl) ho hc hd (fun h' c' kp e => fin its r' hz h' c' kp e) (by simp only [List.size_toArray] <;> exact zo10 hz hlen)
theorem call_tuple_of:CallR X (.type "tuple") (fun xs H Q => ∃ p ys,xs = [.ref p] ∧ ((SqL X.K H p ys ∧ ∀ l,H l = none → Q (.ref l) (upd H l (.tup ys))) ∨ (SqT X.K H p ys ∧ Q (.ref p) H))):=by
  (try refine ⟨?_⟩); intro pins s σ H xs us Q I r h
  obtain ⟨p,ys,rfl,h⟩:=h
  obtain ⟨u,rfl,rx⟩:=vals1 r
  cases rx
  rcases h with ⟨hq,q⟩ | ⟨hq,q⟩
  · obtain ⟨its,r',pl,hz⟩:=I.list hq
    have hlen:=r'.length
    refine call_tuple_list pl.isList (fun h' kp => ?_) (by simp only [List.size_toArray] <;> exact zo10 hz hlen)
    have I1:Inv X pins σ H { s with heap:=h' }:=I.kept (t':=s.toks) kp
    have I2:Inv X pins σ (upd H h'.objs.size (.tup ys)) { s with heap:=h'.push { cls:=.type "tuple",data:=.seq its.toArray } } :=
      I1.laid (t':=s.toks) (fun b o e => Heap.get?_push_of_some _ e) (Nat.le_refl _) (show ObjOk X.prog X.w _ _ _ (.tup ys) from ⟨hz,its,r',IsTup.new _ _⟩)
    exact ⟨.ref h'.objs.size,_,I2,rfl,q _ (I1.hok.fresh (Nat.le_refl _))⟩
  · obtain ⟨its,r',pl,hz⟩:=I.tuple hq
    exact call_tuple_same pl ⟨.ref p,H,I,rfl,q⟩
def tyV (K:PySem.W.Frag) (T:String) (x:V) (H:Hp):Prop:=match x with
  | .str _ => T = "str"
  | .int _ => T = "int"
  | .ref p => (T = "list" ∧ ∃ xs,SqL K H p xs) ∨ (T = "tuple" ∧ ∃ o,K.lookup p = some o ∧ o.cls = .type "tuple" ∧ o.dict = none) ∨
      (T = "dict" ∧ ((∃ kvs,H p = some (.dK kvs)) ∨ ∃ kvs,H p = some (.dT kvs))) ∨ (T = "set" ∧ ∃ S n,H p = some (.set S n))
  | _ => False
theorem tyV_is {pins:List (Addr × Obj)} {σ:St} {H:Hp} {s:Shared} {T:String} {x:V} {v:Value} (I:Inv X pins σ H s) (r:RelV x v) (ty:tyV X.K T x H) :
    s.TypeIs v T ∧ ∀ a,v = .ref a → ∃ ob,s.heap.get? a = some ob ∧ ob.dict = none:=by
  cases x with
  | str z =>
    obtain ⟨t,rfl⟩:=r
    cases (show T = "str" from ty)
    exact ⟨typeIs_str s z t,fun _ e => nomatch e⟩
  | int i =>
    obtain ⟨t,rfl⟩:=r
    cases (show T = "int" from ty)
    exact ⟨typeIs_int s i t,fun _ e => nomatch e⟩
  | ref p =>
    cases r
    rcases ty with ⟨rfl,xs,hq⟩ | ⟨rfl,o,hk,hc,hd⟩ | ⟨rfl,hk⟩ | ⟨rfl,S,n,hk⟩
    · obtain ⟨its,_,pl,_⟩:=I.list hq
      refine ⟨pl.isList.typeIs,fun a e => ?_⟩
      cases e
      obtain ⟨o,n,e,c,hd,_⟩:=pl
      exact ⟨o,e,hd⟩
    · refine ⟨⟨o,I.kIn p o hk,hc⟩,fun a e => ?_⟩
      cases e
      exact ⟨o,I.kIn _ o hk,hd⟩
    · have z:∃ o,s.heap.get? p = some o ∧ o.ExactDict:=by
        rcases hk with ⟨kvs,hk⟩ | ⟨kvs,hk⟩
        · obtain ⟨_,_,_,_,o,_,_,e,ex,_⟩:=I.hok p _ hk
          exact ⟨o,e,ex⟩
        · obtain ⟨_,_,_,_,o,_,_,e,ex,_⟩:=I.hok p _ hk
          exact ⟨o,e,ex⟩
      obtain ⟨o,e,ex⟩:=z
      refine ⟨⟨o,e,ex.1⟩,fun a e2 => ?_⟩
      cases e2
      exact ⟨o,e,ex.2.1⟩
    · obtain ⟨o,_,_,_,e,ex,_⟩:=I.hok p _ hk
      refine ⟨⟨o,e,ex.1⟩,fun a e2 => ?_⟩
      cases e2
      exact ⟨o,e,ex.2.1⟩
  | _ => exact False.elim ty
def tBM (K:PySem.W.Frag) (T:String) (r:V → List V → Hp → VK → Prop) (to:TE) (t:TA):TE:=fun σ H Q => to σ H fun x H1 => tyV K T x H1 ∧ t σ H1 fun xs H2 => r x xs H2 Q
variable {o e:Expr} {es:List Expr} {to:TE} {t:TA} {name:Str} {apos cpos:Pos} {T id:String} {r:V → List V → Hp → VK → Prop}
theorem pe_bm (pa:PlainAttrs T) (slot:Slot T name id) (hty:typeOf (.builtin id) = pure (.type "method_descriptor")) (hm:MtR X id r) (ho:PE X o to) (ha:PA X (e :: es) t)
    (hbase:attributeBase o name X.env (eval o X.env) = eval o X.env:=by rfl)
    (hfew:((backTo cpos (starEach (e :: es) X.env)).all (fun x => !x.1) && (backToKw cpos (keywordEach [] X.env)).all (fun x => x.1.isSome)
      && decide ((e :: es).length + ([]:List Keyword).length + (if ([]:List Keyword).isEmpty then 0 else 1) < 30)) = true:=by rfl)
    (hline:(apos.endLine == cpos.line) = true:=by rfl) (hs:starEach (e :: es) X.env = (false,eval e X.env) :: starEach es X.env:=by rfl) (hplain:(backTo cpos (starEach es X.env)).any (·.1) = false:=by rfl) :
    PE X (.Call (.Attribute o name apos) (e :: es) [] cpos) (tBM X.K T r to t):=by
  (try refine ⟨?_⟩); intro pins s σ H Q I h
  refine wpAny_Call_method_late hbase hfew hline rfl (thn (ho pins s σ H _ I h) fun v s1 ⟨x,H1,I1,r1,ty,q1⟩ => ?_)
  obtain ⟨h1,h2⟩:=tyV_is I1 r1 ty
  refine ⟨T,id,pa,slot,hty,h1,h2,?_⟩
  have hA:=ha cpos pins s1 σ H1 _ I1 q1
  rw [hs] at hA ⊢
  refine Calls.callWith_builtin (by show (false || (backTo cpos (starEach es X.env)).any (·.1)) = false; rw [hplain] <;> rfl) (Calls.evalArgs_plain ?_)
  exact thn hA fun us s2 ⟨vs,H2,I2,r2,q2⟩ => hm pins s2 σ H2 x vs v us Q I2 r1 r2 q2
/- xs.append(e),list.index on a module's tuple .. are MtR facts of 06m -/
end
def MtM (X:Cx) (id:String) (r:V → List V → Hp → VK → Prop):Prop :=
  ∀ (pins:List (Addr × Obj)) (s:Shared) (σ:St) (H:Hp) (x:V) (xs:List V) (v:Value) (us:List Value) (Q:VK),Inv X pins σ H s → RelV x v → Vals xs us → r x xs H Q →
    wpAny (model X.prog X.w) X.A (call (.builtin id) (v :: us)) (EP X pins σ Q) X.xe s
theorem Vals.one:∀ {x:V} {us:List Value},Vals [x] us → ∃ u,us = [u] ∧ RelV x u:=fun h => by
  cases h with
  | cons r q => cases q; exact ⟨_,rfl,r⟩
theorem Vals.rep {xs:List V} {us:List Value} (h:Vals xs us):∀ k:Nat,Vals (List.replicate k xs).flatten (List.replicate k us).flatten
  | 0 => .nil
  | k + 1 => by
    rw [List.replicate_succ,List.replicate_succ,List.flatten_cons,List.flatten_cons]
    exact Vals.append h (Vals.rep h k)
theorem foldl_rep (its:List Value):∀ (k:Nat) (acc:List Value),
    List.foldl (fun x1 x2 => x1 ++ x2) acc.toArray (List.replicate k its.toArray) = (acc ++ (List.replicate k its).flatten).toArray
  | 0,acc => by simp
  | k + 1,acc => by
    have e:acc.toArray ++ its.toArray = (acc ++ its).toArray:=by simp
    have e2:(acc ++ its) ++ (List.replicate k its).flatten = acc ++ (List.replicate (k + 1) its).flatten:=by
      rw [List.replicate_succ,List.flatten_cons,List.append_assoc]
    rw [← e2,← foldl_rep its k (acc ++ its),← e,List.replicate_succ,List.foldl_cons]
section
variable {X:Cx} {pins:List (Addr × Obj)} {σ:St} {H:Hp} {s:Shared} {l b:Addr} {xs ys zs:List V}
theorem Inv.lset {its its':List Value} {n:Nat} {f:Array Value → Array Value} {t':Nat} (I:Inv X pins σ H s) (hH:H l = some (.lst xs))
    (e:s.heap.get? l = some { cls:=.type "list",data:=.seq its.toArray n }) (hf:f its.toArray = its'.toArray) (hv:Vals ys its') (hz:ys.length ≤ sizeLine) :
    Inv X pins σ (upd H l (.lst ys)) { s with heap:=s.heap.update l (Obj.mapSeq f),toks:=t' }:=by
  have q:=PySem.IsL.update e f
  rw [hf] at q
  refine I.write (x:=l) (e:=l) (by rw [hH]; exact trivial) (.inl rfl) (fun b' u hb hu => (Heap.get?_update_other s.heap (Obj.mapSeq f) (Ne.symm hb)).trans hu) ⟨_,q⟩ ?_
  exact ⟨hz,its',_,hv,q⟩
theorem Inv.lnew {its:List Value} {t':Nat} (I:Inv X pins σ H s) (hv:Vals ys its) (hz:ys.length ≤ sizeLine) :
    Inv X pins σ (upd H s.heap.objs.size (.lst ys)) { s with heap:=s.heap.push { cls:=.type "list",data:=.seq its.toArray },toks:=t' } :=
  I.laid (fun _ _ q => Heap.get?_push_of_some _ q) (Nat.le_refl _) ⟨hz,its,0,hv,Heap.get?_push_size _ rfl⟩
theorem Inv.fresh (I:Inv X pins σ H s):H s.heap.objs.size = none:=I.hok.fresh (Nat.le_refl _)
theorem Inv.lstM (I:Inv X pins σ H s) (hH:H l = some (.lst xs)):xs.length ≤ sizeLine ∧ ∃ (its:List Value) (n:Nat),Vals xs its ∧ xs.length = its.length ∧ s.heap.get? l = some { cls:=.type "list",data:=.seq its.toArray n }:=by
  obtain ⟨z,its,n,r,e⟩:=I.hok l _ hH
  exact ⟨z,its,n,r,r.length,e⟩
theorem notLongL {n:Nat} (h:n ≤ sizeLine):Builtin.List.listTooLong n = false:=by
  unfold Builtin.List.listTooLong
  exact decide_eq_false (by exact zo283 h)
end
section
variable {X:Cx}
def rAppend:V → List V → Hp → VK → Prop:=fun x vs H Q => ∃ l xs y,x = .ref l ∧ vs = [y] ∧ H l = some (.lst xs) ∧ xs.length < sizeLine ∧ Q .non (upd H l (.lst (xs ++ [y])))
theorem mt_append:MtM X "list.append" rAppend:=by
  (try refine ⟨?_⟩); intro pins s σ H x vs v us Q I rx rv h
  obtain ⟨l,xs,y,rfl,rfl,hH,hz,q⟩:=h
  cases rx
  obtain ⟨u,rfl,ru⟩:=rv.one
  obtain ⟨z,its,n,r,hl,e⟩:=I.lstM hH
  refine call_meets F.slot_list_append ⟨_,e,rfl⟩ F.entry_list_append (F.args_list_append_2 _ _) (PySem.list_append l its.toArray n u (by rw [List.size_toArray]; exact zo223 hz hl)) ⟨e,?_⟩
  refine ⟨.non,_,I.lset (its':=its ++ [u]) hH e (by simp) (r.append (.cons ru .nil)) ?_,rfl,q⟩
  rw [List.length_append,List.length_singleton]
  exact zo203 hz hl
def rExtend:V → List V → Hp → VK → Prop:=fun x vs H Q => ∃ l b xs zs,x = .ref l ∧ vs = [.ref b] ∧ H l = some (.lst xs) ∧ H b = some (.lst zs) ∧ xs.length + zs.length ≤ sizeLine ∧ Q .non (upd H l (.lst (xs ++ zs)))
theorem mt_extend:MtM X "list.extend" rExtend:=by
  (try refine ⟨?_⟩); intro pins s σ H x vs v us Q I rx rv h
  obtain ⟨l,b,xs,zs,rfl,rfl,hH,hB,hz,q⟩:=h
  cases rx
  obtain ⟨u,rfl,ru⟩:=rv.one
  cases ru
  obtain ⟨z,its,n,r,hl,e⟩:=I.lstM hH
  obtain ⟨z2,its2,n2,r2,hl2,e2⟩:=I.lstM hB
  have hsz:its.toArray.size + its2.toArray.size ≤ sizeLine:=by rw [List.size_toArray,List.size_toArray]; exact zo40 hz hl hl2
  have hlong : ¬ (!its.toArray.isEmpty && Builtin.List.listTooLong (its.toArray.size + its2.toArray.size)) = true:=by
    rw [notLongL hsz,Bool.and_false]
    exact Bool.false_ne_true
  refine call_meets F.slot_list_extend ⟨_,e,rfl⟩ F.entry_list_extend (F.args_list_extend_2 _ _)
    (AutoSeq1.list_extend_list_list_0 l its.toArray n b its2.toArray n2 hlong (by rw [List.size_toArray]; exact zo10 z hl) (by exact zo190 hsz)) ⟨e,e2,?_⟩
  refine ⟨.non,_,I.lset (its':=its ++ its2) hH e (by simp) (r.append r2) ?_,rfl,q⟩
  rw [List.length_append]
  exact zo302 hz
def rCat:R2:=fun x y H Q => ∃ l b xs zs,x = .ref l ∧ y = .ref b ∧ H l = some (.lst xs) ∧ H b = some (.lst zs) ∧ xs.length + zs.length ≤ sizeLine ∧ ∀ p,H p = none → Q (.ref p) (upd H p (.lst (xs ++ zs)))
theorem op_cat:OpR X (binaryOp .Add) rCat:=by
  (try refine ⟨?_⟩); intro pins s σ H x y v u Q I rx ry h
  obtain ⟨l,b,xs,zs,rfl,rfl,hH,hB,hz,q⟩:=h
  cases rx
  cases ry
  obtain ⟨z,its,n,r,hl,e⟩:=I.lstM hH
  obtain ⟨z2,its2,n2,r2,hl2,e2⟩:=I.lstM hB
  refine PySem.P.add_list e e2 ?_ (by rw [List.size_toArray,List.size_toArray]; exact zo40 hz hl hl2)
  have ea:its.toArray ++ its2.toArray = (its ++ its2).toArray:=by simp
  rw [ea]
  exact ⟨.ref _,_,I.lnew (t':=s.toks) (r.append r2) (by rw [List.length_append]; exact zo302 hz),rfl,q _ I.fresh⟩
def rRep:R2:=fun x y H Q => ∃ l k xs,x = .ref l ∧ y = .int k ∧ H l = some (.lst xs) ∧ -(2 ^ 63) ≤ k ∧ k < 2 ^ 63 ∧ xs.length * k.toNat ≤ sizeLine ∧
  ∀ p,H p = none → Q (.ref p) (upd H p (.lst (List.replicate k.toNat xs).flatten))
theorem len_rep {α:Type} (xs:List α) (k:Nat):(List.replicate k xs).flatten.length = k * xs.length:=by
  induction k with
  | zero => simp
  | succ k ih => rw [List.replicate_succ,List.flatten_cons,List.length_append,ih,Nat.succ_mul,Nat.add_comm]
theorem op_rep:OpR X (binaryOp .Mult) rRep:=by
  (try refine ⟨?_⟩); intro pins s σ H x y v u Q I rx ry h
  obtain ⟨l,k,xs,rfl,rfl,hH,h1,h2,hz,q⟩:=h
  cases rx
  obtain ⟨t,rfl⟩:=ry
  obtain ⟨z,its,n,r,hl,e⟩:=I.lstM hH
  have hlen:its.toArray.size * k.toNat ≤ sizeLine:=by rw [List.size_toArray,← hl]; exact hz
  have hcap : ¬ its.toArray.size * k.toNat > (2 ^ 63 - 1) / 8:=by
    have:(sizeLine:Nat) ≤ (2 ^ 63 - 1) / 8:=by decide
    exact zo145 hlen this
  have hfit : ¬ (!Builtin.List.listFitsIndex k) = true:=by
    rw [fitsIndex_both h1 h2]
    exact Bool.false_ne_true
  have hlong : ¬ Builtin.List.listTooLong (its.toArray.size * k.toNat) = true:=by
    rw [notLongL hlen]
    exact Bool.false_ne_true
  have hnew:List.foldl (fun x1 x2 => x1 ++ x2) #[] (List.replicate (if its.toArray.isEmpty = true then 0 else k.toNat) its.toArray) = (List.replicate k.toNat its).flatten.toArray:=by
    have f0:∀ m:Nat,List.foldl (fun x1 x2 => x1 ++ x2) #[] (List.replicate m its.toArray) = (List.replicate m its).flatten.toArray:=fun m => by
      have:=foldl_rep its m []
      rw [List.nil_append] at this
      exact this
    rw [f0]
    cases its with
    | nil => simp
    | cons a r' => rw [if_neg (by simp)]
  refine wpAny_binaryOp_repeat_ref (T:="list") (U:="int") (by decide) ⟨_,e,rfl⟩ (fun s' => typeIs_int s' k t) noFill_list_mul F.fills_int_mul F.slot_int_rmul repeat_list F.slot_int_index.lookup
    (call_meets F.slot_int_rmul (typeIs_int s k t) F.entry_int_rmul (F.args_int_rmul_2 _ _) (int___rmul___int_list k t l its.toArray n)
      ⟨e,rfl,⟨_,e,rfl⟩,call_meets F.slot_list_mul ⟨_,e,rfl⟩ F.entry_list_mul (F.args_list_mul_2 _ _) (AutoListH.list___mul___list_int_3 l its.toArray n k t hfit hcap hlong) ⟨e,?_⟩⟩)
  rw [hnew]
  exact ⟨.ref _,_,I.lnew (t':=s.toks) (r.rep k.toNat) (by rw [len_rep,Nat.mul_comm]; exact hz),rfl,q _ I.fresh⟩
end
section
variable {prog:Program} {w:World} {A:Around} {E:Value → Shared → Prop} {s:Shared}
end
section
variable {X:Cx}
end
end L2
namespace Att
open PySem PySem.W PySem.Calls PyProof.Rows
theorem ints_of_wellAll {P:Params} {h:Heap}:∀ (ns:List Int) (vs:List Value),WellAll P h vs (ns.map WData.int) → IntsAre vs ns:=by
  intro ns
  induction ns with
  | nil =>
    intro vs w
    rw [List.map_nil] at w
    cases w
    exact .nil
  | cons n ns ih =>
    intro vs w
    rw [List.map_cons] at w
    cases w with
    | cons a b =>
      cases a
      exact .cons _ _ (ih _ b)
theorem script_of {l:OpenLaw} {n:Nat} (hn:l.most = some n) {P:Params} {h:Heap} {args:List WData} {vals:List Value}
    (hpre:l.row.toRowW.claim.pre args = true) (hwl:WellAll P h vals args) :
    ∃ a vs ns,vals = [Value.ref a] ∧ args = [WData.list (ns.map WData.int)] ∧ h.get? a = some { cls:=.type "list",data:=.seq vs.toArray } ∧ IntsAre vs ns ∧ ns.length ≤ n:=by
  have hsh:WShape.hasAll [] args [.list .int] = true:=(pre_splitW hpre).1
  have hc:l.pre.holds [] { args:=args } = true:=(pre_splitW hpre).2
  obtain ⟨d,r,rfl,h1,h2⟩:=hasAllW_cons hsh
  obtain rfl:=hasAllW_nil h2
  obtain ⟨xs,rfl,h3⟩:=hasW_list h1
  obtain ⟨ns,rfl⟩:=items_int h3
  have hlen:ns.length ≤ n:=by
    unfold OpenLaw.pre at hc
    have h4:(WTm.not (.lt (.lit (.int (n:Int))) (.len (.arg 0)))).holds [] { args:=[.list (ns.map .int)] } = true:=by
      have h4:=(holds_andW hc).1
      rw [hn] at h4
      exact h4
    have h5:=condW_of h4 (w_not (w_lt w_lit (w_len_list (w_arg rfl))))
    rw [List.length_map] at h5
    refine Nat.le_of_not_lt fun q => ?_
    have q':(n:Int) < ((ns.length:Nat):Int):=by exact zo179 q
    first
      | (rw [decide_eq_true q'] at h5; exact absurd h5 (by decide))
      | (simp at h5; (first|lia|omega))
  cases hwl with
  | cons w1 w2 =>
    cases w2
    cases w1 with
    | list ho hall => exact ⟨_,_,ns,rfl,rfl,ho,ints_of_wellAll ns _ hall,hlen⟩
theorem post_true (l:OpenLaw) (args:List WData):l.row.toRowW.claim.post args (.bool true) args = true :=
  postW_of (r:=l.row.toRowW) (X:=(true == true))
    (show WShape.has [] (.bool true) .bool = true by first | rfl | decide | simp [WShape.has,WShape.arms,WShape.armsAll])
    (show (WTm.eq .res (.lit (.bool true))).value [] { args:=args,res:=some (.bool true),after:=args } = some (.bool (true == true)) from w_eq_bool (w_res rfl) w_lit) rfl
theorem attach_call {l:OpenLaw} {n:Nat} {q:Program} {loose:List Str} {XP:(Str → Option Value) → Heap → Prop} {YP:World → Heap → Prop} {d:DefRec}
    (hn:l.most = some n) (hdf:d.params.defaults = [])
    (call:∀ (w:World) (s₀ s₁:Shared) (mg mb:Str → Option Value) (fa:Addr) (o:Obj) (pm cd doc:Value) (a:Addr) (vs:List Value) (ns:List Int),
      Ground q loose [] XP w s₀ mg mb s₁.heap → YP w s₁.heap →
      s₁.heap.get? fa = some o → o.data = .func (docDef d.name d.params d.body d.scope pm cd doc) → s₁.heap.CodeRec cd d.name → mg d.name = some (.ref fa) →
      s₁.heap.get? a = some { cls:=.type "list",data:=.seq vs.toArray } → IntsAre vs ns → ns.length ≤ n → s₁.gens = #[] →
      codeAny (model l.prog w) callerA (.call (.ref fa) ⟨[.ref a],[]⟩) (fun r s' => r = .ok (.ret (.bool true)) ∧ OldK s₁.heap s'.heap ∧ s'.os = s₁.os ∧ AllBare s'.gens) s₁) :
    WalkO q loose XP YP l.row.toRowW d [] (fun f vs => PySem.call f vs):=by
  intro w s₀ s₁ mg mb G Y fa o pm cd doc dV kV ho hd hcd hD hmg hg args vals as hpre hlay hrd hwl hlo
  obtain rfl:dV = .none:=Dflts.none hD hdf
  obtain rfl:kV = .none:=Dflts.noKw hD
  obtain ⟨a,vs,ns,rfl,rfl,hobj,hints,hlen⟩:=script_of hn hpre hwl
  refine enter_call (codeAny_mono (call w s₀ s₁ mg mb fa o pm cd doc a vs ns G Y ho (fd_plain hd) hcd hmg hobj hints hlen hg) fun r s' hq => ?_)
  obtain ⟨rfl,h2,h3,h4⟩:=hq
  exact ⟨.inl ⟨.bool true,.bool true,[],rfl,fun _ => rfl,.bool true,post_true l _,fun _ => ⟨List.Pairwise.nil,fun _ hm => (nomatch hm)⟩⟩,h2,h3,h4⟩
section
variable {prog:Program} {w:World} {A:Around} {E:Value → Shared → Prop} {s:Shared} {K:Frag}
end
end Att
namespace L2
open PySem PySem.Spec PyProof.Rows
theorem vals_ints:∀ {vs:List Value} {ns:List Int},IntsAre vs ns → Vals (ns.map V.int) vs
  | _,_,.nil => .nil
  | _,_,.cons n t h => .cons ⟨t,rfl⟩ (vals_ints h)
def Only (H:Hp):Prop:=∀ b,H b = none ∨ ∃ o xs,H b = some (.frz o (.lst xs))
theorem law_call {P:Program} {w:World} {K:PySem.W.Frag} {mg mb:Str → Option Value} {CX:CXT} {k:Nat} {fa a:Addr} {fd:FuncData} {x:Str} {sp:Sp} {s₁:Shared} {vs:List Value} {ns:List Int}
    (KX:K.In s₁.heap) (hns:s₁.heap.Ns mainGlobals mg) (hb:s₁.heap.Ns builtinsNs mb) (hbb:∀ x:Str,x ≠ "__name__" → mb x = bootBuiltins x) (hlim:s₁.heap.NoLimit) (hg:s₁.gens = #[])
    (ha:s₁.heap.get? a = some { cls:=.type "list",data:=.seq vs.toArray }) (hi:IntsAre vs ns) (hl:ns.length ≤ sizeLine) (hr:Room k callerA)
    (F:∀ base:Heap,K.In base → base.Ns mainGlobals mg → FnOk P w K mg base CX k fa fd [x] sp) (hbind:∀ (s:Shared) (u:Value),BindsTo s fd ⟨[u],[]⟩ [(x,u)])
    (hsp:∀ H:Hp,Only H → SqL K H a (ns.map V.int) → sp [.ref a] H (fun v _ => v = .bl true) fun _ _ _ => False)
    (hCX:∀ H e s',CX [] H s₁ (fun _ _ _ => False) e s' → False) :
    codeAny (model P w) callerA (.call (.ref fa) ⟨[.ref a],[]⟩) (fun r s' => r = .ok (.ret (.bool true)) ∧ OldK s₁.heap s'.heap ∧ s'.os = s₁.os ∧ AllBare s'.gens) s₁:=by
  have rv:=vals_ints hi
  have lenV:=hi.length
  -- from an abstract heap in which nothing but the script may be tracked
  have core:∀ H:Hp,Only H → SqL K H a (ns.map V.int) → HOk P w H s₁.heap → (∀ b,H b ≠ none → b = a) → (H a ≠ none → K.lookup a = none) →
      codeAny (model P w) callerA (.call (.ref fa) ⟨[.ref a],[]⟩) (fun r s' => r = .ok (.ret (.bool true)) ∧ OldK s₁.heap s'.heap ∧ s'.os = s₁.os ∧ AllBare s'.gens) s₁:=by
    intro H hO hS hok hA hK
    have base_of:∀ {b:Addr} {o:Obj},s₁.heap.get? b = some o → H b = none → (hidT s₁.heap H).get? b = some o:=fun e n => hidT_get e n
    have noA:∀ {b:Addr} {o:Obj} {es:Array DictEntry} {ep:Nat},s₁.heap.get? b = some o → o.data = .dict es ep → H b = none:=fun {b o es ep} e d => by
      cases q:H b with
      | none => rfl
      | some u =>
        have e':b = a:=hA b (by rw [q]; simp)
        subst e'
        rw [ha] at e; cases e
        have d':Data.seq vs.toArray _ = Data.dict es ep:=d
        cases d'
    have nsK:∀ {b:Addr} {m:Str → Option Value},s₁.heap.Ns b m → (hidT s₁.heap H).Ns b m:=fun {b m} ⟨o,es,ep,e,d,r⟩ => ⟨o,es,ep,base_of e (noA e d),d,r⟩
    have hKb:K.In (hidT s₁.heap H):=fun b o e => base_of (KX b o e) (by
      cases q:H b with
      | none => rfl
      | some u =>
        have e':b = a:=hA b (by rw [q]; simp)
        subst e'
        rw [hK (by rw [q]; simp)] at e; cases e)
    have hM:Mod K mg (hidT s₁.heap H):=⟨hKb,nsK hns,⟨mb,nsK hb,hbb⟩,let ⟨mc,h1,h2⟩:=hlim; ⟨mc,nsK h1,h2⟩⟩
    have e0:Env0 P w K mg (hidT s₁.heap H) callerA [] s₁ H:=⟨rfl,hM,fun b o e => of_hidT e,Nat.le_of_eq (hidT_size _ _),trivial,fun b hb => absurd (show b ∈ ([]:List Addr) from hb) (by simp),hok,.of_eq hg⟩
    refine codeAny_mono ((F _ hKb (nsK hns)).run callerA [] s₁ H ⟨[.ref a],[]⟩ [.ref a] [.ref a] _ _ hr e0 (hbind s₁ (.ref a)) (.cons rfl .nil) (hsp H hO hS)) fun r s' h => ?_
    cases r with
    | error e => exact (hCX H e s' h).elim
    | ok fl =>
      cases fl with
      | next => exact False.elim h
      | brk => exact False.elim h
      | cont => exact False.elim h
      | ret u =>
        obtain ⟨v,H',os,bare,un,hok',r',q⟩:=h
        have q':v = .bl true:=q
        subst q'
        obtain rfl:u = Value.bool true:=r'
        refine ⟨rfl,OldK.of_keep fun b o e => ?_,os,bare⟩
        cases q:H b with
        | none => exact un.keep b o e q (by intro z; exact absurd (show b ∈ ([]:List Addr) from z) (by simp)) (by simp)
        | some u =>
          rcases hO b with z | ⟨ob,xs,z⟩
          · rw [q] at z; cases z
          · have z2:=un.frzs b ob _ z
            obtain ⟨e1,_⟩:=hok b _ z
            obtain ⟨e2,_⟩:=hok' b _ z2
            rw [e] at e1; cases e1
            exact e2
  cases hk:K.lookup a with
  | some o =>
    -- the script is one of the module's own objects
    have e:=KX a o hk
    rw [ha] at e
    cases e
    refine core (fun _ => none) (fun _ => .inl rfl) (.inr ⟨_,vs.toArray,_,hk,rfl,rfl,rfl,by rw [List.size_toArray,lenV]; exact hl,by simpa using rv⟩) (fun b u z => by have z':(none:Option HO) = some u:=z; cases z') (fun b z => absurd rfl z) fun z => absurd rfl z
  | none =>
    refine core (fun b => if b = a then some (.frz { cls:=.type "list",data:=.seq vs.toArray } (.lst (ns.map V.int))) else none) (fun b => ?_) (.inl (.inr ⟨{ cls:=.type "list",data:=.seq vs.toArray },if_pos rfl⟩)) (fun b u z => ?_) (fun b z => ?_) fun _ => hk
    · by_cases hb:b = a
      · exact .inr ⟨_,_,if_pos hb⟩
      · exact .inl (if_neg hb)
    · by_cases hb:b = a
      · have z':=(if_pos hb).symm.trans z
        cases z'
        subst hb
        exact ⟨ha,by rw [List.length_map]; exact hl,vs,_,rv,ha⟩
      · have z':=(if_neg hb).symm.trans z
        cases z'
    · by_cases hb:b = a
      · exact hb
      · exact absurd (if_neg hb) z
theorem walk_of {l:PySem.W.OpenLaw} {n k:Nat} {q:Program} {loose:List Str} {XP:(Str → Option Value) → Heap → Prop} {YP:World → Heap → Prop} {d:DefRec} {K:Params → PySem.W.Frag} {CX:World → CXT} {sp:World → Sp} {x:Str}
    (hn:l.most = some n) (hn2:n ≤ sizeLine) (hdf:d.params.defaults = []) (hr:Room k callerA)
    (hY:∀ (w:World) (h:Heap),YP w h → (K w.params).In h)
    (F:∀ (w:World) (mg:Str → Option Value) (fa:Addr) (h:Heap),(K w.params).In h → h.Ns mainGlobals mg → mg d.name = some (.ref fa) →
      ∃ fd:FuncData,(∀ (s:Shared) (u:Value),BindsTo s fd ⟨[u],[]⟩ [(x,u)]) ∧
        ∀ base:Heap,(K w.params).In base → base.Ns mainGlobals mg → FnOk l.prog w (K w.params) mg base (CX w) k fa fd [x] (sp w))
    (hsp:∀ (w:World) (H:Hp) (a:Addr) (ns:List Int),ns.length ≤ n → Only H → SqL (K w.params) H a (ns.map V.int) → sp w [.ref a] H (fun v _ => v = .bl true) fun _ _ _ => False)
    (hCX:∀ (w:World) (H:Hp) (s:Shared) (e:Value) (s':Shared),CX w [] H s (fun _ _ _ => False) e s' → False) :
    PySem.W.WalkO q loose XP YP l.row.toRowW d [] (fun f vs => PySem.call f vs):=by
  refine Att.attach_call hn hdf fun w s₀ s₁ mg mb fa o pm cd doc a vs ns G Y ho hd hcd hmg hobj hints hlen hg => ?_
  have KX:=hY w _ Y
  obtain ⟨fd,hb,hF⟩:=F w mg fa _ KX G.T.g hmg
  exact law_call KX G.T.g G.T.b G.T.builtins G.T.nolimit hg hobj hints (Nat.le_trans hlen hn2) hr hF hb (fun H hO hS => hsp w H a ns hlen hO hS) fun H e s' => hCX w H s₁ e s'
end L2
/- THE LAST THEOREM (shape; LID,My.* are yours):
   My.Adr: a structure of the addresses that your layer names (classes,functions); My.Txt K t: a structure (Prop) of the equations over K;
   My.txt_mk : {K} {implicit addresses ..} (e1:nsIn K mainGlobals "law" = some (some (.ref f))) (e2:K.lookup f = some ⟨oc,od,.func (fnOf "law" "law" params body scope dV kV doc pm an cdv ct),sl⟩) (e3:codeIn K cdv "law" = true) ..:∃ t,My.Txt K t
(the tactic k_is has no namespace: write k_is) -/
namespace L2
open PySem PySem.Spec PyProof.Rows
def inClass (s:Stmt) (j:Nat):Stmt:=match s with
  | .ClassDef _ _ _ body _ _ _ _ _ _ _ => body.getD j (.Pass ⟨0,0,0,0⟩)
  | _ => .Pass ⟨0,0,0,0⟩
def defArgs (s:Stmt):Arguments:=match s with
  | .FunctionDef _ a _ _ _ _ _ _ _ _ => a
  | _ => { posonlyargs:=[],args:=[],vararg:=none,kwonlyargs:=[],kw_defaults:=[],kwarg:=none,defaults:=[] }
def defBody (s:Stmt):List Stmt:=match s with
  | .FunctionDef _ _ b _ _ _ _ _ _ _ => b
  | _ => []
def defScope (s:Stmt):Scope:=match s with
  | .FunctionDef _ _ _ _ _ _ sc _ _ _ => sc
  | _ => { kind:=.function,names:=[],isGenerator:=false,isCoroutine:=false }
abbrev CX0:CXT:=fun _ _ _ _ _ _ => False
abbrev E0:XK:=fun _ _ _ => False
theorem pass0 {X:Cx}:Passes CX0 X E0:=fun _ _ _ _ _ _ _ h => h.elim
structure Fun (K:PySem.W.Frag) (x qual:Str) (st:Stmt) (f:Addr) (fd:FuncData):Prop where
  ex:∃ (oc:Value) (od:Option Addr) (kV doc pm:Value) (an:Option Addr) (cdv ct:Value) (osl:Array (Option Value)),
    fd = PySem.W.fnOf x qual (defArgs st) (defBody st) (defScope st) .none kV doc pm an cdv ct ∧ K.lookup f = some ⟨oc,od,.func fd,osl⟩ ∧ PySem.W.codeIn K cdv qual = true
  kp:PySem.W.keepIn K (.ref f) = true
section
variable {P:Program} {w:World} {K:PySem.W.Frag} {mg:Str → Option Value} {base:Heap}
theorem Fun.ok {x qual:Str} {st:Stmt} {f:Addr} {fd:FuncData} {N ps:List Str} {k:Nat} {sp:Sp} (F:Fun K x qual st f fd) (S:FnScope N ps (defScope st)) (len:∀ vs H Q E,sp vs H Q E → vs.length = ps.length)
    (hbody:∀ (cdv:Value) (A:Around) (outer:List Env) (s:Shared) (H:Hp) (vs:List V) (Q:VK) (E:XK),Room k (A.deeper (envOfC qual (defScope st) s.heap.objs.size f cdv)) → sp vs H Q E →
      ∃ t,PSs (cxOf CX0 P w K mg base N qual (defScope st) f cdv A outer s H E).nox (defBody st) t ∧ t { nx:=fun _ H' => Q .non H',rt:=Q } (start N vs) H):FnOk P w K mg base CX0 (k + 1) f fd ps sp:=by
  obtain ⟨oc,od,kV,doc,pm,an,cdv,ct,osl,rfl,lk,hcd⟩:=F.ex
  refine fn_of lk hcd S len fun A outer s H vs Q E hr hsp => ?_
  obtain ⟨t,h,q⟩:=hbody cdv A outer s H vs Q E hr hsp
  exact ⟨t,h.nox,q⟩
theorem Fun.binds {x qual:Str} {st:Stmt} {f:Addr} {fd:FuncData} {ps:List Str} (F:Fun K x qual st f fd)
    (h:∀ (kV doc pm:Value) (an:Option Addr) (cdv ct:Value) (us:List Value),us.length = ps.length → bindArgs (PySem.W.fnOf x qual (defArgs st) (defBody st) (defScope st) .none kV doc pm an cdv ct) ⟨us,[]⟩ = pure (ps.zip us)):Binds K fd ps []:=by
  obtain ⟨oc,od,kV,doc,pm,an,cdv,ct,osl,rfl,lk,hcd⟩:=F.ex
  exact .all (h kV doc pm an cdv ct)
theorem fun_mk {x qual:Str} {st:Stmt} {f:Addr} {oc:Value} {od an:Option Addr} {osl:Array (Option Value)} {kV doc pm cdv ct:Value} (l:K.lookup f = some ⟨oc,od,.func (PySem.W.fnOf x qual (defArgs st) (defBody st) (defScope st) .none kV doc pm an cdv ct),osl⟩)
    (c:PySem.W.codeIn K cdv qual = true) (k:PySem.W.keepIn K (.ref f) = true):Fun K x qual st f (PySem.W.fnOf x qual (defArgs st) (defBody st) (defScope st) .none kV doc pm an cdv ct):=⟨⟨oc,od,kV,doc,pm,an,cdv,ct,osl,rfl,l,c⟩,k⟩
end
theorem small1000 {n:Nat} (h:n ≤ 1000):n < sizeLine:=Nat.lt_of_le_of_lt h (by decide)
section
variable {X:Cx}
theorem pv (i:Nat) {x:Str} {pos:Pos} (hN:X.N[i]? = some x:=by rfl) (hv:Vis X.env.scope x:=by first | exact Or.inl rfl | exact Or.inr (Or.inl rfl) | exact Or.inr (Or.inr rfl)) (hd:(x == ("__debug__":Str)) = false:=by decide)
    (hcd:(x == ("__classdict__":Str)) = false:=by decide):PE X (.Name x pos) (tVar i):=pe_var hN hv hd hcd
end
theorem ite2 {c A B:Prop} [Decidable c] (h1:c → A) (h2 : ¬ c → B):if c then A else B:=by
  by_cases h:c
  · rw [if_pos h]
    exact h1 h
  · rw [if_neg h]
    exact h2 h
def Same (H H':Hp):Prop:=∀ b o,H b = some o → H' b = some o
theorem Same.refl (H:Hp):Same H H:=fun _ _ h => h
theorem Same.trans {H H1 H2:Hp} (a:Same H H1) (b:Same H1 H2):Same H H2:=fun c o h => b c o (a c o h)
inductive D where
  | non | bl (b:Bool) | int (i:Int) | str (x:Str) | tup (ds:List D) | lst (ds:List D) | dct | scr (φ:Addr → Prop) (ns:List Int) | ext (φ:Hp → Addr → Prop)
mutual
def Rep (H:Hp):D → V → Prop
  | .non,v => v = .non
  | .bl b,v => v = .bl b
  | .int i,v => v = .int i
  | .str x,v => v = .str x
  | .tup ds,v => ∃ a xs,v = .ref a ∧ H a = some (.tup xs) ∧ Reps H ds xs
  | .lst ds,v => ∃ a xs,v = .ref a ∧ H a = some (.lst xs) ∧ Reps H ds xs
  | .dct,v => ∃ a kvs,v = .ref a ∧ H a = some (.dK kvs)
  | .scr φ ns,v => ∃ a,v = .ref a ∧ ((∃ o,H a = some (.frz o (.lst (ns.map V.int)))) ∨ φ a)
  | .ext φ,v => ∃ a H0,v = .ref a ∧ Same H0 H ∧ φ H0 a
def Reps (H:Hp):List D → List V → Prop
  | [],xs => xs = []
  | d :: ds,xs => ∃ v vs,xs = v :: vs ∧ Rep H d v ∧ Reps H ds vs
end
theorem Reps.length {H:Hp}:∀ {ds:List D} {xs:List V},Reps H ds xs → xs.length = ds.length
  | [],xs,h => by rw [Reps] at h; subst h; rfl
  | d :: ds,xs,h => by
    rw [Reps] at h
    obtain ⟨v,vs,rfl,_,h2⟩:=h
    have:=Reps.length h2
    simp [this]
mutual
theorem Rep.mono {H H':Hp} (e:Same H H'):∀ (d:D) (v:V),Rep H d v → Rep H' d v
  | .non,v,h => by rw [Rep] at *; exact h
  | .bl b,v,h => by rw [Rep] at *; exact h
  | .int i,v,h => by rw [Rep] at *; exact h
  | .str x,v,h => by rw [Rep] at *; exact h
  | .tup ds,v,h => by
    rw [Rep] at *
    obtain ⟨a,xs,h1,h2,h3⟩:=h
    exact ⟨a,xs,h1,e _ _ h2,Reps.mono e ds xs h3⟩
  | .lst ds,v,h => by
    rw [Rep] at *
    obtain ⟨a,xs,h1,h2,h3⟩:=h
    exact ⟨a,xs,h1,e _ _ h2,Reps.mono e ds xs h3⟩
  | .dct,v,h => by
    rw [Rep] at *
    obtain ⟨a,kvs,h1,h2⟩:=h
    exact ⟨a,kvs,h1,e _ _ h2⟩
  | .scr φ ns,v,h => by
    rw [Rep] at *
    obtain ⟨a,h1,h2⟩:=h
    refine ⟨a,h1,?_⟩
    rcases h2 with ⟨o,h2⟩ | h2
    · exact .inl ⟨o,e _ _ h2⟩
    · exact .inr h2
  | .ext φ,v,h => by
    rw [Rep] at *
    obtain ⟨a,H0,h1,h2,h3⟩:=h
    exact ⟨a,H0,h1,fun b o q => e _ _ (h2 b o q),h3⟩
theorem Reps.mono {H H':Hp} (e:Same H H'):∀ (ds:List D) (xs:List V),Reps H ds xs → Reps H' ds xs
  | [],xs,h => by rw [Reps] at *; exact h
  | d :: ds,xs,h => by
    rw [Reps] at *
    obtain ⟨v,vs,h1,h2,h3⟩:=h
    exact ⟨v,vs,h1,Rep.mono e d v h2,Reps.mono e ds vs h3⟩
end
def D.ty:D → String
  | .non => "NoneType" | .bl _ => "bool" | .int _ => "int" | .str _ => "str" | .tup _ => "tuple" | .lst _ => "list" | .dct => "dict" | .scr _ _ => "list" | .ext _ => "object"
def D.isS:D → Bool
  | .scr _ _ => true
  | .ext _ => true
  | _ => false
theorem Rep.ty {K:PySem.W.Frag} {H:Hp} {d:D} {v:V} (h:Rep H d v) (hs:d.isS = false):TyOf K H v (.type d.ty):=by
  cases d with
  | non => rw [Rep] at h; subst h; exact .non
  | bl b => rw [Rep] at h; subst h; exact .bl b
  | int i => rw [Rep] at h; subst h; exact .int i
  | str x => rw [Rep] at h; subst h; exact .str x
  | tup ds => rw [Rep] at h; obtain ⟨a,xs,rfl,h2,_⟩:=h; exact .tup h2
  | lst ds => rw [Rep] at h; obtain ⟨a,xs,rfl,h2,_⟩:=h; exact .lst h2
  | dct => rw [Rep] at h; obtain ⟨a,kvs,rfl,h2⟩:=h; exact .dK h2
  | scr φ ns => cases hs
  | ext φ => cases hs
theorem rep_tup {H:Hp} {a:Addr} {xs:List V} {ds:List D} (h:H a = some (.tup xs)) (r:Reps H ds xs):Rep H (.tup ds) (.ref a):=by rw [Rep]; exact ⟨a,xs,rfl,h,r⟩
theorem rep_lst {H:Hp} {a:Addr} {xs:List V} {ds:List D} (h:H a = some (.lst xs)) (r:Reps H ds xs):Rep H (.lst ds) (.ref a):=by rw [Rep]; exact ⟨a,xs,rfl,h,r⟩
theorem reps_nil {H:Hp}:Reps H [] []:=by rw [Reps]
theorem reps_cons {H:Hp} {d:D} {v:V} {ds:List D} {vs:List V} (h:Rep H d v) (r:Reps H ds vs):Reps H (d :: ds) (v :: vs):=by rw [Reps]; exact ⟨v,vs,rfl,h,r⟩
theorem rep_int {H:Hp} (i:Int):Rep H (.int i) (.int i):=by rw [Rep]
theorem rep_bl {H:Hp} (i:Bool):Rep H (.bl i) (.bl i):=by rw [Rep]
theorem rep_str {H:Hp} (i:Str):Rep H (.str i) (.str i):=by rw [Rep]
theorem rep_non {H:Hp}:Rep H .non .non:=by rw [Rep]
theorem same_upd {H:Hp} {p:Addr} (h:H p = none) (o:HO):Same H (upd H p o):=fun b u q => by rw [upd_ne (ne_of_none q h)]; exact q
section
variable {X:Cx}
def isTy (d:D) (T:String):Option Bool:=if d.isS = true then none else if (Value.type d.ty == Value.type T) = true then some true else if PySem.W.kitMeta T = true then (fastBuiltinMro d.ty).map (·.contains (.type T)) else none
theorem isTy_kit (K:PySem.W.Frag) (d:D) (T:String) (hs:d.isS = false):PySem.W.kitOne K (.type d.ty) (.type T) = isTy d T:=by
  unfold isTy; rw [hs,if_neg (by decide)]; rfl
def rIsI:List V → Hp → VK → Prop:=fun xs H Q => ∃ x T d b,xs = [x,.ty T] ∧ Rep H d x ∧ isTy d T = some b ∧ Q (.bl b) H
theorem call_isinst:CallR X (.builtin "isinstance") rIsI:=by
  intro pins s σ H xs us Q I r h
  obtain ⟨x,T,d,b,rfl,hd,e,q⟩:=h
  obtain ⟨u,w',rfl,ru,rw'⟩:=vals2 r
  cases (show w' = Value.type T from rw')
  have hs:d.isS = false:=by
    cases z:d.isS with
    | false => rfl
    | true => unfold isTy at e; rw [z,if_pos rfl] at e; cases e
  rw [← isTy_kit X.K d T hs] at e
  exact isinst_ok I ru (hd.ty hs) e fun tk => ⟨.bl b,H,I.tok tk,rfl,q⟩
theorem op_isB:OpR X (compareOp .Is) (fun x y H Q => ∃ b c,x = .bl b ∧ y = .bl c ∧ Q (.bl (b == c)) H):=by
  intro pins s σ H x y v u Q I rx ry h
  obtain ⟨b,c,rfl,rfl,q⟩:=h
  cases rx; cases ry
  exact is_bool ⟨.bl _,H,I,rfl,q⟩
theorem op_isnotB:OpR X (compareOp .IsNot) (fun x y H Q => ∃ b c,x = .bl b ∧ y = .bl c ∧ Q (.bl (b != c)) H):=by
  intro pins s σ H x y v u Q I rx ry h
  obtain ⟨b,c,rfl,rfl,q⟩:=h
  cases rx; cases ry
  exact isnot_bool ⟨.bl _,H,I,rfl,q⟩
def Sm (i:Int):Prop:=i.natAbs < 2 ^ 8000
theorem Sm.log {i:Int} (h:Sm i):i.natAbs.log2 < 8000:=by
  by_cases h0:i.natAbs = 0
  · rw [h0]; decide
  · exact (Nat.log2_lt h0).mpr h
theorem Sm.bits {i:Int} (h:Sm i):Builtin.Int.intBits i ≤ 8000:=by
  unfold Builtin.Int.intBits
  split
  · exact Nat.zero_le _
  · have:=h.log; exact zo269 this
theorem Sm.mul {i j:Int} (h:Sm i) (h':Sm j):IntMulOk i j:=by
  have a:=h.bits
  have b:=h'.bits
  unfold IntMulOk Builtin.Int.intTooBig
  have e : ¬ ((Builtin.Int.intBits i:Int) + (Builtin.Int.intBits j:Int) > (bitsLine:Int)):=by
    have:bitsLine = 134217728:=by decide
    exact zo156 a b this
  rw [decide_eq_false e]
  simp
def CMulB (i j:Int):Prop:=Sm i ∧ Sm j
def CDivB (i j:Int):Prop:=0 < j ∧ Sm j
theorem op_mulB:OpR X (binaryOp .Mult) (rI CMulB fun i j => .int (i * j)):=opI fun _ _ _ _ _ _ _ hc q => mul_int q (hc.1.mul hc.2)
theorem op_fdivB:OpR X (binaryOp .FloorDiv) (rI CDivB fun i j => .int (i / j)):=opI fun i j _ _ _ _ _ hc q => by
  refine floordiv_int (Int.ne_of_gt hc.1) ?_ (.inl (PyProof.noPylong_of_log2 (Nat.lt_of_lt_of_le hc.2.log (by decide))))
  rw [Int.fdiv_eq_ediv_of_nonneg _ (Int.le_of_lt hc.1)]
  exact q
end
theorem bt_len:bootBuiltins "len" = some (.builtin "len"):=by decide +kernel
theorem bt_abs:bootBuiltins "abs" = some (.builtin "abs"):=by decide +kernel
theorem bt_max:bootBuiltins "max" = some (.builtin "max"):=by decide +kernel
theorem bt_min:bootBuiltins "min" = some (.builtin "min"):=by decide +kernel
theorem bt_isinstance:bootBuiltins "isinstance" = some (.builtin "isinstance"):=by decide +kernel
theorem bt_sum:bootBuiltins "sum" = some (.builtin "sum"):=by decide +kernel
theorem bt_sorted:bootBuiltins "sorted" = some (.builtin "sorted"):=by decide +kernel
theorem bt_int:bootBuiltins "int" = some (.type "int"):=by decide +kernel
theorem bt_bool:bootBuiltins "bool" = some (.type "bool"):=by decide +kernel
theorem bt_tuple:bootBuiltins "tuple" = some (.type "tuple"):=by decide +kernel
theorem bt_list:bootBuiltins "list" = some (.type "list"):=by decide +kernel
theorem bt_enumerate:bootBuiltins "enumerate" = some (.type "enumerate"):=by decide +kernel
theorem bt_zip:bootBuiltins "zip" = some (.type "zip"):=by decide +kernel
def gcdP (n b:Int):Int:=if b = 0 then n else (Int.gcd n b:Int)
theorem gcdP_step {n b:Int} (h : 0 < b):gcdP b (n % b) = gcdP n b:=by
  unfold gcdP
  have e:Int.gcd n b = Int.gcd b (n % b):=by
    rw [Int.emod_def,Int.gcd_sub_mul_left_right,Int.gcd_comm]
  rw [if_neg (show ¬ b = 0 by exact zo57 h)]
  split
  · rename_i h0
    rw [e,h0,Int.gcd_zero_right]
    (first|lia|omega)
  · rw [e]
theorem gcdP_pos {n b:Int} (h : 0 < b) : 0 < gcdP n b:=by
  unfold gcdP
  rw [if_neg (by exact zo57 h)]
  have : 0 < Int.gcd n b:=Int.gcd_pos_of_ne_zero_right _ (by exact zo31 h)
  exact zo18 this
theorem gcdP_le {n b:Int} (h : 0 < b):gcdP n b ≤ b:=by
  unfold gcdP
  rw [if_neg (by exact zo57 h)]
  exact Int.le_of_dvd h (Int.gcd_dvd_right ..)
theorem gcdP_dl {n b:Int} (h : 0 < b):gcdP n b ∣ n:=by
  unfold gcdP
  rw [if_neg (by exact zo57 h)]
  exact Int.gcd_dvd_left ..
theorem gcdP_dr {n b:Int} (h : 0 < b):gcdP n b ∣ b:=by
  unfold gcdP
  rw [if_neg (by exact zo57 h)]
  exact Int.gcd_dvd_right ..
section
variable {X:Cx} {pins:List (Addr × Obj)} {σ:St} {H:Hp} {s:Shared} {pos:Pos}
theorem Inv.big (I:Inv X pins σ H s):sysModules < s.heap.objs.size:=by
  obtain ⟨o,es,ep,e,_⟩:=I.ok.mod.glob
  have h1:=Heap.lt_size (I.bk _ _ e)
  exact Nat.lt_of_le_of_lt (by decide) h1
theorem dk_empty {P:Program} {w:World} {H:Hp} (h:Heap) (hb:sysModules < h.objs.size):ObjOk P w H (h.push { cls:=.type "dict",data:=.dict #[] }) h.objs.size (.dK []) :=
  ⟨Nat.zero_le _,beq_eq_false_iff_ne.mpr (Ne.symm (Nat.ne_of_lt hb)),[],.nil,Heap.DictOf.new h⟩
def tDNewK:TE:=fun _ H Q => ∀ p,H p = none → Q (.ref p) (upd H p (.dK []))
theorem pe_dnewK:PE X (.Dict [] [] pos) tDNewK:=⟨fun pins s σ H Q I h =>
  wpAny_Dict_empty ⟨.ref s.heap.objs.size,_,I.laid (a:=s.heap.objs.size) (o:=.dK []) (t':=s.toks) (fun _ _ q => Heap.get?_push_of_some _ q) (Nat.le_refl _) (dk_empty s.heap I.big),rfl,h _ (I.hok.fresh (Nat.le_refl _))⟩⟩
end
end L2
namespace L2
open PySem
theorem sm_of {i:Int} {n:Nat} (h:i.natAbs ≤ n) (hn:n < 2 ^ 8000):Sm i:=Nat.lt_of_le_of_lt h hn
end L2
namespace L2
open PySem PySem.Spec PyProof.Rows
def CL (env:Env):List (Str × Addr) → Prop
  | [] => True
  | p :: r => env.cells.lookup p.1 = some p.2 ∧ CL env r
theorem CL.get {env:Env}:∀ {cl:List (Str × Addr)},CL env cl → ∀ {x:Str} {c:Addr},cl.lookup x = some c → env.cells.lookup x = some c
  | [],_,x,c,h => by simp at h
  | (y,d) :: r,h,x,c,e => by
    rw [List.lookup_cons] at e
    cases hx:x == y with
    | true =>
      rw [hx] at e
      have e1:x = y:=by simpa using hx
      have e2:d = c:=Option.some.inj e
      subst e1 e2
      exact h.1
    | false =>
      rw [hx] at e
      exact CL.get h.2 e
theorem lookup_relabel {env:Env}:∀ {names:List (Str × NameKind)} {x:Str} {k:NameKind},
    (names.map fun (n,k) => if (k == NameKind.free && env.scope.kind == .function && env.kindOf n == some .cell) then (n,NameKind.cell) else (n,k)).lookup x = some k →
    ∃ k',names.lookup x = some k' ∧ (k' = k ∨ (k' = .free ∧ k = .cell))
  | [],x,k,h => by simp at h
  | (n,kn) :: r,x,k,h => by
    have ih:=@lookup_relabel env r x k
    by_cases hc:(kn == NameKind.free && env.scope.kind == .function && env.kindOf n == some .cell) = true
    · have h':List.lookup x ((n,NameKind.cell) :: (r.map fun (n,k) => if (k == NameKind.free && env.scope.kind == .function && env.kindOf n == some .cell) then (n,NameKind.cell) else (n,k))) = some k:=by
        rw [List.map_cons] at h
        simp only [hc,if_true] at h
        exact h
      rw [List.lookup_cons] at h' ⊢
      cases hx:x == n with
      | true =>
        rw [hx] at h'
        have:kn = .free:=by
          simp only [Bool.and_eq_true,beq_iff_eq] at hc
          exact hc.1.1
        exact ⟨kn,rfl,.inr ⟨this,(Option.some.inj h').symm⟩⟩
      | false => rw [hx] at h'; exact ih h'
    · have h':List.lookup x ((n,kn) :: (r.map fun (n,k) => if (k == NameKind.free && env.scope.kind == .function && env.kindOf n == some .cell) then (n,NameKind.cell) else (n,k))) = some k:=by
        rw [List.map_cons] at h
        simp only [hc] at h
        exact h
      rw [List.lookup_cons] at h' ⊢
      cases hx:x == n with
      | true => rw [hx] at h'; exact ⟨kn,rfl,.inl (Option.some.inj h')⟩
      | false => rw [hx] at h'; exact ih h'
def compCx (X:Cx) (scope:Scope) (cl:List (Str × Addr)) (N:List Str) (C:Addr) (s₀:Shared) (H₀:Hp) (ex:List Addr):Cx where
  prog:=X.prog
  w:=X.w
  K:=X.K
  mg:=X.mg
  base:=X.base
  A:=X.A
  N:=N
  s₀:=s₀
  H₀:=H₀
  env:=compEnvC scope cl C X.env
  outer:=X.stack
  stack:=X.stack
  ex:=ex
  fn:=fun _ => false
  calm:=X.calm
  pn:=[]
  xe:=fun _ _ => False
def okJ (X:Cx) (scope:Scope) (j:Nat):Bool:=match X.N[j]? with
  | some x => (match X.env.scope.names.lookup x with | some .cell => true | _ => false) && (match scope.names.lookup x with | some .free => true | _ => false)
  | none => false
def sig0 (own:List Str) (js:List Nat) (σ:St):St:=own.map (fun _ => none) ++ js.map fun j => (σ[j]?).getD none
def nam0 (X:Cx) (own:List Str) (js:List Nat):List Str:=own ++ js.map fun j => (X.N[j]?).getD (Str.ofString "")
structure CompOk (X:Cx) (scope:Scope) (cl:List (Str × Addr)) (own:List Str) (js:List Nat):Prop where
  clos:closureFor scope X.env = pure cl
  kind:scope.kind = .function
  names:∀ x ∈ scope.names,x.2 = .local → scope.names.lookup x.1 = some .local
  ncell:(scope.names.all fun y => match y.2 with | .cell => false | _ => true) = true
  has:(scope.names.all fun y => match y.2 with | .free => (cl.lookup y.1).isSome | _ => true) = true
  cells:CL X.env cl
  js:js.all (okJ X scope) = true
theorem CompOk.nc {X:Cx} {scope:Scope} {cl:List (Str × Addr)} {own:List Str} {js:List Nat} (c:CompOk X scope cl own js):∀ y ∈ scope.names,y.2 ≠ .cell:=fun y hy e => by
  have:=List.all_eq_true.mp c.ncell y hy
  rw [e] at this
  cases this
theorem CompOk.fr {X:Cx} {scope:Scope} {cl:List (Str × Addr)} {own:List Str} {js:List Nat} (c:CompOk X scope cl own js) {x:Str} (h:scope.names.lookup x = some .free):∃ d,cl.lookup x = some d:=by
  have:=List.all_eq_true.mp c.has (x,.free) (PySem.mem_of_lookup h)
  exact Option.isSome_iff_exists.mp this
section
variable {X:Cx} {pins:List (Addr × Obj)} {σ:St} {H:Hp} {s:Shared} {scope:Scope} {cl:List (Str × Addr)} {own:List Str} {js:List Nat}
theorem comp_start {h1:Heap} {C:Addr} {fp:List Addr} {t':Nat} (c:CompOk X scope cl own js) (I:Inv X pins σ H s) (hf:∀ b ∈ fp,FpOk X pins H b) (hlt:∀ b ∈ fp,b < s.heap.objs.size)
    (hC:s.heap.objs.size ≤ C) (hk:∀ b o,s.heap.get? b = some o → h1.get? b = some o) (hn:h1.Ns C fun _ => none) :
    Inv (compCx X scope cl (nam0 X own js) C s H fp) [] (sig0 own js σ) H { s with heap:=h1,toks:=t' }:=by
  have kindOfY:∀ x k,(compCx X scope cl (nam0 X own js) C s H fp).env.kindOf x = some k → ∃ k',scope.names.lookup x = some k' ∧ (k' = k ∨ (k' = .free ∧ k = .cell)):=fun x k e => lookup_relabel (env:=X.env) (names:=scope.names) e
  refine ⟨⟨I.ok.mod,c.kind,I.ok.glob,I.ok.blt,hC,fun x y d h1 h2 => I.ok.inj x y d (c.cells.get h1) (c.cells.get h2),fun x hx => ?_,fun x d h => (by cases h),I.ok.hd,I.ok.frames,.inl rfl,fun b hb => ⟨?_,fun x d e => (hf b hb).2.2.2.2.1 x d (c.cells.get e)⟩,
    fun b o e => I.bs b o e,Nat.le_trans I.ok.bsz I.sz,fun b o e hb => ?_,fun b hb z => ?_,I.stack,I.stkFree⟩,rfl,I.bare,Un.kept hk,⟨_,hn,fun i x v e1 e2 e3 => ?_⟩,fun x d e => ?_,I.hok.fresh hC,fun x d e => I.freeC x d (c.cells.get e),fun p hp => (by cases hp),I.hok.kept hk,?_⟩
  · rcases hx with hx | hx
    · obtain ⟨k',e1,e2⟩:=kindOfY x _ hx
      rcases e2 with e2 | ⟨e2,_⟩
      · exact absurd e2 (c.nc _ (PySem.mem_of_lookup e1))
      · subst e2; exact c.fr e1
    · obtain ⟨k',e1,e2⟩:=kindOfY x _ hx
      rcases e2 with e2 | ⟨_,e2⟩
      · subst e2; exact c.fr e1
      · cases e2
  · exact Nat.ne_of_lt (Nat.lt_of_lt_of_le (hlt b hb) hC)
  · rcases (hf b hb).2.2.2.1 with z | z
    · exact I.ok.noex b o e z
    · exact absurd (Nat.lt_of_lt_of_le (Heap.lt_size e) (Nat.le_trans I.ok.bsz z)) (Nat.lt_irrefl _)
  · rcases List.mem_cons.mp (I.stkSub b z) with q | q
    · exact (hf b hb).2.1 q
    · exact (hf b hb).2.2.1 q
  · -- a name taken from the frame
    have e1:(nam0 X own js)[i]? = some x:=e1
    unfold nam0 at e1
    unfold sig0 at e2
    by_cases hi:i < own.length
    · rw [List.getElem?_append_left (by simpa using hi),List.getElem?_map,List.getElem?_eq_getElem hi] at e2
      cases e2
    · rw [List.getElem?_append_right (by simpa using Nat.not_lt.mp hi),List.getElem?_map,List.length_map] at e2
      rw [List.getElem?_append_right (Nat.not_lt.mp hi),List.getElem?_map] at e1
      cases ej:js[i - own.length]? with
      | none => rw [ej] at e2; cases e2
      | some j =>
        rw [ej] at e1 e2
        have hj:=List.all_eq_true.mp c.js j (List.mem_of_getElem? ej)
        unfold okJ at hj
        have e1':(X.N[j]?).getD (Str.ofString "") = x:=Option.some.inj e1
        have e2':(σ[j]?).getD none = some v:=Option.some.inj e2
        cases en:X.N[j]? with
        | none => rw [en] at hj; cases hj
        | some y =>
          rw [en] at hj e1'
          have e1'':y = x:=e1'
          subst e1''
          have hv : σ[j]? = some (some v):=by
            cases es : σ[j]? with
            | none => rw [es] at e2'; cases e2'
            | some ov => rw [es] at e2'; rw [show ov = some v from e2']
          dsimp only at hj
          rw [Bool.and_eq_true] at hj
          have k1:X.env.scope.names.lookup y = some .cell:=by
            have:=hj.1
            split at this
            · assumption
            · cases this
          have k2:scope.names.lookup y = some .free:=by
            have:=hj.2
            split at this
            · assumption
            · cases this
          obtain ⟨m,_,hl⟩:=I.loc
          obtain ⟨u,ru,l⟩:=hl j y v en hv (.inr (.inl k1))
          refine ⟨u,ru,?_⟩
          rcases l with ⟨l,_⟩ | ⟨_,d,ed,z⟩
          · rw [show X.env.kindOf y = some .cell from k1] at l; cases l
          · obtain ⟨d',ed'⟩:=c.fr k2
            have:=c.cells.get ed'
            rw [ed] at this
            cases this
            obtain ⟨o,ho,hd⟩:=z
            refine .inr ⟨?_,d,ed',⟨o,hk _ _ ho,hd⟩⟩
            have e3:(compCx X scope cl (nam0 X own js) C s H fp).env.scope.names.lookup y = some .local ∨ (compCx X scope cl (nam0 X own js) C s H fp).env.scope.names.lookup y = some .cell ∨ (compCx X scope cl (nam0 X own js) C s H fp).env.scope.names.lookup y = some .free:=e3
            rcases e3 with e3 | e3 | e3
            · obtain ⟨k',q1,q2⟩:=kindOfY y _ e3
              rw [k2] at q1
              cases q1
              rcases q2 with q2 | ⟨_,q2⟩ <;> cases q2
            · exact .inl e3
            · exact .inr e3
  · obtain ⟨v,o,ho,hd⟩:=I.cell x d (c.cells.get e)
    exact ⟨v,o,hk _ _ ho,hd⟩
  · show (sig0 own js σ).length = (nam0 X own js).length
    unfold sig0 nam0
    simp
structure PIf (X:Cx) (ifs:List Expr) (t:TT):Prop where
  go:∀ (pins:List (Addr × Obj)) (s:Shared) (σ:St) (H:Hp) (Q:Bool → Hp → Prop),Inv X pins σ H s → t σ H Q →
    wpAny (model X.prog X.w) X.A (forIn ifs true fun c r => if r = true then do let ok ← isTrue c X.env (eval c X.env); pure (ForInStep.yield ok) else pure (ForInStep.yield r)) (TP X pins σ Q) X.xe s
def tYes:TT:=fun _ H Q => Q true H
theorem pif_nil:PIf X [] tYes:=⟨fun pins s σ H Q I h => wpAny_tests_nil ⟨H,I,h⟩⟩
theorem codeAny_compLoop_go {prog:Program} {w:World} {A:Around} {R:Result → Shared → Prop} {s:Shared} {elt target iter:Expr} {ifs:List Expr} {scope:Scope} {pos:Pos} {it acc:Value} {env:Env} (I:Nat → Shared → Prop)
    (turn:∀ n s,I n s → wpAny (model prog w) A (pyNext it) (fun r s₁ => match r with
      | none => R (.ok .next) s₁
      | some v => wpAny (model prog w) A (letOwnedTupleGo target it v) (fun _ s₁ => wpAny (model prog w) A (assign target env v) (fun _ s₂ =>
          wpAny (model prog w) A (forIn ifs true fun c r => if r = true then do let ok ← isTrue c env (eval c env); pure (ForInStep.yield ok) else pure (ForInStep.yield r)) (fun ok s₃ =>
            if ok = true then wpAny (model prog w) A (eval elt env) (fun x s₄ =>
              wpAny (model prog w) A (call (.builtin "list.append") [acc,x]) (fun _ s₅ => ∃ m,m < n ∧ I m s₅) (fun _ _ => False) s₄) (fun _ _ => False) s₃
            else ∃ m,m < n ∧ I m s₃) (fun _ _ => False) s₂) (fun _ _ => False) s₁) (fun _ _ => False) s₁) (fun _ _ => False) s)
    (n:Nat) (h:I n s) :
    codeAny (model prog w) A (.compLoop (.ListComp elt [⟨target,iter,ifs,0⟩] scope pos) 0 it acc env) R s:=by
  refine codeAny_loop rfl I (fun n s hI => ?_) n h
  show wpAny _ A ((compTurn (.ListComp elt [⟨target,iter,ifs,0⟩] scope pos) 0 it acc env).onRaise (fun x => do noteFrame x env; theTreesLotGoes x)) _ _ s
  refine wpAny_noted ?_
  rw [compTurn_list]
  refine wpAny_bind (wpAny_standAt (wpAny_bind (wpAny_mono (turn n s hI) (fun r s₁ h₁ => ?_) fun _ _ h' => h'.elim)))
  cases r with
  | none => exact wpAny_pure h₁
  | some v =>
    refine wpAny_bind (wpAny_mono h₁ (fun _ s₁ h₁ => ?_) fun _ _ h' => h'.elim)
    refine wpAny_bind (wpAny_mono h₁ (fun _ s₂ h₂ => wpAny_bind (wpAny_mono h₂ (fun ok s₃ h₃ => ?_) fun _ _ h' => h'.elim)) fun _ _ h' => h'.elim)
    cases ok with
    | false => exact wpAny_pure ⟨rfl,h₃⟩
    | true =>
      exact wpAny_bind (wpAny_bind (wpAny_mono h₃ (fun x s₄ h₄ => wpAny_bind (wpAny_mono h₄ (fun _ s₅ h₅ => wpAny_pure (wpAny_pure ⟨rfl,h₅⟩)) fun _ _ h' => h'.elim)) fun _ _ h' => h'.elim))
def kept:St → St → Prop
  | [],[] => True
  | none :: r,_ :: r' => kept r r'
  | some v :: r,y :: r' => y = some v ∧ kept r r'
  | [],_ :: _ => False
  | _ :: _,[] => False
theorem kept_len:∀ {a b:St},kept a b → a.length = b.length
  | [],[],_ => rfl
  | none :: r,_ :: r',h => congrArg (· + 1) (kept_len (a:=r) (b:=r') h)
  | some v :: r,y :: r',h => congrArg (· + 1) (kept_len (a:=r) (b:=r') h.2)
  | [],_ :: _,h => False.elim h
  | none :: _,[],h => False.elim h
  | some _ :: _,[],h => False.elim h
theorem kept_get:∀ {a b:St},kept a b → ∀ (i:Nat) (v:V),a[i]? = some (some v) → b[i]? = some (some v)
  | [],[],_,i,v,e => by simp at e
  | none :: r,_ :: r',h,0,v,e => by simp at e
  | none :: r,_ :: r',h,i + 1,v,e => by simpa using kept_get (a:=r) (b:=r') h i v (by simpa using e)
  | some w :: r,y :: r',h,0,v,e => by simp at e; subst e; simp [h.1]
  | some w :: r,y :: r',h,i + 1,v,e => by simpa using kept_get (a:=r) (b:=r') h.2 i v (by simpa using e)
  | [],_ :: _,h,_,_,_ => False.elim h
  | none :: _,[],h,_,_,_ => False.elim h
  | some _ :: _,[],h,_,_,_ => False.elim h
def CompW (J:It) (g:TG) (tt:TT) (te:TE) (σ0:St) (H:Hp) (Z:List V → Hp → Prop):Prop :=
  ∃ W:Nat → Nat → List V → Hp → Prop,(∃ m,W 0 m [] H) ∧ ∀ i m acc H,W i m acc H →
    (J.stop i H ∧ acc.length ≤ sizeLine ∧ Z acc H) ∨ (J.go i H ∧ acc.length < sizeLine ∧ ∃ N:List V → Hp → Prop,(∀ acc' H',N acc' H' → ∃ m',m' < m ∧ W (i + 1) m' acc' H') ∧
      ∀ x H',J.yld i H x H' → g x σ0 H' fun σ2 H2 => kept σ0 σ2 ∧ tt σ2 H2 fun b H3 => if b = true then te σ2 H3 fun v H4 => N (acc ++ [v]) H4 else N acc H3)
theorem HOk.adopt {P:Program} {w:World} {H:Hp} {h:Heap} {a:Addr} {o:HO} (x:HOk P w H h) (hn:H a = none) (new:ObjOk P w (upd H a o) h a o):HOk P w (upd H a o) h:=fun b u e => by
  by_cases hb:b = a
  · subst hb; rw [upd_same] at e; cases e; exact new
  · rw [upd_ne hb] at e
    exact (x b u e).stay (fun c v _ q => q) (fun c q => by rw [upd_ne (ne_of_none q hn)]; exact q) fun c xs q => by rw [upd_ne (ne_of_none q hn)]; exact q
theorem comp_core {elt tg iter:Expr} {ifs:List Expr} {pos:Pos} {J:It} {fp:List Addr} {it:Addr} {tn:Nat → Heap → Prop} {g:TG} {tt:TT} {te:TE} {Z:List V → Hp → Prop} {E:Value → Shared → Prop}
    {RR:Value → Addr → Result → Shared → Prop} (c:CompOk X scope cl own js) (hc:X.calm = true) (I:Inv X pins σ H s) (T:Turn X.prog X.w X.K tg J fp it tn) (t0:tn 0 s.heap) (hf:∀ b ∈ fp,FpOk X pins H b)
    (inner:∀ (C:Addr) (s₀:Shared) (H₀:Hp) (ex:List Addr),PG (compCx X scope cl (nam0 X own js) C s₀ H₀ ex) tg g ∧ PIf (compCx X scope cl (nam0 X own js) C s₀ H₀ ex) ifs tt ∧ PE (compCx X scope cl (nam0 X own js) C s₀ H₀ ex) elt te)
    (hW:CompW J g tt te (sig0 own js σ) H Z)
    (hRR:∀ (D C:Addr) (s':Shared) (acc:List V) (H':Hp),(∃ m,s'.heap.Ns C m) → H' D = none → Z acc H' → s.heap.objs.size ≤ C → C ≠ X.env.locals → (upd H' D (.lst acc)) C = none → (∀ h',Heap.SameBut C s'.heap h' → Inv X pins σ (upd H' D (.lst acc)) { s' with heap:=h' }) → RR (.ref D) C (.ok .next) s') :
    wpAny (model X.prog X.w) X.A (newList []) (fun acc s₃ => wpAny (model X.prog X.w) X.A (newFunctionEnv scope X.env.globals cl [] X.env.qual none .none (some X.env)) (fun cenv s₄ =>
      codeAny (model X.prog X.w) X.A (.compStart (.ListComp elt [⟨tg,iter,ifs,0⟩] scope pos) 0 (.ref it) acc { cenv with scope:=relabel scope X.env }) (RR acc cenv.locals) s₄) E s₃) E s:=by
  refine wpAny_newObj_type (wpAny_newFunctionEnv c.nc (by intro y hy; simp at hy) (fun h₁ hns₁ hsb₁ => ?_) c.kind)
  dsimp only at hns₁ hsb₁ ⊢
  generalize hH2:s.heap.push { cls:=.type "list",dict:=none,data:=.seq ([]:List Value).toArray } = H2 at hns₁ hsb₁ ⊢
  have hCs:H2.objs.size = s.heap.objs.size + 1:=by rw [← hH2,Heap.size_push]
  have hns₁:h₁.Ns H2.objs.size (fun _ => none):=hns₁
  have hCle:s.heap.objs.size ≤ H2.objs.size:=by rw [hCs]; exact Nat.le_succ _
  have hDC:s.heap.objs.size ≠ H2.objs.size:=by rw [hCs]; exact Nat.ne_of_lt (Nat.lt_succ_self _)
  have below:∀ b,b < s.heap.objs.size → b ≠ H2.objs.size ∧ b ≠ s.heap.objs.size:=fun b hb => ⟨by rw [hCs]; exact Nat.ne_of_lt (Nat.lt_succ_of_lt hb),Nat.ne_of_lt hb⟩
  have old:∀ b o,s.heap.get? b = some o → h₁.get? b = some o:=fun b o e => hsb₁.extBut b o (below b (Heap.lt_size e)).1 (Heap.get?_push_of_some _ (hH2 ▸ Heap.get?_push_of_some _ e))
  have hD1:h₁.get? s.heap.objs.size = some { cls:=.type "list",data:=.seq ([]:List Value).toArray }:=hsb₁.extBut _ _ hDC (Heap.get?_push_of_some _ (hH2 ▸ Heap.get?_push_size _ rfl))
  have hlt:∀ b ∈ fp,b < s.heap.objs.size:=fun b hb => by
    obtain ⟨o,e,_⟩:=T.obj 0 _ t0 b hb
    exact Heap.lt_size e
  have hCL:H2.objs.size ≠ X.env.locals:=fun z => absurd (Nat.lt_of_lt_of_le I.lt (by rw [← z]; exact hCle)) (Nat.lt_irrefl _)
  have hDfs:s.heap.objs.size ∉ frs X.stack:=fun z => by
    rcases List.mem_cons.mp (I.stkSub _ z) with q | q
    · exact absurd I.lt (by rw [← q]; exact Nat.lt_irrefl _)
    · exact I.nofs (Nat.le_refl _) q
  have hfs:∀ b ∈ fp,b ∉ frs X.stack:=fun b hb z => by
    rcases List.mem_cons.mp (I.stkSub b z) with q | q
    · exact (hf b hb).2.1 q
    · exact (hf b hb).2.2.1 q
  have hDcell:∀ x d,cl.lookup x = some d → d ≠ s.heap.objs.size:=fun x d e => by
    obtain ⟨v,q⟩:=I.cell x d (c.cells.get e)
    exact Nat.ne_of_lt q.lt
  have fresh:H s.heap.objs.size = none:=I.hok.fresh (Nat.le_refl _)
  obtain ⟨W,⟨m0,w0⟩,turn⟩:=hW
  have loop:∀ s₃:Shared,s₃ = { s with heap:=h₁,toks:=s.toks + ([]:List (Str × Value)).length } →
      codeAny (model X.prog X.w) X.A (.compLoop (.ListComp elt [⟨tg,iter,ifs,0⟩] scope pos) 0 (.ref it) (.ref s.heap.objs.size) (compEnvC scope cl H2.objs.size X.env)) (RR (.ref s.heap.objs.size) H2.objs.size) s₃:=by
    rintro s₃ rfl
    have I0:=comp_start (t':=s.toks + ([]:List (Str × Value)).length) c I hf hlt hCle old hns₁
    obtain ⟨hg,hi,he⟩:=inner H2.objs.size s H fp
    generalize hY:compCx X scope cl (nam0 X own js) H2.objs.size s H fp = Y at I0 hg hi he
    have Yp:Y.prog = X.prog:=by rw [← hY]; rfl
    have Yw:Y.w = X.w:=by rw [← hY]; rfl
    have YK:Y.K = X.K:=by rw [← hY]; rfl
    have YA:Y.A = X.A:=by rw [← hY]; rfl
    have Ye:Y.env = compEnvC scope cl H2.objs.size X.env:=by rw [← hY]; rfl
    have Yl:Y.env.locals = H2.objs.size:=by rw [← hY]; rfl
    have Yc:Y.env.cells = cl:=by rw [← hY]; rfl
    have Yf:Y.fs = frs X.stack:=by rw [← hY]; rfl
    have Yx:Y.ex = fp:=by rw [← hY]; rfl
    have Ys:Y.s₀ = s:=by rw [← hY]; rfl
    have YH:Y.H₀ = H:=by rw [← hY]; rfl
    have Yn:Y.pn = []:=by rw [← hY]; rfl
    have Yo:Y.calm = true:=by rw [← hY]; exact hc
    have YE:Y.xe = fun _ _ => False:=by rw [← hY]; rfl
    have fpY:∀ {H':Hp} (pn:List (Addr × Obj)),(∀ b ∈ fp,H' b = none) → (∀ b ∈ fp,∀ p ∈ pn,p.1 ≠ b) → ∀ b ∈ fp,FpOk Y pn H' b:=fun pn hn hp b hb =>
      ⟨hn b hb,by rw [Yl]; exact (below b (hlt b hb)).1,by rw [Yf]; exact hfs b hb,.inl (by rw [Yx]; exact hb),fun x d e => (hf b hb).2.2.2.2.1 x d (c.cells.get (by rw [← Yc]; exact e)),fun p hp' => hp b hb p (by rw [Yn] at hp'; exact hp')⟩
    refine codeAny_compLoop_go (fun n s' => ∃ i acc its k H',Inv Y [] (sig0 own js σ) H' s' ∧ tn i s'.heap ∧ (∀ b ∈ fp,H' b = none) ∧ W i n acc H' ∧ H' s.heap.objs.size = none ∧ s'.heap.get? s.heap.objs.size = some { cls:=.type "list",data:=.seq (its:List Value).toArray k } ∧ Vals acc its) ?_ m0
      ⟨0,[],[],0,H,I0,T.keep 0 _ _ t0 (fun b hb o e => old b o e),fun b hb => (hf b hb).1,w0,fresh,hD1,.nil⟩
    rintro n s' ⟨i,acc,its,k,H',I',tn',fr',w',hD',oD',hv'⟩
    have hpinD:∀ b ∈ fp,∀ p ∈ [(s.heap.objs.size,({ cls:=.type "list",data:=.seq its.toArray k }:Obj))],p.1 ≠ b:=fun b hb p hp => by
      rw [List.mem_singleton] at hp
      subst hp
      exact fun z => (below b (hlt b hb)).2 z.symm
    have ID:Inv Y [(s.heap.objs.size,({ cls:=.type "list",data:=.seq its.toArray k }:Obj))] (sig0 own js σ) H' s':=I'.pins_of fun p hp => by
      rw [List.mem_singleton] at hp
      subst hp
      exact ⟨oD',hD',by rw [Yl]; exact hDC,by rw [Yf]; exact hDfs,fun v z => by cases z⟩
    rcases turn i n acc H' w' with ⟨stop,hlen,hz⟩ | ⟨go,hlen,N,hN,step⟩
    · have hd:=T.done Y Yp Yw YK Yo i _ s' (sig0 own js σ) H' (fun _ _ => False) ID (fpY _ fr' hpinD) tn' stop
      rw [YA] at hd
      refine thn hd fun r s1 ⟨hr,I1⟩ => ?_
      subst hr
      obtain ⟨oD1,_⟩:=I1.pin _ (List.mem_append_right _ (List.mem_singleton.mpr rfl))
      have hC0:H' H2.objs.size = none:=by have:=I1.free; rw [Yl] at this; exact this
      have B1:Un (frs X.stack) fp H H' s.heap s1.heap:=by have:=I1.base; rw [Yf,Yx,YH,Ys] at this; exact this
      refine hRR s.heap.objs.size H2.objs.size s1 acc H' (by obtain ⟨m,hn,_⟩:=I1.loc; rw [Yl] at hn; exact ⟨m,hn⟩) hD' hz hCle hCL (by rw [upd_ne (Ne.symm hDC)]; exact hC0) fun h' hsb => ?_
      have at':∀ b o,b ≠ H2.objs.size → s1.heap.get? b = some o → h'.get? b = some o:=fun b o hb e => by rw [hsb.2 b hb]; exact e
      refine I.call' (s':={ s1 with heap:=h' }) (ch:=fp) (by have:=I1.os; rw [Ys] at this; exact this) ⟨fun b o q nn hb hx => ?_,fun b o q nn hb hx => ?_,fun b o q nn hx => ?_,fun b o q hx => ?_,fun b xs q => ?_,fun b o u q => ?_,fun b ps q => ?_⟩ ?_ I1.bare fun b hb => ⟨(hf b hb).2.2.2.1,(hf b hb).2.1,(hf b hb).2.2.2.2.1,(hf b hb).2.2.2.2.2⟩
      · exact at' b o (below b (Heap.lt_size q)).1 (B1.keep b o q nn hb hx)
      · obtain ⟨sl,e⟩:=B1.slot b o q nn hb hx
        exact ⟨sl,at' b _ (below b (Heap.lt_size q)).1 e⟩
      · rw [upd_ne (below b (Heap.lt_size q)).2]; exact B1.free b o q nn hx
      · obtain ⟨o',e⟩:=B1.there b o q hx
        exact ⟨o',at' b _ (below b (Heap.lt_size q)).1 e⟩
      · have q':=B1.tups b xs q
        rw [upd_ne (ne_of_none q' hD')]; exact q'
      · have q':=B1.frzs b o u q
        rw [upd_ne (ne_of_none q' hD')]; exact q'
      · obtain ⟨more,q'⟩:=B1.tbls b ps q
        exact ⟨more,by rw [upd_ne (ne_of_none q' hD')]; exact q'⟩
      · have hok1:HOk X.prog X.w H' h':=fun a o e => by
          have hok:=I1.hok
          rw [Yp,Yw] at hok
          refine (hok a o e).stay (fun b u hb q => at' b u ?_ q) (fun _ q => q) fun _ _ q => q
          rcases hb with rfl | hb
          · exact ne_of_none e hC0
          · exact ne_of_none hb hC0
        exact hok1.adopt hD' ⟨hlen,its,k,hv',at' _ _ hDC oD1⟩
    · have hd:=T.item Y Yp Yw YK Yo i _ s' (sig0 own js σ) H' (fun _ _ => False) ID (fpY _ fr' hpinD) tn' go
      rw [YA] at hd
      refine thn hd fun r s1 ⟨u,hr,h4⟩ => ?_
      subst hr
      have h4:=h4
      refine thn h4 fun _ s2 ⟨x,H5,I5,r5,y5,tn5,fr5⟩ => ?_
      have I5':=I5.pinned (fpY _ fr5 hpinD) (T.obj _ _ tn5)
      have hg':=hg.go _ s2 _ H5 x u _ I5' r5 (step x H5 y5)
      rw [Yp,Yw,YA,Ye,YE] at hg'
      refine thn hg' fun _ s3 ⟨σ6,H6,I6,kp6,q6⟩ => ?_
      have hi':=hi.go _ s3 σ6 H6 _ I6 q6
      rw [Yp,Yw,YA,Ye,YE] at hi'
      refine thn hi' fun ok s4 ⟨H7,I7,q7⟩ => ?_
      cases ok with
      | false =>
        rw [if_neg Bool.false_ne_true] at q7 ⊢
        obtain ⟨m',hm,w7⟩:=hN _ _ q7
        obtain ⟨oD7,hD7,_⟩:=I7.pin _ (List.mem_append_right _ (List.mem_append_left _ (List.mem_singleton.mpr rfl)))
        refine ⟨m',hm,i + 1,acc,its,k,H7,(I7.pins_of (pins':=[]) fun p hp => (by cases hp)).weak (kept_len kp6) (kept_get kp6),T.keep _ _ _ tn5 fun b hb o e => (I7.pin (b,o) (List.mem_append_right _ (List.mem_append_right _ (mem_pinsAt hb e)))).1,fun b hb => ?_,w7,hD7,oD7,hv'⟩
        obtain ⟨o,e,_⟩:=T.obj _ _ tn5 b hb
        exact (I7.pin (b,o) (List.mem_append_right _ (List.mem_append_right _ (mem_pinsAt hb e)))).2.1
      | true =>
        rw [if_pos rfl] at q7 ⊢
        have he':=he.go _ s4 σ6 H7 _ I7 q7
        rw [Yp,Yw,YA,Ye,YE] at he'
        refine thn he' fun v s5 ⟨xv,H8,I8,r8,n8⟩ => ?_
        obtain ⟨m',hm,w8⟩:=hN _ _ n8
        obtain ⟨oD8,hD8,_⟩:=I8.pin _ (List.mem_append_right _ (List.mem_append_left _ (List.mem_singleton.mpr rfl)))
        have hsz:its.toArray.size < sizeLine:=by rw [List.size_toArray,← hv'.length]; exact hlen
        refine call_meets F.slot_list_append ⟨_,oD8,rfl⟩ F.entry_list_append (F.args_list_append_2 _ _) (PySem.list_append s.heap.objs.size its.toArray k v (Nat.le_of_lt hsz)) ⟨oD8,?_⟩
        have q:=PySem.IsL.update oD8 (fun a => a.push v)
        have J8:Inv Y (pinsAt fp s2.heap) σ6 H8 s5:=I8.pins_of fun p hp => I8.pin p (List.mem_append_right _ (List.mem_append_right _ hp))
        have ne8:∀ b,b ∈ fp → b ≠ s.heap.objs.size:=fun b hb => (below b (hlt b hb)).2
        have J9:=J8.turned (t':=s5.toks) (h':=s5.heap.update s.heap.objs.size (Obj.mapSeq fun a => a.push v)) (it:=s.heap.objs.size) (fun b o hb e => (Heap.get?_update_other s5.heap _ (Ne.symm hb)).trans e) hD8 (by rw [Yl]; exact hDC) (.inr (by rw [Ys]; exact Nat.le_refl _)) (fun x d e => hDcell x d (by rw [← Yc]; exact e))
          (fun p hp => by
            rw [Yn,List.nil_append] at hp
            obtain ⟨hb,_⟩:=of_pinsAt hp
            exact ne8 _ hb)
        have keep9:∀ b o,b ∈ fp → s2.heap.get? b = some o → (s5.heap.update s.heap.objs.size (Obj.mapSeq fun a => a.push v)).get? b = some o:=fun b o hb e => (J9.pin (b,o) (List.mem_append_right _ (mem_pinsAt hb e))).1
        refine ⟨m',hm,i + 1,acc ++ [xv],its ++ [v],(if ((its ++ [v]).toArray.size == its.toArray.size) = true then k else k + 1),H8,(J9.pins_of (pins':=[]) fun p hp => (by cases hp)).weak (kept_len kp6) (kept_get kp6),T.keep _ _ _ tn5 fun b hb o e => keep9 b o hb e,fun b hb => ?_,w8,hD8,?_,hv'.append (.cons r8 .nil)⟩
        · obtain ⟨o,e,_⟩:=T.obj _ _ tn5 b hb
          exact (J9.pin (b,o) (List.mem_append_right _ (mem_pinsAt hb e))).2.1
        · have q':=q
          simp only [List.push_toArray] at q'
          exact q'
  exact codeAny_compStart_list (loop _ rfl) (T.self _ 0 _ _ _ (T.keep 0 _ _ t0 (fun b hb o e => old b o e)) (loop _ rfl))
def tComp (wi:TI) (g:TG) (tt:TT) (te:TE) (own:List Str) (js:List Nat):TE:=fun σ H Q => wi σ H fun J H1 => CompW J g tt te (sig0 own js σ) H1 fun acc H2 => ∀ p,H2 p = none → Q (.ref p) (upd H2 p (.lst acc))
theorem pe_comp {elt tg iter:Expr} {ifs:List Expr} {pos:Pos} {wi:TI} {g:TG} {tt:TT} {te:TE} (own:List Str) (js:List Nat) (c:CompOk X scope cl own js) (hc:X.calm = true) (hi:PI X tg iter wi)
    (inner:∀ (C:Addr) (s₀:Shared) (H₀:Hp) (ex:List Addr),PG (compCx X scope cl (nam0 X own js) C s₀ H₀ ex) tg g ∧ PIf (compCx X scope cl (nam0 X own js) C s₀ H₀ ex) ifs tt ∧ PE (compCx X scope cl (nam0 X own js) C s₀ H₀ ex) elt te)
    (hs:∀ x,foldedSetIterable iter X.env x = pure x:=by intro _; rfl):PE X (.ListComp elt [⟨tg,iter,ifs,0⟩] scope pos) (tComp wi g tt te own js):=by
  refine ⟨fun pins s σ H Q I h => ?_⟩
  rw [eval_ListComp]
  refine wpAny_comprehension_free (use:=none) rfl hs c.clos c.kind c.names (thn (hi.go pins s σ H _ I h) fun v s1 h1 => thn h1 fun itv s2 h2 => ?_)
  obtain ⟨it,fp,tn,J,H2,e,I2,T,st2,f2,hW⟩:=h2
  subst e
  refine comp_core (RR:=fun acc C => compPost (model X.prog X.w) X.A X.xe none (EP X pins σ Q) acc C) c hc I2 T st2 f2 inner hW ?_
  intro D C s' acc H' hn hD hz hDC hCL hUC hI
  exact ⟨hn.choose,hn.choose_spec,fun h' hsb => ⟨.ref D,_,hI h' hsb,rfl,hz D hD⟩⟩
theorem ps_setComp {elt tg iter:Expr} {ifs:List Expr} {pos spos py:Pos} {wi:TI} {g:TG} {tt:TT} {te:TE} {i:Nat} {y:Str} (own:List Str) (js:List Nat) (c:CompOk X scope cl own js) (hc:X.calm = true) (hN:X.N.Nodup) (hy:X.N[i]? = some y) (hx:Loc X.env.scope y) (hi:PI X tg iter wi)
    (inner:∀ (C:Addr) (s₀:Shared) (H₀:Hp) (ex:List Addr),PG (compCx X scope cl (nam0 X own js) C s₀ H₀ ex) tg g ∧ PIf (compCx X scope cl (nam0 X own js) C s₀ H₀ ex) ifs tt ∧ PE (compCx X scope cl (nam0 X own js) C s₀ H₀ ex) elt te)
    (hsw:swapsWith (.ListComp elt [⟨tg,iter,ifs,0⟩] scope pos) (some (.Name y py)) spos.line X.env = pure true:=by rfl)
    (hs:∀ x,foldedSetIterable iter X.env x = pure x:=by intro _; rfl) (hf:X.fn y = true ∨ X.env.scope.names.lookup y = some .local:=by first | exact .inl rfl | exact .inr rfl | assumption) :
    PS X (.Assign [.Name y py] (.ListComp elt [⟨tg,iter,ifs,0⟩] scope pos) spos) (tAsg (tComp wi g tt te own js) (gName i)):=by
  refine ⟨fun pins s σ H D I h => ?_⟩
  rw [exec_Assign_Name_used _ _ _ _ hsw]
  refine wpAny_bind (wpAny_standAt (wpAny_bind ?_))
  show wpAny _ X.A (do let _ ← comprehension (.ListComp elt [⟨tg,iter,ifs,0⟩] scope pos) scope X.env _ (newList []) false (eval iter X.env) (some (assign (.Name y py) X.env))) _ _ s
  refine wpAny_bind (wpAny_mono (wpAny_comprehension_free (use:=some (assign (.Name y py) X.env)) (Q:=fun _ s' => SP X pins D .next s') rfl hs c.clos c.kind c.names
    (thn (hi.go pins s σ H _ I h) fun v s1 h1 => thn h1 fun itv s2 h2 => ?_)) (fun _ s' hq => wpAny_pure (wpAny_pure hq)) fun _ _ e => e)
  obtain ⟨it,fp,tn,J,H2,e,I2,T,st2,f2,hW⟩:=h2
  subst e
  refine comp_core (RR:=fun acc C => compPost (model X.prog X.w) X.A X.xe (some (assign (.Name y py) X.env)) (fun _ s' => SP X pins D .next s') acc C) c hc I2 T st2 f2 inner hW ?_
  intro D' C s' acc H' hn hD hz hDC hCL hUC hI
  show wpAny _ X.A (assign (.Name y py) X.env (.ref D')) _ _ _
  have I9:=hI s'.heap (Heap.SameBut.refl _ _)
  obtain ⟨m,hm⟩:=hn
  refine wpAny_assign_Name (store_ok2 (v:=.ref D') I9 hN hy hx rfl (fun s'' I'' ⟨a,sb,ha⟩ => ?_) hf)
  have aC:C ≠ a:=by
    rcases ha with ha | ha
    · rw [ha]; exact hCL
    · intro z
      subst z
      obtain ⟨v,q⟩:=I2.cell y C ha
      exact absurd (Nat.lt_of_lt_of_le q.lt hDC) (Nat.lt_irrefl _)
  refine ⟨m,hm.sameBut sb aC,fun h' hsb => ?_⟩
  refine ⟨σ.set i (some (.ref D')),upd H' D' (.lst acc),I''.turned (t':=s''.toks) (it:=C) (fun b o hb e => by rw [hsb.2 b hb]; exact e) ?_ hCL (.inr (Nat.le_trans I2.sz hDC)) (fun x d e z => ?_) (fun p hp z => ?_),hz D' hD⟩
  · exact hUC
  · obtain ⟨v,q⟩:=I2.cell x d e
    rw [z] at q
    exact absurd (Nat.lt_of_lt_of_le q.lt hDC) (Nat.lt_irrefl _)
  · have q:=Heap.lt_size (I2.pin p hp).1
    rw [z] at q
    exact absurd (Nat.lt_of_lt_of_le q hDC) (Nat.lt_irrefl _)
end
def Ite (a:Addr):It :=
  ⟨fun i H => ∃ xs x,H a = some (.lst xs) ∧ xs[i]? = some x,fun i H v H' => ∃ p x,H p = none ∧ v = .ref p ∧ H' = upd H p (.tup [.int i,x]) ∧ ∀ xs,H a = some (.lst xs) → xs[i]? = some x,fun i H => ∃ xs,H a = some (.lst xs) ∧ xs.length ≤ i⟩
theorem turn_enum {P:Program} {w:World} {K:PySem.W.Frag} {es:List Expr} {k:Nat} {pos:Pos} (a e it:Addr) (hne:e ≠ it) :
    Turn P w K (.Tuple es k pos) (Ite a) [e,it] e (fun i h => (∃ old,IsEnum h e it i old) ∧ h.IsListIter it a i) where
  mem:=by simp
  obj:=fun i h st b hb => by
    rw [List.mem_cons,List.mem_singleton] at hb
    rcases hb with rfl | rfl
    · obtain ⟨⟨old,q⟩,_⟩:=st
      exact ⟨_,q,fun v z => by cases z⟩
    · obtain ⟨_,o,q,c,d⟩:=st
      exact ⟨o,q,fun v z => by rw [d] at z; cases z⟩
  keep:=fun i h h' st kp => ⟨by obtain ⟨old,q⟩:=st.1; exact ⟨old,kp e (by simp) _ q⟩,st.2.at fun o q => kp it (by simp) o q⟩
  item:=by
    intro X hP hw hK hc i pins s σ H E I hf st hg
    subst hP hw hK
    obtain ⟨xs,x,hq,hx⟩:=hg
    obtain ⟨⟨old,he⟩,hit⟩:=st
    obtain ⟨its,rv,p,hz⟩:=I.list (SqL.of hq)
    obtain ⟨u,hu,ru⟩:=rv.get hx
    obtain ⟨f0,f1,f2,f3,f4,f5⟩:=hf e (by simp)
    obtain ⟨g0,g1,g2,g3,g4,g5⟩:=hf it (by simp)
    refine wpAny_pyNext_enum_item he hit p.isList (x:=u) (by simpa using hu) hne fun h' eo it' ht hsz hk => ?_
    refine ⟨.ref s.heap.objs.size,rfl,?_⟩
    refine wpAny_letOwnedTupleGo_enum eo fun h2 he2 hs2 => ?_
    have fr:H s.heap.objs.size = none:=I.hok.fresh (Nat.le_refl _)
    have ne2:∀ b,b < s.heap.objs.size → b ≠ s.heap.objs.size:=fun b hb => Nat.ne_of_lt hb
    have ee:e < s.heap.objs.size:=Heap.lt_size he
    have k2:∀ b o,b ≠ e → b ≠ it → s.heap.get? b = some o → h2.get? b = some o:=fun b o h1 h2' q => (hs2.2 b h1).trans (hk b o h1 h2' q)
    have ht2:h2.get? s.heap.objs.size = some { cls:=.type "tuple",data:=.seq #[.int i s.toks,u] }:=(hs2.2 _ (Nat.ne_of_gt ee)).trans ht
    have trk:∀ b v,H b = some v → b ≠ e ∧ b ≠ it:=fun b v q => ⟨ne_of_none q f0,ne_of_none q g0⟩
    have hok0:HOk X.prog X.w H h2:=fun b o q => (I.hok b o q).stay (fun c v hc q' => by
      rcases hc with rfl | hc
      · exact k2 c v (trk c _ q).1 (trk c _ q).2 q'
      · exact k2 c v (trk c _ hc).1 (trk c _ hc).2 q') (fun _ z => z) fun _ _ z => z
    have I1:Inv X pins σ (upd H s.heap.objs.size (.tup [.int i,x])) { s with heap:=h2,toks:=s.toks + 1 }:=by
      refine I.step (g':=s.gens) (d':=s.drawn) (ch:=[e,it]) (fun b hb => ?_) (fun b o _ _ hc q _ => k2 b o (fun z => hc (by simp [z])) (fun z => hc (by simp [z])) q) (fun b o _ _ hc q _ => ⟨o.slots,k2 b o (fun z => hc (by simp [z])) (fun z => hc (by simp [z])) q⟩)
        (fun b o _ q n => by rw [upd_ne (ne2 b (Heap.lt_size q))]; exact n) (fun b o hc q => ⟨o,k2 b o (fun z => hc (by simp [z])) (fun z => hc (by simp [z])) q⟩) (fun b ys q => by rw [upd_ne (ne_of_none q fr)]; exact q) (fun b o v q => by rw [upd_ne (ne_of_none q fr)]; exact q)
        (fun b ps q => ⟨#[],by rw [upd_ne (ne_of_none q fr),q]; simp⟩) (fun m hm => ?_) ?_ I.bare
      · rw [List.mem_cons,List.mem_singleton] at hb
        rcases hb with rfl | rfl
        · exact ⟨f3,f1,f4,f5⟩
        · exact ⟨g3,g1,g4,g5⟩
      · obtain ⟨o,es',ep,ho,r⟩:=hm
        exact ⟨o,es',ep,k2 _ o (Ne.symm f1) (Ne.symm g1) ho,r⟩
      · exact hok0.adopt fr ⟨by show 2 ≤ sizeLine; decide,[.int i s.toks,u],.cons ⟨_,rfl⟩ (.cons ru .nil),⟨_,ht2,rfl,_,rfl⟩⟩
    refine ⟨.ref s.heap.objs.size,_,I1,rfl,⟨_,x,fr,rfl,rfl,fun ys hy => by rw [hq] at hy; cases hy; exact hx⟩,⟨⟨_,by simpa using he2⟩,it'.extBut hs2.extBut (Ne.symm hne)⟩,fun b hb => ?_⟩
    have:H b = none:=(hf b hb).1
    have hb':b < s.heap.objs.size:=by
      rw [List.mem_cons,List.mem_singleton] at hb
      rcases hb with rfl | rfl
      · exact ee
      · obtain ⟨o,q,_⟩:=hit; exact Heap.lt_size q
    rw [upd_ne (ne2 b hb')]
    exact this
  done:=by
    intro X hP hw hK hc i pins s σ H E I hf st hg
    subst hP hw hK
    obtain ⟨xs,hq,hx⟩:=hg
    obtain ⟨⟨old,he⟩,hit⟩:=st
    obtain ⟨its,rv,p,hz⟩:=I.list (SqL.of hq)
    obtain ⟨g0,g1,g2,g3,g4,g5⟩:=hf it (by simp)
    have hl:=rv.length
    exact wpAny_pyNext_enum_end (I.ok.hd hc) he hit p.isList (by simp; exact zo10 hx hl) fun h' eb => ⟨rfl,I.turned (t':=s.toks) (fun b o hb e => eb b o hb e) g0 g1 g3 g4 g5⟩
  self:=fun _ _ _ _ _ st h => by
    obtain ⟨⟨old,he⟩,_⟩:=st
    exact wpAny_pyIter_enum he h
section
variable {X:Cx} {es:List Expr} {k:Nat} {tpos:Pos}
def iEnum (ta:TA):TI:=fun σ H R => ta σ H fun vs H1 => ∃ a,vs = [.ref a] ∧ (∃ xs,H1 a = some (.lst xs)) ∧ R (Ite a) H1
theorem pi_enum {l:Expr} {ta:TA} {p pos:Pos} (hg:Gl X "enumerate") (hm:X.mg "enumerate" = none) (ha:PA X [l] ta) (hs:starEach [l] X.env = [(false,eval l X.env)]:=by rfl):PI X (.Tuple es k tpos) (.Call (.Name "enumerate" p) [l] [] pos) (iEnum ta):=by
  refine ⟨fun pins s σ H R I h => ?_⟩
  refine wpAny_Call_Name_kw (ld_blt I hg hm bt_enumerate ?_)
  refine PyProof.Rows.callWith_type1 (thn (ha pos pins s σ H _ I h) fun us s1 ⟨vs,H1,I1,r1,a,e,⟨xs,hx⟩,q⟩ => ?_) hs rfl
  subst e
  obtain ⟨u,rfl,ru⟩:=vals1 r1
  cases ru
  obtain ⟨_,its,n,rv,ho⟩:=(show ObjOk X.prog X.w H1 s1.heap a (.lst xs) from I1.hok a _ hx)
  refine call_enumerate_1 ho fun h' he hit hsz hk => ?_
  have I2:Inv X pins σ H1 { s1 with heap:=h' }:=I1.kept (t':=s1.toks) hk
  refine wpAny_pyIter_enum he ⟨s1.heap.objs.size + 1,[s1.heap.objs.size + 1,s1.heap.objs.size],_,Ite a,H1,rfl,I2,turn_enum a (s1.heap.objs.size + 1) s1.heap.objs.size (Nat.succ_ne_self _),⟨⟨_,he⟩,hit⟩,fun b hb => ?_,q⟩
  have hb':s1.heap.objs.size ≤ b:=by
    rw [List.mem_cons,List.mem_singleton] at hb
    rcases hb with rfl | rfl <;> (first|lia|omega)
  have z:=I1.fpOk (H':=H1) hb' (I1.hok.fresh hb')
  exact z
end
mutual
def toP:D → PyData
  | .non => .none
  | .bl b => .bool b
  | .int i => .int i
  | .str x => .str x
  | .tup ds => .tuple (toPs ds)
  | .lst ds => .list (toPs ds)
  | .dct => .dict []
  | .scr _ _ => .dict []
  | .ext _ => .dict []
def toPs:List D → List PyData
  | [] => []
  | d :: ds => toP d :: toPs ds
end
mutual
theorem rep_reads {X:Cx} {pins:List (Addr × Obj)} {σ:St} {H:Hp} {s:Shared} (I:Inv X pins σ H s):∀ (d:D) (v:V) (u:Value),Rep H d v → RelV v u → (toP d).canLay0 = true → ∃ as,Reads s.heap u (toP d) as
  | .non,v,u,h,r,_ => by rw [Rep] at h; subst h; cases r; rw [toP]; exact ⟨_,.none⟩
  | .bl b,v,u,h,r,_ => by rw [Rep] at h; subst h; cases r; rw [toP]; exact ⟨_,.bool b⟩
  | .int i,v,u,h,r,_ => by rw [Rep] at h; subst h; obtain ⟨t,rfl⟩:=r; rw [toP]; exact ⟨_,.int i t⟩
  | .str x,v,u,h,r,_ => by rw [Rep] at h; subst h; obtain ⟨t,rfl⟩:=r; rw [toP]; exact ⟨_,.str x t⟩
  | .tup ds,v,u,h,r,c => by
    rw [Rep] at h
    obtain ⟨a,xs,rfl,ha,hx⟩:=h
    cases r
    rw [toP] at c ⊢
    obtain ⟨_,its,rv,o,e1,e2,n,e3⟩:=(show ObjOk X.prog X.w H s.heap a (.tup xs) from I.hok a _ ha)
    obtain ⟨as,q⟩:=reps_reads I ds xs its hx rv (by rw [PyData.canLay0] at c; exact c)
    exact ⟨_,reads_tuple_at e1 e2 e3 (by simpa using q)⟩
  | .lst ds,v,u,h,r,c => by
    rw [Rep] at h
    obtain ⟨a,xs,rfl,ha,hx⟩:=h
    cases r
    rw [toP] at c ⊢
    obtain ⟨_,its,n,rv,e1⟩:=(show ObjOk X.prog X.w H s.heap a (.lst xs) from I.hok a _ ha)
    obtain ⟨as,q⟩:=reps_reads I ds xs its hx rv (by rw [PyData.canLay0] at c; exact c)
    exact ⟨_,reads_list_at e1 rfl rfl (by simpa using q)⟩
  | .dct,v,u,h,r,c => by rw [toP,PyData.canLay0] at c; cases c
  | .scr _ _,v,u,h,r,c => by rw [toP,PyData.canLay0] at c; cases c
  | .ext _,v,u,h,r,c => by rw [toP,PyData.canLay0] at c; cases c
theorem reps_reads {X:Cx} {pins:List (Addr × Obj)} {σ:St} {H:Hp} {s:Shared} (I:Inv X pins σ H s):∀ (ds:List D) (vs:List V) (us:List Value),Reps H ds vs → Vals vs us → PyData.canLayAll0 (toPs ds) = true → ∃ as,ReadsAll s.heap us (toPs ds) as
  | [],vs,us,h,r,_ => by rw [Reps] at h; subst h; cases r; rw [toPs]; exact ⟨_,.nil⟩
  | d :: ds,vs,us,h,r,c => by
    rw [Reps] at h
    obtain ⟨v,vs',rfl,h1,h2⟩:=h
    rw [toPs] at c ⊢
    rw [PyData.canLayAll0,Bool.and_eq_true] at c
    cases r with
    | cons r1 r2 =>
      obtain ⟨as,q1⟩:=rep_reads I d v _ h1 r1 c.1
      obtain ⟨bs,q2⟩:=reps_reads I ds vs' _ h2 r2 c.2
      exact ⟨_,.cons q1 q2⟩
end
section
variable {X:Cx}
def rEqD:R2:=fun x y H Q => ∃ d e,Rep H d x ∧ Rep H e y ∧ SeqAt.shaped (toP d) = true ∧ SeqAt.shaped (toP e) = true ∧ Q (.bl (PyData.eqv (toP d) (toP e))) H
def rNeD:R2:=fun x y H Q => ∃ d e,Rep H d x ∧ Rep H e y ∧ SeqAt.shaped (toP d) = true ∧ SeqAt.shaped (toP e) = true ∧ Q (.bl (!PyData.eqv (toP d) (toP e))) H
theorem op_eqD (hu:X.A.units + 64 < cLine):OpR X (compareOp .Eq) rEqD:=by
  intro pins s σ H x y v u Q I rx ry h
  obtain ⟨d,e,h1,h2,c1,c2,q⟩:=h
  obtain ⟨as,r1⟩:=rep_reads I d x v h1 rx (SeqAt.canLay_of_shaped c1)
  obtain ⟨bs,r2⟩:=rep_reads I e y u h2 ry (SeqAt.canLay_of_shaped c2)
  exact eq_dataH r1 r2 c1 c2 hu ⟨.bl _,H,I,rfl,q⟩
theorem op_neD (hu:X.A.units + 64 < cLine):OpR X (compareOp .NotEq) rNeD:=by
  intro pins s σ H x y v u Q I rx ry h
  obtain ⟨d,e,h1,h2,c1,c2,q⟩:=h
  obtain ⟨as,r1⟩:=rep_reads I d x v h1 rx (SeqAt.canLay_of_shaped c1)
  obtain ⟨bs,r2⟩:=rep_reads I e y u h2 ry (SeqAt.canLay_of_shaped c2)
  exact ne_dataH r1 r2 c1 c2 hu ⟨.bl _,H,I,rfl,q⟩
end
def dInts (ns:List Int):D:=.lst (ns.map .int)
theorem toPs_ints (ns:List Int):toPs (ns.map .int) = ns.map .int:=by
  induction ns with
  | nil => rw [List.map_nil,toPs]; rfl
  | cons n r ih => rw [List.map_cons,toPs,ih,toP]; rfl
theorem lay_ints (ns:List Int):PyData.canLayAll0 (ns.map .int) = true ∧ PyData.depthAll (ns.map .int) ≤ 1:=by
  induction ns with
  | nil => simp [PyData.canLayAll0,PyData.depthAll]
  | cons n r ih => simp only [List.map_cons,PyData.canLayAll0,PyData.canLay0,PyData.depthAll,PyData.depth,ih.1,Bool.and_self,true_and]; have:=ih.2; (first|lia|omega)
theorem shaped_ints (ns:List Int):SeqAt.shaped (toP (dInts ns)) = true:=by
  have h:=lay_ints ns
  unfold SeqAt.shaped dInts
  rw [toP,toPs_ints,PyData.canLay0,PyData.depth,h.1,Bool.true_and]
  exact decide_eq_true (by have:=h.2; (first|lia|omega))
theorem reps_ints {H:Hp}:∀ ns:List Int,Reps H (ns.map .int) (ns.map V.int)
  | [] => reps_nil
  | n :: r => reps_cons (rep_int n) (reps_ints r)
def dPair (ns ms:List Int):D:=.tup [dInts ns,dInts ms]
section
variable {X:Cx}
end
abbrev DSt:=List (Option D)
abbrev Own:=Addr → Option (Nat × List Nat)
mutual
def Sep (G H:Hp) (O:Own) (i:Nat):D → List Nat → V → Prop
  | .non,_,v => v = .non
  | .bl b,_,v => v = .bl b
  | .int n,_,v => v = .int n
  | .str x,_,v => v = .str x
  | .tup ds,π,v => ∃ a xs,v = .ref a ∧ G a = some (.tup xs) ∧ Seps G H O i ds 0 π xs
  | .lst ds,π,v => ∃ a xs,v = .ref a ∧ O a = some (i,π) ∧ H a = some (.lst xs) ∧ Seps G H O i ds 0 π xs
  | .dct,_,_ => False
  | .scr _ _,_,_ => False
  | .ext _,_,_ => False
def Seps (G H:Hp) (O:Own) (i:Nat):List D → Nat → List Nat → List V → Prop
  | [],_,_,xs => xs = []
  | d :: ds,k,π,xs => ∃ v vs,xs = v :: vs ∧ Sep G H O i d (k :: π) v ∧ Seps G H O i ds (k + 1) π vs
end
def TSame (G G':Hp):Prop:=∀ a xs,G a = some (.tup xs) → G' a = some (.tup xs)
theorem Same.ts {G G':Hp} (h:Same G G'):TSame G G':=fun a xs e => h a _ e
mutual
theorem Sep.map {G H G' H':Hp} {O O':Own} {i i':Nat} {f:List Nat → List Nat} (hG:TSame G G') (hf:∀ k π,f (k :: π) = k :: f π) :
    ∀ (d:D) (π:List Nat) (v:V),(∀ a τ,O a = some (i,τ ++ π) → O' a = some (i',f (τ ++ π)) ∧ H' a = H a) → Sep G H O i d π v → Sep G' H' O' i' d (f π) v
  | .non,_,_,_,h => by rw [Sep] at *; exact h
  | .bl b,_,_,_,h => by rw [Sep] at *; exact h
  | .int n,_,_,_,h => by rw [Sep] at *; exact h
  | .str x,_,_,_,h => by rw [Sep] at *; exact h
  | .tup ds,π,v,hO,h => by
    rw [Sep] at *
    obtain ⟨a,xs,h1,h2,h3⟩:=h
    exact ⟨a,xs,h1,hG _ _ h2,Seps.map hG hf ds 0 π xs (fun a τ _ => hO a τ) h3⟩
  | .lst ds,π,v,hO,h => by
    rw [Sep] at *
    obtain ⟨a,xs,h1,h2,h3,h4⟩:=h
    have q:=hO a [] h2
    exact ⟨a,xs,h1,q.1,q.2.trans h3,Seps.map hG hf ds 0 π xs (fun a τ _ => hO a τ) h4⟩
  | .dct,_,_,_,h => by rw [Sep] at h; exact h.elim
  | .scr _ _,_,_,_,h => by rw [Sep] at h; exact h.elim
  | .ext _,_,_,_,h => by rw [Sep] at h; exact h.elim
theorem Seps.map {G H G' H':Hp} {O O':Own} {i i':Nat} {f:List Nat → List Nat} (hG:TSame G G') (hf:∀ k π,f (k :: π) = k :: f π) :
    ∀ (ds:List D) (k:Nat) (π:List Nat) (xs:List V),(∀ a τ,τ ≠ [] → O a = some (i,τ ++ π) → O' a = some (i',f (τ ++ π)) ∧ H' a = H a) → Seps G H O i ds k π xs → Seps G' H' O' i' ds k (f π) xs
  | [],_,_,_,_,h => by rw [Seps] at *; exact h
  | d :: ds,k,π,xs,hO,h => by
    rw [Seps] at *
    obtain ⟨v,vs,h1,h2,h3⟩:=h
    refine ⟨v,vs,h1,?_,Seps.map hG hf ds (k + 1) π vs hO h3⟩
    rw [← hf]
    refine Sep.map hG hf d (k :: π) v (fun a τ e => ?_) h2
    have e' : τ ++ k :: π = (τ ++ [k]) ++ π:=by simp
    rw [e'] at e ⊢
    exact hO a (τ ++ [k]) (by simp) e
end
theorem Sep.keep {G H G' H':Hp} {O O':Own} {i i':Nat} {d:D} {π:List Nat} {v:V} (hG:TSame G G') (hO:∀ a τ,O a = some (i,τ ++ π) → O' a = some (i',τ ++ π) ∧ H' a = H a) (h:Sep G H O i d π v):Sep G' H' O' i' d π v :=
  Sep.map (f:=id) hG (fun _ _ => rfl) d π v hO h
theorem Seps.keep {G H G' H':Hp} {O O':Own} {i i':Nat} {ds:List D} {k:Nat} {π:List Nat} {xs:List V} (hG:TSame G G') (hO:∀ a τ,τ ≠ [] → O a = some (i,τ ++ π) → O' a = some (i',τ ++ π) ∧ H' a = H a) (h:Seps G H O i ds k π xs):Seps G' H' O' i' ds k π xs :=
  Seps.map (f:=id) hG (fun _ _ => rfl) ds k π xs hO h
mutual
theorem Sep.rep {G H G':Hp} {O:Own} {i:Nat} (hG:TSame G G'):∀ (d:D) (π:List Nat) (v:V),(∀ a τ xs,O a = some (i,τ ++ π) → H a = some (.lst xs) → G' a = some (.lst xs)) → Sep G H O i d π v → Rep G' d v
  | .non,_,_,_,h => by rw [Sep] at h; rw [Rep]; exact h
  | .bl b,_,_,_,h => by rw [Sep] at h; rw [Rep]; exact h
  | .int n,_,_,_,h => by rw [Sep] at h; rw [Rep]; exact h
  | .str x,_,_,_,h => by rw [Sep] at h; rw [Rep]; exact h
  | .tup ds,π,v,hO,h => by
    rw [Sep] at h; rw [Rep]
    obtain ⟨a,xs,h1,h2,h3⟩:=h
    exact ⟨a,xs,h1,hG _ _ h2,Seps.rep hG ds 0 π xs (fun a τ ys _ => hO a τ ys) h3⟩
  | .lst ds,π,v,hO,h => by
    rw [Sep] at h; rw [Rep]
    obtain ⟨a,xs,h1,h2,h3,h4⟩:=h
    exact ⟨a,xs,h1,hO a [] xs h2 h3,Seps.rep hG ds 0 π xs (fun a τ ys _ => hO a τ ys) h4⟩
  | .dct,_,_,_,h => by rw [Sep] at h; exact h.elim
  | .scr _ _,_,_,_,h => by rw [Sep] at h; exact h.elim
  | .ext _,_,_,_,h => by rw [Sep] at h; exact h.elim
theorem Seps.rep {G H G':Hp} {O:Own} {i:Nat} (hG:TSame G G'):∀ (ds:List D) (k:Nat) (π:List Nat) (xs:List V),(∀ a τ ys,τ ≠ [] → O a = some (i,τ ++ π) → H a = some (.lst ys) → G' a = some (.lst ys)) → Seps G H O i ds k π xs → Reps G' ds xs
  | [],_,_,_,_,h => by rw [Seps] at h; rw [Reps]; exact h
  | d :: ds,k,π,xs,hO,h => by
    rw [Seps] at h; rw [Reps]
    obtain ⟨v,vs,h1,h2,h3⟩:=h
    refine ⟨v,vs,h1,Sep.rep hG d (k :: π) v (fun a τ ys e q => ?_) h2,Seps.rep hG ds (k + 1) π vs hO h3⟩
    have e' : τ ++ k :: π = (τ ++ [k]) ++ π:=by simp
    rw [e'] at e
    exact hO a (τ ++ [k]) ys (by simp) e q
end
mutual
def imm:D → Bool
  | .tup ds => imms ds
  | .lst _ => false
  | .dct => false
  | .scr _ _ => false
  | .ext _ => false
  | _ => true
def imms:List D → Bool
  | [] => true
  | d :: ds => imm d && imms ds
end
mutual
theorem Rep.sep {G H:Hp} {O:Own} {i:Nat}:∀ (d:D) (π:List Nat) (v:V),imm d = true → Rep G d v → Sep G H O i d π v
  | .non,_,_,_,h => by rw [Rep] at h; rw [Sep]; exact h
  | .bl b,_,_,_,h => by rw [Rep] at h; rw [Sep]; exact h
  | .int n,_,_,_,h => by rw [Rep] at h; rw [Sep]; exact h
  | .str x,_,_,_,h => by rw [Rep] at h; rw [Sep]; exact h
  | .tup ds,π,v,hi,h => by
    rw [Rep] at h; rw [Sep]
    obtain ⟨a,xs,h1,h2,h3⟩:=h
    exact ⟨a,xs,h1,h2,Reps.sep ds 0 π xs (by rw [imm] at hi; exact hi) h3⟩
  | .lst ds,_,_,hi,_ => by rw [imm] at hi; cases hi
  | .dct,_,_,hi,_ => by rw [imm] at hi; cases hi
  | .scr _ _,_,_,hi,_ => by rw [imm] at hi; cases hi
  | .ext _,_,_,hi,_ => by rw [imm] at hi; cases hi
theorem Reps.sep {G H:Hp} {O:Own} {i:Nat}:∀ (ds:List D) (k:Nat) (π:List Nat) (xs:List V),imms ds = true → Reps G ds xs → Seps G H O i ds k π xs
  | [],_,_,_,_,h => by rw [Reps] at h; rw [Seps]; exact h
  | d :: ds,k,π,xs,hi,h => by
    rw [Reps] at h; rw [Seps]
    rw [imms,Bool.and_eq_true] at hi
    obtain ⟨v,vs,h1,h2,h3⟩:=h
    exact ⟨v,vs,h1,Rep.sep d (k :: π) v hi.1 h2,Reps.sep ds (k + 1) π vs hi.2 h3⟩
end
mutual
theorem Rep.imms {G G':Hp} (hG:TSame G G'):∀ (d:D) (v:V),L2.imm d = true → Rep G d v → Rep G' d v
  | .non,_,_,h => by rw [Rep] at *; exact h
  | .bl b,_,_,h => by rw [Rep] at *; exact h
  | .int n,_,_,h => by rw [Rep] at *; exact h
  | .str x,_,_,h => by rw [Rep] at *; exact h
  | .tup ds,v,hi,h => by
    rw [Rep] at *
    obtain ⟨a,xs,h1,h2,h3⟩:=h
    exact ⟨a,xs,h1,hG _ _ h2,Reps.imms hG ds xs (by rw [L2.imm] at hi; exact hi) h3⟩
  | .lst ds,_,hi,_ => by rw [L2.imm] at hi; cases hi
  | .dct,_,hi,_ => by rw [L2.imm] at hi; cases hi
  | .scr _ _,_,hi,_ => by rw [L2.imm] at hi; cases hi
  | .ext _,_,hi,_ => by rw [L2.imm] at hi; cases hi
theorem Reps.imms {G G':Hp} (hG:TSame G G'):∀ (ds:List D) (xs:List V),L2.imms ds = true → Reps G ds xs → Reps G' ds xs
  | [],_,_,h => by rw [Reps] at *; exact h
  | d :: ds,xs,hi,h => by
    rw [Reps] at *
    rw [L2.imms,Bool.and_eq_true] at hi
    obtain ⟨v,vs,h1,h2,h3⟩:=h
    exact ⟨v,vs,h1,Rep.imms hG d v hi.1 h2,Reps.imms hG ds vs hi.2 h3⟩
end
theorem Seps.length {G H:Hp} {O:Own} {i:Nat}:∀ {ds:List D} {k:Nat} {π:List Nat} {xs:List V},Seps G H O i ds k π xs → xs.length = ds.length
  | [],_,_,_,h => by rw [Seps] at h; subst h; rfl
  | d :: ds,k,π,xs,h => by
    rw [Seps] at h
    obtain ⟨v,vs,rfl,_,h3⟩:=h
    simp [Seps.length h3]
structure Ctx where
  G:Hp
  H:Hp
  O:Own
  mu:List (Option V)
  np:Nat
def Pend (G H:Hp) (O:Own):List (D × V) → Prop
  | [] => True
  | (d,v) :: r => Sep G H O (2 * r.length + 1) d [] v ∧ Pend G H O r
def Nw (C:Ctx) (a:Addr) (l:Nat):Prop:=C.H a = none ∨ ∃ π,C.O a = some (l,π)
structure RO (C:Ctx) (ow:List Bool) (G:Hp) (ρ:DSt) (σ:St) (H:Hp) (pd:List (D × V)) (O:Own):Prop where
  len : ρ.length = σ.length
  gh:Same G H
  g0:Same C.G G
  gn:∀ a o,G a = some o → C.G a = some o ∨ C.H a = none
  og:∀ a l,O a = some l → G a = none ∧ (∃ xs,H a = some (.lst xs)) ∧ Nw C a l.1
  cok:∀ a l π,C.O a = some (l,π) → (∃ (i:Nat) (v:V),l = 2 * i ∧ C.mu[i]? = some (some v)) ∨ ∃ j,l = 2 * j + 1 ∧ j < C.np
  fr:∀ a o,C.H a = some o → C.O a = none → H a = some o
  al:∀ a,H a = none → C.H a = none
  mp:∀ (i:Nat) v,C.mu[i]? = some (some v) → σ[i]? = some (some v)
  sl:∀ (i:Nat) d,ρ[i]? = some (some d) → ∃ v,σ[i]? = some (some v) ∧ if ow[i]? = some true then Sep G H O (2 * i) d [] v else Rep G d v
  pn:Pend G H O pd
  np:C.np ≤ pd.length
def R (C:Ctx) (ow:List Bool) (G:Hp) (ρ:DSt) (σ:St) (H:Hp) (pd:List (D × V)):Prop:=∃ O,RO C ow G ρ σ H pd O
theorem Pend.keep {G H G' H':Hp} {O O':Own} (hG:TSame G G'):∀ {pd:List (D × V)},(∀ a j π,j < pd.length → O a = some (2 * j + 1,π) → O' a = some (2 * j + 1,π) ∧ H' a = H a) → Pend G H O pd → Pend G' H' O' pd
  | [],_,_ => trivial
  | (d,v) :: r,hO,⟨h1,h2⟩ => ⟨h1.keep hG fun a τ e => hO a r.length _ (by simp) e,Pend.keep hG (fun a j π hj => hO a j π (by simp; exact zo260 hj)) h2⟩
section
variable {C:Ctx} {ow:List Bool} {G:Hp} {ρ:DSt} {σ:St} {H:Hp} {pd:List (D × V)} {O:Own}
theorem RO.new (h:RO C ow G ρ σ H pd O) {p:Addr} (hp:H p = none) (o:HO):RO C ow (upd G p o) ρ σ (upd H p o) pd O ∧ Same G (upd G p o):=by
  have gp:G p = none:=by
    cases e:G p with
    | none => rfl
    | some z => rw [h.gh _ _ e] at hp; cases hp
  have sG:=same_upd gp o
  have ne:∀ a l,O a = some l → a ≠ p:=fun a l e z => by
    obtain ⟨_,⟨xs,q⟩,_⟩:=h.og a l e
    rw [z,hp] at q; cases q
  refine ⟨⟨h.len,?_,fun a u e => sG _ _ (h.g0 a u e),?_,?_,h.cok,?_,?_,h.mp,?_,?_,h.np⟩,sG⟩
  · intro a u e
    by_cases z:a = p
    · subst z; rw [upd_same] at e ⊢; exact e
    · rw [upd_ne z] at e ⊢; exact h.gh _ _ e
  · intro a u e
    by_cases z:a = p
    · subst z; exact .inr (h.al _ hp)
    · rw [upd_ne z] at e; exact h.gn a u e
  · intro a l e
    have z:=ne a l e
    rw [upd_ne z,upd_ne z]
    exact h.og a l e
  · intro a u e n
    rw [upd_ne (ne_of_none (h.fr a u e n) hp)]
    exact h.fr a u e n
  · intro a e
    by_cases z:a = p
    · subst z; rw [upd_same] at e; cases e
    · rw [upd_ne z] at e; exact h.al a e
  · intro i d e
    obtain ⟨v,h1,h2⟩:=h.sl i d e
    refine ⟨v,h1,?_⟩
    split at h2
    · rename_i c; rw [if_pos c]; exact h2.keep sG.ts fun a τ q => ⟨q,upd_ne (ne a _ q)⟩
    · rename_i c; rw [if_neg c]; exact h2.mono sG
  · exact Pend.keep sG.ts (fun a j π _ q => ⟨q,upd_ne (ne a _ q)⟩) h.pn
theorem RO.newL (h:RO C ow G ρ σ H pd O) {p:Addr} (hp:H p = none) {xs:List V} {ds:List D} (hi:imms ds = true) (hr:Reps G ds xs) :
    R C ow G ρ σ (upd H p (.lst xs)) ((.lst ds,.ref p) :: pd):=by
  have gp:G p = none:=by
    cases e:G p with
    | none => rfl
    | some z => rw [h.gh _ _ e] at hp; cases hp
  have ne:∀ a l,O a = some l → a ≠ p:=fun a l e z => by
    obtain ⟨_,⟨xs,q⟩,_⟩:=h.og a l e
    rw [z,hp] at q; cases q
  let O':Own:=fun a => if a = p then some (2 * pd.length + 1,[]) else O a
  have old:∀ a l,O a = some l → O' a = some l:=fun a l e => by
    show (if a = p then _ else _) = _
    rw [if_neg (ne a _ e),e]
  refine ⟨O',h.len,?_,h.g0,h.gn,?_,h.cok,?_,?_,h.mp,?_,⟨?_,?_⟩,Nat.le_succ_of_le h.np⟩
  · intro a u e
    rw [upd_ne (fun z => by rw [z,gp] at e; cases e)]
    exact h.gh _ _ e
  · intro a l e
    by_cases z:a = p
    · subst z; exact ⟨gp,⟨xs,upd_same⟩,.inl (h.al _ hp)⟩
    · rw [upd_ne z]
      change (if a = p then _ else _) = _ at e
      rw [if_neg z] at e
      exact h.og a _ e
  · intro a u e n
    rw [upd_ne (ne_of_none (h.fr a u e n) hp)]
    exact h.fr a u e n
  · intro a e
    by_cases z:a = p
    · subst z; rw [upd_same] at e; cases e
    · rw [upd_ne z] at e; exact h.al a e
  · intro i d e
    obtain ⟨v,h1,h2⟩:=h.sl i d e
    refine ⟨v,h1,?_⟩
    split at h2
    · rename_i c; rw [if_pos c]; exact h2.keep (fun _ _ z => z) fun a τ q => ⟨old a _ q,upd_ne (ne a _ q)⟩
    · rename_i c; rw [if_neg c]; exact h2
  · rw [Sep]
    exact ⟨p,xs,rfl,by show (if p = p then _ else _) = _; rw [if_pos rfl],upd_same,hr.sep ds 0 [] xs hi⟩
  · exact Pend.keep (fun _ _ z => z) (fun a j π hj q => ⟨old a _ q,upd_ne (ne a _ q)⟩) h.pn
end
theorem Seps.snoc {G H:Hp} {O:Own} {i:Nat} {d:D} {v:V}:∀ {ds:List D} {k:Nat} {π:List Nat} {xs:List V},Seps G H O i ds k π xs → Sep G H O i d ((k + ds.length) :: π) v → Seps G H O i (ds ++ [d]) k π (xs ++ [v])
  | [],k,π,xs,h,hd => by rw [Seps] at h; subst h; show Seps _ _ _ _ [d] _ _ [v]; rw [Seps]; exact ⟨v,[],rfl,by simpa using hd,by rw [Seps]⟩
  | e :: ds,k,π,xs,h,hd => by
    rw [Seps] at h
    obtain ⟨u,us,rfl,h2,h3⟩:=h
    show Seps _ _ _ _ (e :: (ds ++ [d])) _ _ (u :: (us ++ [v]))
    rw [Seps]
    refine ⟨u,us ++ [v],rfl,h2,Seps.snoc h3 ?_⟩
    have:k + 1 + ds.length = k + (e :: ds).length:=by simp; exact zo9
    rw [this]; exact hd
theorem Seps.set {G H:Hp} {O:Own} {i:Nat} {d:D} {v:V}:∀ {ds:List D} {k:Nat} {π:List Nat} {xs:List V} {j:Nat},Seps G H O i ds k π xs → Sep G H O i d ((k + j) :: π) v → Seps G H O i (ds.set j d) k π (xs.set j v)
  | [],k,π,xs,j,h,hd => by rw [Seps] at h; subst h; simp; rw [Seps]
  | e :: ds,k,π,xs,0,h,hd => by
    rw [Seps] at h
    obtain ⟨u,us,rfl,h2,h3⟩:=h
    simp only [List.set_cons_zero]; rw [Seps]
    exact ⟨v,us,rfl,by simpa using hd,h3⟩
  | e :: ds,k,π,xs,j + 1,h,hd => by
    rw [Seps] at h
    obtain ⟨u,us,rfl,h2,h3⟩:=h
    simp only [List.set_cons_succ]; rw [Seps]
    refine ⟨u,_,rfl,h2,Seps.set h3 ?_⟩
    have:k + 1 + j = k + (j + 1):=by exact zo9
    rw [this]; exact hd
theorem Seps.at {G H:Hp} {O:Own} {i:Nat} {d:D}:∀ {ds:List D} {k:Nat} {π:List Nat} {xs:List V} {j:Nat},Seps G H O i ds k π xs → ds[j]? = some d → ∃ v,xs[j]? = some v ∧ Sep G H O i d ((k + j) :: π) v
  | [],k,π,xs,j,h,e => by simp at e
  | e :: ds,k,π,xs,0,h,q => by
    rw [Seps] at h
    obtain ⟨u,us,rfl,h2,h3⟩:=h
    simp at q; subst q
    exact ⟨u,rfl,by simpa using h2⟩
  | e :: ds,k,π,xs,j + 1,h,q => by
    rw [Seps] at h
    obtain ⟨u,us,rfl,h2,h3⟩:=h
    obtain ⟨v,h4,h5⟩:=Seps.at (j:=j) h3 (by simpa using q)
    refine ⟨v,by simpa using h4,?_⟩
    have:k + 1 + j = k + (j + 1):=by exact zo9
    rw [← this]; exact h5
section
variable {C:Ctx} {ow:List Bool} {G:Hp} {ρ:DSt} {σ:St} {H:Hp} {pd:List (D × V)} {O:Own}
theorem set_at {α:Type} {l:List (Option α)} {i j:Nat} {x:Option α} {d : α} (h:(l.set i x)[j]? = some (some d)):(j = i ∧ x = some d) ∨ (j ≠ i ∧ l[j]? = some (some d)):=by
  rw [List.getElem?_set] at h
  by_cases e:i = j
  · rw [if_pos e] at h
    split at h
    · exact .inl ⟨e.symm,Option.some.inj h⟩
    · cases h
  · rw [if_neg e] at h; exact .inr ⟨fun z => e z.symm,h⟩
theorem lt_of_slot {α:Type} {l:List (Option α)} {i:Nat} {x:Option α} (h:l[i]? = some x):i < l.length:=(List.getElem?_eq_some_iff.mp h).1
theorem RO.setS (h:RO C ow G ρ σ H pd O) {i:Nat} {d:D} {v:V} (hi:ow[i]? ≠ some true) (hm:∀ v,C.mu[i]? ≠ some (some v)) (r:Rep G d v):RO C ow G (ρ.set i (some d)) (σ.set i (some v)) H pd O:=by
  refine ⟨by simp [h.len],h.gh,h.g0,h.gn,h.og,h.cok,h.fr,h.al,?_,?_,h.pn,h.np⟩
  · intro j u e
    have:i ≠ j:=fun z => hm u (z ▸ e)
    rw [List.getElem?_set_ne this]
    exact h.mp j u e
  · intro j e q
    rcases set_at q with ⟨rfl,z⟩ | ⟨z,q'⟩
    · cases z
      have hl:j < σ.length:=by have:=lt_of_slot q; rw [List.length_set,h.len] at this; exact this
      exact ⟨v,by rw [List.getElem?_set_self hl],by rw [if_neg hi]; exact r⟩
    · obtain ⟨u,h1,h2⟩:=h.sl j e q'
      exact ⟨u,by rw [List.getElem?_set_ne (Ne.symm z)]; exact h1,h2⟩
def lab (f:Nat → List Nat → Nat × List Nat) (O:Own):Own:=fun a => (O a).map fun l => f l.1 l.2
theorem lab_at {f:Nat → List Nat → Nat × List Nat} {a:Addr} {l:Nat} {π:List Nat} (h:O a = some (l,π)):lab f O a = some (f l π):=by unfold lab; rw [h]; rfl
theorem lab_of {f:Nat → List Nat → Nat × List Nat} {a:Addr} {m:Nat × List Nat} (h:lab f O a = some m):∃ l π,O a = some (l,π) ∧ m = f l π:=by
  unfold lab at h
  cases e:O a with
  | none => rw [e] at h; cases h
  | some l => rw [e] at h; exact ⟨l.1,l.2,rfl,(Option.some.inj h).symm⟩
theorem even_ne {i j:Nat} : 2 * i ≠ 2 * j + 1:=by exact zo247
theorem RO.setO {d:D} {v:V} (h:RO C ow G ρ σ H ((d,v) :: pd) O) {i:Nat} (hi:ow[i]? = some true) (hm:∀ v,C.mu[i]? ≠ some (some v)) (hn:C.np ≤ pd.length) :
    R C ow G (ρ.set i (some d)) (σ.set i (some v)) H pd:=by
  refine ⟨lab (fun l π => if l = 2 * pd.length + 1 then (2 * i,π) else (l,π)) O,by simp [h.len],h.gh,h.g0,h.gn,?_,h.cok,h.fr,h.al,?_,?_,?_,hn⟩
  · intro a m e
    obtain ⟨l,π,e1,rfl⟩:=lab_of e
    obtain ⟨q1,q2,q3⟩:=h.og a _ e1
    refine ⟨q1,q2,?_⟩
    try dsimp only
    split
    · rename_i z
      rcases q3 with q3 | ⟨_,q3⟩
      · exact .inl q3
      · rcases h.cok _ _ _ q3 with ⟨k,_,q4,_⟩ | ⟨k,q4,q5⟩
        · exact absurd (q4.symm.trans z) even_ne
        · (first|lia|omega)
    · exact q3
  · intro j u e
    have:i ≠ j:=fun z => hm u (z ▸ e)
    rw [List.getElem?_set_ne this]
    exact h.mp j u e
  · intro j e q
    rcases set_at q with ⟨rfl,z⟩ | ⟨z,q'⟩
    · cases z
      have hl:j < σ.length:=by have:=lt_of_slot q; rw [List.length_set,h.len] at this; exact this
      refine ⟨v,by rw [List.getElem?_set_self hl],?_⟩
      rw [if_pos hi]
      exact h.pn.1.keep (fun _ _ z => z) fun a τ q => ⟨by rw [lab_at q,if_pos rfl],rfl⟩
    · obtain ⟨u,h1,h2⟩:=h.sl j e q'
      refine ⟨u,by rw [List.getElem?_set_ne (Ne.symm z)]; exact h1,?_⟩
      split at h2
      · rename_i c; rw [if_pos c]; exact h2.keep (fun _ _ z => z) fun a τ q => ⟨by rw [lab_at q,if_neg even_ne],rfl⟩
      · rename_i c; rw [if_neg c]; exact h2
  · exact Pend.keep (fun _ _ z => z) (fun a j π hj q => ⟨by rw [lab_at q,if_neg (by exact zo29 hj)],rfl⟩) h.pn.2
theorem RO.move (h:RO C ow G ρ σ H pd O) {i:Nat} {d:D} (e : ρ[i]? = some (some d)) (hi:ow[i]? = some true) (hm:∀ v,C.mu[i]? ≠ some (some v)) :
    ∃ v,σ[i]? = some (some v) ∧ R C ow G (ρ.set i none) σ H ((d,v) :: pd):=by
  obtain ⟨v,hv,s⟩:=h.sl i d e
  rw [if_pos hi] at s
  refine ⟨v,hv,lab (fun l π => if l = 2 * i then (2 * pd.length + 1,π) else (l,π)) O,by simp [h.len],h.gh,h.g0,h.gn,?_,h.cok,h.fr,h.al,h.mp,?_,⟨?_,?_⟩,Nat.le_succ_of_le h.np⟩
  · intro a m e
    obtain ⟨l,π,e1,rfl⟩:=lab_of e
    obtain ⟨q1,q2,q3⟩:=h.og a _ e1
    refine ⟨q1,q2,?_⟩
    try dsimp only
    split
    · rename_i z
      rcases q3 with q3 | ⟨_,q3⟩
      · exact .inl q3
      · rcases h.cok _ _ _ q3 with ⟨k,u,q4,q5⟩ | ⟨k,q4,_⟩
        · have:k = i:=by have:=q4.symm.trans z; (first|lia|omega)
          exact absurd (this ▸ q5) (hm u)
        · (first|lia|omega)
    · exact q3
  · intro j e q
    rcases set_at q with ⟨rfl,z⟩ | ⟨z,q'⟩
    · cases z
    · obtain ⟨u,h1,h2⟩:=h.sl j e q'
      refine ⟨u,h1,?_⟩
      split at h2
      · rename_i c; rw [if_pos c]; exact h2.keep (fun _ _ z => z) fun a τ q => ⟨by rw [lab_at q,if_neg (by exact zo43 z)],rfl⟩
      · rename_i c; rw [if_neg c]; exact h2
  · exact s.keep (fun _ _ z => z) fun a τ q => ⟨by rw [lab_at q,if_pos rfl],rfl⟩
  · exact Pend.keep (fun _ _ z => z) (fun a j π hj q => ⟨by rw [lab_at q,if_neg (fun z => even_ne z.symm)],rfl⟩) h.pn
def hasL (O:Own) (l:Nat) (a:Addr):Bool:=match O a with
  | some m => m.1 == l
  | none => false
theorem hasL_iff {l:Nat} {a:Addr}:hasL O l a = true ↔ ∃ π,O a = some (l,π):=by
  unfold hasL
  cases e:O a with
  | none => simp
  | some m => obtain ⟨m1,m2⟩:=m; simp
theorem RO.share {d:D} {v:V} (h:RO C ow G ρ σ H ((d,v) :: pd) O) (hn:C.np ≤ pd.length):∃ G',Same G G' ∧ R C ow G' ρ σ H pd ∧ Rep G' d v:=by
  let l₀:=2 * pd.length + 1
  let G':Hp:=fun a => if hasL O l₀ a = true then H a else G a
  have sG:Same G G':=fun a o e => by
    show (if _ then _ else _) = _
    split
    · exact h.gh _ _ e
    · exact e
  have inH:∀ a τ xs,O a = some (l₀,τ) → H a = some (.lst xs) → G' a = some (.lst xs):=fun a τ xs q e => by
    show (if _ then _ else _) = _
    rw [if_pos (hasL_iff.mpr ⟨_,q⟩)]; exact e
  refine ⟨G',sG,⟨fun a => if hasL O l₀ a = true then none else O a,h.len,?_,fun a o e => sG _ _ (h.g0 _ _ e),?_,?_,h.cok,h.fr,h.al,h.mp,?_,?_,hn⟩,h.pn.1.rep sG.ts d [] v (fun a τ xs q e => inH a _ xs q e)⟩
  · intro a o e
    change (if _ then _ else _) = _ at e
    split at e
    · exact e
    · exact h.gh _ _ e
  · intro a o e
    change (if _ then _ else _) = _ at e
    split at e
    · rename_i c
      obtain ⟨π,q⟩:=hasL_iff.mp c
      obtain ⟨_,_,q3⟩:=h.og a _ q
      rcases q3 with q3 | ⟨_,q3⟩
      · exact .inr q3
      · rcases h.cok _ _ _ q3 with ⟨k,_,q4,_⟩ | ⟨k,q4,q5⟩
        · exact absurd q4.symm even_ne
        · have q4' : 2 * pd.length + 1 = 2 * k + 1:=q4
          (first|lia|omega)
    · exact h.gn a o e
  · intro a l e
    try dsimp only at e
    split at e
    · cases e
    · rename_i c
      obtain ⟨q1,q2,q3⟩:=h.og a l e
      exact ⟨by show (if _ then _ else _) = _; rw [if_neg c]; exact q1,q2,q3⟩
  · intro j e q
    obtain ⟨u,h1,h2⟩:=h.sl j e q
    refine ⟨u,h1,?_⟩
    split at h2
    · rename_i c; rw [if_pos c]
      refine h2.keep sG.ts fun a τ q => ⟨?_,rfl⟩
      rw [if_neg,q]
      intro z
      obtain ⟨π,z⟩:=hasL_iff.mp z
      rw [q] at z
      have:=(Prod.mk.inj (Option.some.inj z)).1
      (first|lia|omega)
    · rename_i c; rw [if_neg c]; exact h2.mono sG
  · refine Pend.keep sG.ts (fun a j π hj q => ⟨?_,rfl⟩) h.pn.2
    rw [if_neg,q]
    intro z
    obtain ⟨π,z⟩:=hasL_iff.mp z
    rw [q] at z
    have:=(Prod.mk.inj (Option.some.inj z)).1
    (first|lia|omega)
theorem RO.write (h:RO C ow G ρ σ H pd O) {i:Nat} {ds:List D} (e : ρ[i]? = some (some (.lst ds))) (hi:ow[i]? = some true) :
    ∃ a xs,σ[i]? = some (some (.ref a)) ∧ H a = some (.lst xs) ∧ Seps G H O (2 * i) ds 0 [] xs ∧
      ∀ ds' xs',Seps G H O (2 * i) ds' 0 [] xs' → RO C ow G (ρ.set i (some (.lst ds'))) σ (upd H a (.lst xs')) pd O:=by
  obtain ⟨v,hv,s⟩:=h.sl i _ e
  rw [if_pos hi,Sep] at s
  obtain ⟨a,xs,rfl,hO,hH,hs⟩:=s
  refine ⟨a,xs,hv,hH,hs,fun ds' xs' hs' => ?_⟩
  obtain ⟨g0,_,nw⟩:=h.og a _ hO
  have ne:∀ b l π,O b = some (l,π) → (l ≠ 2 * i ∨ π ≠ []) → b ≠ a:=fun b l π q n z => by
    subst z
    rw [hO] at q
    obtain ⟨q1,q2⟩:=Prod.mk.inj (Option.some.inj q)
    rcases n with n | n
    · exact n q1.symm
    · exact n q2.symm
  refine ⟨by simp [h.len],?_,h.g0,h.gn,?_,h.cok,?_,?_,h.mp,?_,?_,h.np⟩
  · intro b o q
    rw [upd_ne (fun z => by rw [z,g0] at q; cases q)]; exact h.gh _ _ q
  · intro b l q
    obtain ⟨q1,⟨ys,q2⟩,q3⟩:=h.og b l q
    refine ⟨q1,?_,q3⟩
    by_cases z:b = a
    · subst z; exact ⟨_,upd_same⟩
    · rw [upd_ne z]; exact ⟨ys,q2⟩
  · intro b o q n
    by_cases z:b = a
    · subst z
      rcases nw with nw | ⟨_,nw⟩
      · rw [nw] at q; cases q
      · rw [nw] at n; cases n
    · rw [upd_ne z]; exact h.fr b o q n
  · intro b q
    by_cases z:b = a
    · subst z; rw [upd_same] at q; cases q
    · rw [upd_ne z] at q; exact h.al b q
  · intro j u q
    rcases set_at q with ⟨rfl,z⟩ | ⟨z,q'⟩
    · cases z
      refine ⟨_,hv,?_⟩
      rw [if_pos hi,Sep]
      exact ⟨a,xs',rfl,hO,upd_same,hs'.keep (fun _ _ z => z) fun b τ hτ q => ⟨q,upd_ne (ne b _ _ q (.inr (by simpa using hτ)))⟩⟩
    · obtain ⟨w,h1,h2⟩:=h.sl j u q'
      refine ⟨w,h1,?_⟩
      split at h2
      · rename_i c; rw [if_pos c]; exact h2.keep (fun _ _ z => z) fun b τ q => ⟨q,upd_ne (ne b _ _ q (.inl (by exact zo186 z)))⟩
      · rename_i c; rw [if_neg c]; exact h2
  · exact Pend.keep (fun _ _ z => z) (fun b j π hj q => ⟨q,upd_ne (ne b _ _ q (.inl (fun z => even_ne z.symm)))⟩) h.pn
theorem RO.join {d:D} {v:V} (h:RO C ow G ρ σ H ((d,v) :: pd) O) (i n:Nat) (hn:C.np ≤ pd.length) :
    ∃ O',RO C ow G ρ σ H pd O' ∧ Sep G H O' (2 * i) d [n] v ∧ ∀ (l:Nat) ds k π xs,l ≠ 2 * pd.length + 1 → Seps G H O l ds k π xs → Seps G H O' l ds k π xs:=by
  refine ⟨lab (fun l π => if l = 2 * pd.length + 1 then (2 * i,π ++ [n]) else (l,π)) O,⟨h.len,h.gh,h.g0,h.gn,?_,h.cok,h.fr,h.al,h.mp,?_,?_,hn⟩,?_,?_⟩
  · intro a m e
    obtain ⟨l,π,e1,rfl⟩:=lab_of e
    obtain ⟨q1,q2,q3⟩:=h.og a _ e1
    refine ⟨q1,q2,?_⟩
    try dsimp only
    split
    · rename_i z
      rcases q3 with q3 | ⟨_,q3⟩
      · exact .inl q3
      · rcases h.cok _ _ _ q3 with ⟨k,_,q4,_⟩ | ⟨k,q4,q5⟩
        · exact absurd (q4.symm.trans z) even_ne
        · (first|lia|omega)
    · exact q3
  · intro j e q
    obtain ⟨u,h1,h2⟩:=h.sl j e q
    refine ⟨u,h1,?_⟩
    split at h2
    · rename_i c; rw [if_pos c]; exact h2.keep (fun _ _ z => z) fun a τ q => ⟨by rw [lab_at q,if_neg even_ne],rfl⟩
    · rename_i c; rw [if_neg c]; exact h2
  · exact Pend.keep (fun _ _ z => z) (fun a j π hj q => ⟨by rw [lab_at q,if_neg (by exact zo29 hj)],rfl⟩) h.pn.2
  · exact Sep.map (f:=fun π => π ++ [n]) (fun _ _ z => z) (fun _ _ => rfl) d [] v (fun a τ q => ⟨by rw [lab_at q,if_pos rfl],rfl⟩) h.pn.1
  · intro l ds k π xs hl hs
    exact hs.keep (fun _ _ z => z) fun a τ _ q => ⟨by rw [lab_at q,if_neg hl],rfl⟩
end
def bor (js:List Nat) (ow:List Bool):List Bool:=ow.mapIdx fun j b => b && !js.contains j
theorem bor_iff {js:List Nat} {ow:List Bool} {j:Nat}:(bor js ow)[j]? = some true ↔ ow[j]? = some true ∧ js.contains j = false:=by
  unfold bor
  rw [List.getElem?_mapIdx]
  cases e:ow[j]? with
  | none => simp
  | some b => cases b <;> simp
def livB (ρ:DSt) (js:List Nat) (n l:Nat):Bool:=if l % 2 = 0 then (match ρ[l / 2]? with | some (some _) => !js.contains (l / 2) | _ => false) else decide (l / 2 < n)
def demB (js:List Nat) (l:Nat):Bool:=decide (l % 2 = 0) && js.contains (l / 2)
def ownOf (f:Nat → Bool) (O:Own):Own:=fun a => match O a with
  | some m => if f m.1 = true then some m else none
  | none => none
theorem ownOf_at {f:Nat → Bool} {O:Own} {a:Addr} {m:Nat × List Nat} (h:O a = some m) (hf:f m.1 = true):ownOf f O a = some m:=by unfold ownOf; rw [h]; show (if _ then _ else _) = _; rw [if_pos hf]
theorem ownOf_of {f:Nat → Bool} {O:Own} {a:Addr} {m:Nat × List Nat} (h:ownOf f O a = some m):O a = some m ∧ f m.1 = true:=by
  unfold ownOf at h
  cases e:O a with
  | none => rw [e] at h; cases h
  | some n =>
    rw [e] at h
    change (if _ then _ else _) = _ at h
    split at h
    · rename_i c; cases h; exact ⟨rfl,c⟩
    · cases h
def isSm {α:Type}:Option α → Bool
  | some _ => true
  | none => false
section
variable {C:Ctx} {ow:List Bool} {G:Hp} {ρ:DSt} {σ:St} {H:Hp} {pd:List (D × V)} {O:Own}
def gBor (js:List Nat) (G H:Hp) (O:Own):Hp:=fun a => if isSm (ownOf (demB js) O a) = true then H a else G a
def cBor (js:List Nat) (G H:Hp) (O:Own) (ρ:DSt) (σ:St) (n:Nat):Ctx:=⟨gBor js G H O,H,ownOf (livB ρ js n) O,σ,n⟩
theorem gBor_same (h:RO C ow G ρ σ H pd O) (js:List Nat):Same G (gBor js G H O):=fun a o e => by
  show (if _ then _ else _) = _
  split
  · exact h.gh _ _ e
  · exact e
theorem isSm_of {α:Type} {o:Option α} (h:isSm o = true):∃ x,o = some x:=by cases o with | none => cases h | some x => exact ⟨x,rfl⟩
theorem RO.enter (h:RO C ow G ρ σ H pd O) (js:List Nat):RO (cBor js G H O ρ σ pd.length) (bor js ow) (gBor js G H O) ρ σ H pd (ownOf (livB ρ js pd.length) O):=by
  have sG:=gBor_same h js
  refine ⟨h.len,?_,fun _ _ e => e,fun _ _ e => .inl e,?_,?_,fun _ _ e _ => e,fun _ e => e,fun _ _ e => e,?_,?_,Nat.le_refl _⟩
  · intro a o e
    change (if _ then _ else _) = _ at e
    split at e
    · exact e
    · exact h.gh _ _ e
  · intro a l e
    obtain ⟨e1,e2⟩:=ownOf_of e
    obtain ⟨q1,q2,q3⟩:=h.og a l e1
    refine ⟨?_,q2,.inr ⟨l.2,e⟩⟩
    · show (if _ then _ else _) = _
      rw [if_neg]; exact q1
      intro z
      obtain ⟨m,z⟩:=isSm_of z
      obtain ⟨z1,z2⟩:=ownOf_of z
      rw [e1] at z1; cases z1
      unfold demB at z2; unfold livB at e2
      simp only [Bool.and_eq_true,decide_eq_true_eq] at z2
      rw [if_pos z2.1] at e2
      split at e2
      · rw [z2.2] at e2; cases e2
      · cases e2
  · intro a l π e
    obtain ⟨e1,e2⟩:=ownOf_of e
    unfold livB at e2
    split at e2
    · rename_i c
      split at e2
      · rename_i d hd
        obtain ⟨v,hv,_⟩:=h.sl _ _ hd
        exact .inl ⟨l / 2,v,by (first|lia|omega),hv⟩
      · cases e2
    · exact .inr ⟨l / 2,by (first|lia|omega),of_decide_eq_true e2⟩
  · intro j d e
    obtain ⟨v,h1,h2⟩:=h.sl j d e
    refine ⟨v,h1,?_⟩
    by_cases c:ow[j]? = some true
    · rw [if_pos c] at h2
      by_cases c2:js.contains j = true
      · rw [if_neg (fun z => by rw [bor_iff] at z; rw [c2] at z; exact absurd z.2 (by decide))]
        refine h2.rep sG.ts d [] v fun a τ xs q e => ?_
        show (if _ then _ else _) = _
        rw [if_pos]; exact e
        rw [ownOf_at q]; rfl
        unfold demB
        simp only [Bool.and_eq_true,decide_eq_true_eq]
        exact ⟨by exact zo3,by rw [show 2 * j / 2 = j by exact zo2]; exact c2⟩
      · rw [if_pos (bor_iff.mpr ⟨c,by simpa using c2⟩)]
        refine h2.keep sG.ts fun a τ q => ⟨ownOf_at q ?_,rfl⟩
        unfold livB
        show (if 2 * j % 2 = 0 then _ else _) = _
        rw [if_pos (by exact zo3),show 2 * j / 2 = j by exact zo2,e]
        simp at c2 ⊢; exact c2
    · rw [if_neg c] at h2
      rw [if_neg (fun z => c (bor_iff.mp z).1)]
      exact h2.mono sG
  · refine Pend.keep sG.ts (fun a j π hj q => ⟨ownOf_at q ?_,rfl⟩) h.pn
    unfold livB
    show (if (2 * j + 1) % 2 = 0 then _ else _) = _
    rw [if_neg (by exact zo210),show (2 * j + 1) / 2 = j by exact zo109]
    simpa using hj
def Kp (ow:List Bool) (ρ ρ':DSt):Prop:=∀ (j:Nat),ow[j]? ≠ some true → ρ'[j]? = ρ[j]?
def gBack (js:List Nat) (O:Own) (G2:Hp):Hp:=fun a => if isSm (ownOf (demB js) O a) = true then none else G2 a
def oBack (js:List Nat) (O O2:Own):Own:=fun a => match O2 a with
  | some l => some l
  | none => ownOf (demB js) O a
theorem RO.leave (h:RO C ow G ρ σ H pd O) {js:List Nat} {G2:Hp} {ρ2:DSt} {H2:Hp} {pd2:List (D × V)} {O2:Own}
    (h2:RO (cBor js G H O ρ σ pd.length) (bor js ow) G2 ρ2 σ H2 pd2 O2) (kp:Kp (bor js ow) ρ ρ2) :
    RO C ow (gBack js O G2) ρ2 σ H2 pd2 (oBack js O O2) ∧ Same G (gBack js O G2) ∧ TSame G2 (gBack js O G2):=by
  have sG:=gBor_same h js
  have dm:∀ a m,ownOf (demB js) O a = some m → O a = some m ∧ G a = none ∧ ∃ xs,H a = some (.lst xs) ∧ G2 a = some (.lst xs):=fun a m e => by
    obtain ⟨e1,e2⟩:=ownOf_of e
    obtain ⟨q1,⟨xs,q2⟩,q3⟩:=h.og a m e1
    refine ⟨e1,q1,xs,q2,h2.g0 a _ ?_⟩
    show (if _ then _ else _) = _
    rw [if_pos (by rw [e]; rfl)]; exact q2
  have nd:∀ a,G a ≠ none → ¬ isSm (ownOf (demB js) O a) = true:=fun a g z => by
    obtain ⟨m,z⟩:=isSm_of z
    exact g (dm a m z).2.1
  have sG3:Same G (gBack js O G2):=fun a o e => by
    show (if _ then _ else _) = _
    rw [if_neg (nd a (by rw [e]; simp))]
    exact h2.g0 a o (sG a o e)
  have ts:TSame G2 (gBack js O G2):=fun a xs e => by
    show (if _ then _ else _) = _
    rw [if_neg]; exact e
    intro z
    obtain ⟨m,z⟩:=isSm_of z
    obtain ⟨_,_,ys,_,q⟩:=dm a m z
    rw [e] at q; cases q
  have o2:∀ a l,O2 a = some l → oBack js O O2 a = some l:=fun a l e => by show (match O2 a with | some l => some l | none => _) = _; rw [e]
  refine ⟨⟨h2.len,?_,fun a o e => sG3 _ _ (h.g0 _ _ e),?_,?_,h.cok,?_,fun a e => h.al a (h2.al a e),h.mp,?_,?_,Nat.le_trans h.np h2.np⟩,sG3,ts⟩
  · intro a o e
    change (if _ then _ else _) = _ at e
    split at e
    · cases e
    · exact h2.gh _ _ e
  · intro a o e
    change (if _ then _ else _) = _ at e
    split at e
    · cases e
    · rename_i c
      rcases h2.gn a o e with q | q
      · change (if _ then _ else _) = _ at q
        rw [if_neg c] at q
        exact h.gn a o q
      · exact .inr (h.al a q)
  · intro a l e
    change (match O2 a with | some l => some l | none => _) = _ at e
    cases q:O2 a with
    | some l' =>
      rw [q] at e; cases e
      obtain ⟨q1,q2,q3⟩:=h2.og a l q
      refine ⟨by show (if _ then _ else _) = _; split <;> first | rfl | exact q1,q2,?_⟩
      rcases q3 with q3 | ⟨q3,q4⟩
      · exact .inl (h.al a q3)
      · exact (h.og a _ (ownOf_of q4).1).2.2
    | none =>
      rw [q] at e
      change ownOf (demB js) O a = some l at e
      obtain ⟨e1,q1,xs,q2,q3⟩:=dm a l e
      refine ⟨by show (if _ then _ else _) = _; rw [if_pos (by rw [e]; rfl)],⟨xs,h2.gh _ _ q3⟩,(h.og a l e1).2.2⟩
  · intro a o e n
    have q:=h.fr a o e n
    refine h2.fr a o q ?_
    show ownOf _ O a = none
    cases z:ownOf (livB ρ js pd.length) O a with
    | none => rfl
    | some m =>
      obtain ⟨z1,_⟩:=ownOf_of z
      obtain ⟨_,_,z3⟩:=h.og a m z1
      rcases z3 with z3 | ⟨_,z3⟩
      · rw [z3] at e; cases e
      · rw [z3] at n; cases n
  · intro j d e
    by_cases c:(bor js ow)[j]? = some true
    · obtain ⟨v,q1,q2⟩:=h2.sl j d e
      rw [if_pos c] at q2
      refine ⟨v,q1,?_⟩
      rw [if_pos (bor_iff.mp c).1]
      exact q2.keep ts fun a τ q => ⟨o2 _ _ q,rfl⟩
    · rw [kp j c] at e
      obtain ⟨v,q1,q2⟩:=h.sl j d e
      refine ⟨v,q1,?_⟩
      by_cases c2:ow[j]? = some true
      · rw [if_pos c2] at q2 ⊢
        have hj:js.contains j = true:=by
          cases z:js.contains j with
          | true => rfl
          | false => exact absurd (bor_iff.mpr ⟨c2,z⟩) c
        refine q2.keep sG3.ts fun a τ q => ?_
        have dd:ownOf (demB js) O a = some (2 * j,τ ++ []):=ownOf_at q (by
          unfold demB
          simp only [Bool.and_eq_true,decide_eq_true_eq]
          exact ⟨by exact zo3,by rw [show 2 * j / 2 = j by exact zo2]; exact hj⟩)
        obtain ⟨_,_,xs,q4,q5⟩:=dm a _ dd
        refine ⟨?_,by rw [q4]; exact h2.gh _ _ q5⟩
        show (match O2 a with | some l => some l | none => _) = _
        cases z:O2 a with
        | some l => have:=(h2.og a l z).1; rw [q5] at this; cases this
        | none => exact dd
      · rw [if_neg c2] at q2 ⊢
        exact q2.mono sG3
  · exact Pend.keep ts (fun a j π hj q => ⟨o2 _ _ q,rfl⟩) h2.pn
end
abbrev ME:=DSt → (D → DSt → Prop) → Prop
abbrev MT:=DSt → (Bool → DSt → Prop) → Prop
abbrev MA:=DSt → (List D → DSt → Prop) → Prop
def SE (ow:List Bool) (t:TE) (m:ME):Prop:=∀ (C:Ctx) (G:Hp) (ρ:DSt) (σ:St) (H:Hp) (pd:List (D × V)) (q:D → DSt → Prop) (Q:VK),R C ow G ρ σ H pd → m ρ q →
  (∀ d ρ' v G' H',q d ρ' → Same G G' → Kp ow ρ ρ' → R C ow G' ρ' σ H' pd → Rep G' d v → Q v H') → t σ H Q
def SF (ow:List Bool) (t:TE) (m:ME):Prop:=∀ (C:Ctx) (G:Hp) (ρ:DSt) (σ:St) (H:Hp) (pd:List (D × V)) (q:D → DSt → Prop) (Q:VK),R C ow G ρ σ H pd → m ρ q →
  (∀ d ρ' v G' H',q d ρ' → Same G G' → Kp ow ρ ρ' → R C ow G' ρ' σ H' ((d,v) :: pd) → Q v H') → t σ H Q
def STe (ow:List Bool) (t:TT) (m:MT):Prop:=∀ (C:Ctx) (G:Hp) (ρ:DSt) (σ:St) (H:Hp) (pd:List (D × V)) (q:Bool → DSt → Prop) (Q:Bool → Hp → Prop),R C ow G ρ σ H pd → m ρ q →
  (∀ b ρ' G' H',q b ρ' → Same G G' → Kp ow ρ ρ' → R C ow G' ρ' σ H' pd → Q b H') → t σ H Q
def SA (ow:List Bool) (n:Nat) (t:TA) (m:MA):Prop:=∀ (C:Ctx) (G:Hp) (ρ:DSt) (σ:St) (H:Hp) (pd:List (D × V)) (q:List D → DSt → Prop) (Q:List V → Hp → Prop),R C ow G ρ σ H pd → m ρ q →
  (∀ ds ρ' vs G' H',q ds ρ' → Same G G' → Kp ow ρ ρ' → R C ow G' ρ' σ H' pd → Reps G' ds vs → vs.length = n → Q vs H') → t σ H Q
structure QE (X:Cx) (ow:List Bool) (e:Expr) (m:ME):Prop where
  ex:∃ t,PE X e t ∧ SE ow t m
structure QF (X:Cx) (ow:List Bool) (e:Expr) (m:ME):Prop where
  ex:∃ t,PE X e t ∧ SF ow t m
structure QT (X:Cx) (ow:List Bool) (e:Expr) (m:MT):Prop where
  ex:∃ t,PT X e t ∧ STe ow t m
structure QW (X:Cx) (ow:List Bool) (e:Expr) (m:MT):Prop where
  ex:∃ t,PW X e t ∧ STe ow t m
structure QA (X:Cx) (ow:List Bool) (es:List Expr) (m:MA):Prop where
  ex:∃ t,PA X es t ∧ SA ow es.length t m
theorem Kp.refl {ow:List Bool} {ρ:DSt}:Kp ow ρ ρ:=fun _ _ => rfl
theorem Kp.trans {ow:List Bool} {ρ ρ1 ρ2:DSt} (a:Kp ow ρ ρ1) (b:Kp ow ρ1 ρ2):Kp ow ρ ρ2:=fun j h => (b j h).trans (a j h)
theorem R.gh {C:Ctx} {ow:List Bool} {G:Hp} {ρ:DSt} {σ:St} {H:Hp} {pd:List (D × V)} (h:R C ow G ρ σ H pd):Same G H:=let ⟨_,h⟩:=h; h.gh
theorem R.np {C:Ctx} {ow:List Bool} {G:Hp} {ρ:DSt} {σ:St} {H:Hp} {pd:List (D × V)} (h:R C ow G ρ σ H pd):C.np ≤ pd.length:=let ⟨_,h⟩:=h; h.np
section
variable {X:Cx} {ow:List Bool} {a b c e:Expr} {ma mb mc:ME} {pos:Pos}
def mVar (i:Nat):ME:=fun ρ q => match ρ[i]? with
  | some (some d) => q d ρ
  | _ => False
theorem qe_var (i:Nat) {x:Str} (hs:ow[i]? ≠ some true:=by decide) (hN:X.N[i]? = some x:=by rfl) (hv:Vis X.env.scope x:=by first | exact Or.inl rfl | exact Or.inr (Or.inl rfl) | exact Or.inr (Or.inr rfl)) (hd:(x == ("__debug__":Str)) = false:=by decide)
    (hcd:(x == ("__classdict__":Str)) = false:=by decide):QE X ow (.Name x pos) (mVar i):=⟨_,pe_var hN hv hd hcd,fun C G ρ σ H pd q Q r h k => by
  unfold mVar at h
  split at h
  · rename_i d e
    obtain ⟨O,ro⟩:=r
    obtain ⟨v,h1,h2⟩:=ro.sl i d e
    rw [if_neg hs] at h2
    exact ⟨v,h1,k d ρ v G H h (Same.refl _) Kp.refl ⟨O,ro⟩ h2⟩
  · exact h.elim⟩
def mC (d:D):ME:=fun ρ q => q d ρ
theorem qe_c {v:V} {d:D} (h:PE X e (tC v)) (hr:∀ G,Rep G d v):QE X ow e (mC d):=⟨_,h,fun C G ρ σ H pd q Q r h k => k d ρ v G H h (Same.refl _) Kp.refl r (hr G)⟩
theorem qe_int {i j}:QE X ow (.Constant (.int i) j pos) (mC (.int i)):=qe_c pe_int fun _ => rep_int _
theorem qe_bl {i j}:QE X ow (.Constant (.bool i) j pos) (mC (.bl i)):=qe_c pe_bl fun _ => rep_bl _
theorem qe_non {j}:QE X ow (.Constant .none j pos) (mC .non):=qe_c pe_non fun _ => rep_non
theorem qe_str {i j}:QE X ow (.Constant (.str i) j pos) (mC (.str i)):=qe_c pe_str fun _ => rep_str _
theorem qe_globI {x:Str} {i:Int} (hg:Gl X x) (hm:∃ t,X.mg x = some (.int i t)) (hd:(x == ("__debug__":Str)) = false:=by decide):QE X ow (.Name x pos) (mC (.int i)):=by
  obtain ⟨t,hm⟩:=hm
  exact qe_c (pe_glob (v:=.int i) hg hm ⟨t,rfl⟩ hd) fun _ => rep_int _
theorem se_two {ta tb:TE} (ha:SE ow ta ma) (hb:SE ow tb mb) {C:Ctx} {G:Hp} {ρ:DSt} {σ:St} {H:Hp} {pd:List (D × V)} {f:D → D → DSt → Prop} {Q:V → V → Hp → Prop}
    (r:R C ow G ρ σ H pd) (h:ma ρ fun x ρ1 => mb ρ1 fun y ρ2 => f x y ρ2)
    (k:∀ dx dy ρ' x y G' H',f dx dy ρ' → Same G G' → Kp ow ρ ρ' → R C ow G' ρ' σ H' pd → Rep G' dx x → Rep G' dy y → Q x y H'):ta σ H fun x H1 => tb σ H1 fun y H2 => Q x y H2:=by
  refine ha C G ρ σ H pd _ _ r h fun dx ρ1 x G1 H1 h1 s1 k1 r1 p1 => ?_
  refine hb C G1 ρ1 σ H1 pd _ _ r1 h1 fun dy ρ2 y G2 H2 h2 s2 k2 r2 p2 => ?_
  exact k dx dy ρ2 x y G2 H2 h2 (s1.trans s2) (k1.trans k2) r2 (Rep.mono s2 _ _ p1) p2
def DOp (r:R2) (f:D → D → (D → Prop) → Prop):Prop:=∀ (G H:Hp) (x y:V) (dx dy:D) (q:D → Prop) (Q:VK),Same G H → Rep G dx x → Rep G dy y → f dx dy q → (∀ d v,q d → Rep G d v → Q v H) → r x y H Q
def mOp (f:D → D → (D → Prop) → Prop) (ma mb:ME):ME:=fun ρ q => ma ρ fun x ρ1 => mb ρ1 fun y ρ2 => f x y fun d => q d ρ2
theorem se_op {r:R2} {f:D → D → (D → Prop) → Prop} {ta tb:TE} (hd:DOp r f) (ha:SE ow ta ma) (hb:SE ow tb mb):SE ow (tOp r ta tb) (mOp f ma mb):=fun C G ρ σ H pd q Q hr h k => by
  refine se_two ha hb hr h fun dx dy ρ' x y G' H' hf s kp r' p1 p2 => ?_
  exact hd G' H' x y dx dy _ _ r'.gh p1 p2 hf fun d v hq p => k d ρ' v G' H' hq s kp r' p
theorem qe_op {op:Operator} {r:R2} {f:D → D → (D → Prop) → Prop} (ho:OpR X (binaryOp op) r) (hd:DOp r f) (ha:QE X ow a ma) (hb:QE X ow b mb):QE X ow (.BinOp a op b pos) (mOp f ma mb):=by
  obtain ⟨ta,pa,sa⟩:=ha; obtain ⟨tb,pb,sb⟩:=hb
  exact ⟨_,pe_op ho pa pb,se_op hd sa sb⟩
theorem qe_cmp {op:CmpOp} {r:R2} {f:D → D → (D → Prop) → Prop} (ho:OpR X (compareOp op) r) (hd:DOp r f) (ha:QE X ow a ma) (hb:QE X ow b mb) (hm:behindInMarks op b = false):QE X ow (.Compare a [op] [b] pos) (mOp f ma mb):=by
  obtain ⟨ta,pa,sa⟩:=ha; obtain ⟨tb,pb,sb⟩:=hb
  exact ⟨_,pe_cmpR ho pa pb hm,se_op hd sa sb⟩
theorem qe_ix {r:R2} {f:D → D → (D → Prop) → Prop} (ho:IxR X r) (hd:DOp r f) (ha:QE X ow a ma) (hb:QE X ow b mb) (hs:PlainIx b):QE X ow (.Subscript a b pos) (mOp f ma mb):=by
  obtain ⟨ta,pa,sa⟩:=ha; obtain ⟨tb,pb,sb⟩:=hb
  exact ⟨_,pe_ix ho pa pb hs,se_op hd sa sb⟩
def mB (m:ME):MT:=fun ρ q => m ρ fun d ρ' => match d with
  | .bl b => q b ρ'
  | _ => False
theorem rep_bl_of {G:Hp} {b:Bool} {v:V} (h:Rep G (.bl b) v):v = .bl b:=by rw [Rep] at h; exact h
theorem rep_int_of {G:Hp} {b:Int} {v:V} (h:Rep G (.int b) v):v = .int b:=by rw [Rep] at h; exact h
theorem st_of {t:TE} {m:ME} (h:SE ow t m):STe ow (tTest t) (mB m):=fun C G ρ σ H pd q Q r hm k => by
  refine h C G ρ σ H pd _ _ r hm fun d ρ' v G' H' hq s kp r' p => ?_
  cases d with
  | bl b => exact ⟨b,rep_bl_of p,k b ρ' G' H' hq s kp r'⟩
  | _ => exact hq.elim
theorem qt_cmp {op:CmpOp} {r:R2} {f:D → D → (D → Prop) → Prop} (ho:OpR X (compareOp op) r) (hd:DOp r f) (ha:QE X ow a ma) (hb:QE X ow b mb) (hm:behindInMarks op b = false):QT X ow (.Compare a [op] [b] pos) (mB (mOp f ma mb)):=by
  obtain ⟨ta,pa,sa⟩:=ha; obtain ⟨tb,pb,sb⟩:=hb
  exact ⟨_,pt_cmpR ho pa pb hm,st_of (se_op hd sa sb)⟩
theorem qt_val (h:QE X ow e ma) (he:∀ whole,isTrue e X.env whole = (do let v ← whole; standAt e.pos; holding [v] (truthy v)):=by intro _; rfl):QT X ow e (mB ma):=by
  obtain ⟨ta,pa,sa⟩:=h
  exact ⟨_,pt_val pa he,st_of sa⟩
def mIf {α:Type} (m:MT) (x y:DSt → (α → DSt → Prop) → Prop):DSt → (α → DSt → Prop) → Prop:=fun ρ q => m ρ fun b ρ1 => if b = true then x ρ1 q else y ρ1 q
def mYes (b:Bool):MT:=fun ρ q => q b ρ
theorem st_if {t t1 t2:TT} {m m1 m2:MT} (h:STe ow t m) (h1:STe ow t1 m1) (h2:STe ow t2 m2):STe ow (fun σ H Q => t σ H fun c H1 => if c = true then t1 σ H1 Q else t2 σ H1 Q) (mIf m m1 m2):=fun C G ρ σ H pd q Q r hm k => by
  refine h C G ρ σ H pd _ _ r hm fun b ρ' G' H' hq s kp r' => ?_
  cases b with
  | true => rw [if_pos rfl] at hq ⊢; exact h1 C G' ρ' σ H' pd _ _ r' hq fun b ρ2 G2 H2 hq2 s2 kp2 r2 => k b ρ2 G2 H2 hq2 (s.trans s2) (kp.trans kp2) r2
  | false => rw [if_neg (by decide)] at hq ⊢; exact h2 C G' ρ' σ H' pd _ _ r' hq fun b ρ2 G2 H2 hq2 s2 kp2 r2 => k b ρ2 G2 H2 hq2 (s.trans s2) (kp.trans kp2) r2
theorem st_yes (b:Bool):STe ow (fun _ H Q => Q b H) (mYes b):=fun C G ρ σ H pd q Q r hm k => k b ρ G H hm (Same.refl _) Kp.refl r
variable {mt mu mv:MT} {rest:List Expr}
theorem qw_or1 (h:QT X ow a mt):QW X ow (.BoolOp .Or [a] pos) mt:=by obtain ⟨t,p,s⟩:=h; exact ⟨_,pw_or1 p,s⟩
theorem qw_or (h:QT X ow a mt) (h2:QW X ow (.BoolOp .Or (b :: rest) pos) mu):QW X ow (.BoolOp .Or (a :: b :: rest) pos) (mIf mt (mYes true) mu):=by
  obtain ⟨t,p,s⟩:=h; obtain ⟨t2,p2,s2⟩:=h2; exact ⟨_,pw_or p p2,st_if s (st_yes true) s2⟩
theorem QW.qt (h:QW X ow e mt):QT X ow e mt:=by obtain ⟨t,p,s⟩:=h; exact ⟨_,p.pt,s⟩
def mNot (m:MT):MT:=fun ρ q => m ρ fun b ρ' => q (!b) ρ'
theorem qt_not (h:QT X ow a mt):QT X ow (.UnaryOp .Not a pos) (mNot mt):=by
  obtain ⟨t,p,s⟩:=h
  exact ⟨_,pt_not p,fun C G ρ σ H pd q Q r hm k => s C G ρ σ H pd _ _ r hm fun b ρ' G' H' hq s kp r' => k _ ρ' G' H' hq s kp r'⟩
def mV (m:MT):ME:=fun ρ q => m ρ fun b ρ' => q (.bl b) ρ'
theorem qe_one {op} (h:QE X ow a ma):QE X ow (.BoolOp op [a] pos) ma:=by obtain ⟨t,p,s⟩:=h; exact ⟨_,pe_one p,s⟩
theorem qe_not (h:QE X ow a ma):QE X ow (.UnaryOp .Not a pos) (mV (mNot (mB ma))):=by
  obtain ⟨t,p,s⟩:=h
  refine ⟨_,pe_not p,fun C G ρ σ H pd q Q r hm k => ?_⟩
  refine s C G ρ σ H pd _ _ r hm fun d ρ' v G' H' hq s kp r' p => ?_
  cases d with
  | bl b => exact ⟨b,rep_bl_of p,k _ ρ' _ G' H' hq s kp r' (rep_bl _)⟩
  | _ => exact hq.elim
theorem qe_and (h:QE X ow a ma) (h2:QE X ow (.BoolOp .And (b :: rest) pos) mb):QE X ow (.BoolOp .And (a :: b :: rest) pos) (mIf (mB ma) mb (mC (.bl false))):=by
  obtain ⟨t,p,s⟩:=h; obtain ⟨t2,p2,s2⟩:=h2
  refine ⟨_,pe_and p p2,fun C G ρ σ H pd q Q r hm k => ?_⟩
  refine s C G ρ σ H pd _ _ r hm fun d ρ' v G' H' hq s kp r' p => ?_
  cases d with
  | bl b =>
    refine ⟨b,rep_bl_of p,?_⟩
    change (if b = true then _ else _) at hq
    cases b with
    | true => rw [if_pos rfl] at hq ⊢; exact s2 C G' ρ' σ H' pd _ _ r' hq fun d ρ2 v G2 H2 hq2 z2 kp2 r2 p2 => k d ρ2 v G2 H2 hq2 (s.trans z2) (kp.trans kp2) r2 p2
    | false => rw [if_neg (by decide)] at hq ⊢; exact k _ ρ' _ G' H' hq s kp r' (rep_bl _)
  | _ => exact hq.elim
theorem qe_or (h:QE X ow a ma) (h2:QE X ow (.BoolOp .Or (b :: rest) pos) mb):QE X ow (.BoolOp .Or (a :: b :: rest) pos) (mIf (mB ma) (mC (.bl true)) mb):=by
  obtain ⟨t,p,s⟩:=h; obtain ⟨t2,p2,s2⟩:=h2
  refine ⟨_,pe_or p p2,fun C G ρ σ H pd q Q r hm k => ?_⟩
  refine s C G ρ σ H pd _ _ r hm fun d ρ' v G' H' hq s kp r' p => ?_
  cases d with
  | bl b =>
    refine ⟨b,rep_bl_of p,?_⟩
    change (if b = true then _ else _) at hq
    cases b with
    | false => rw [if_neg (by decide)] at hq ⊢; exact s2 C G' ρ' σ H' pd _ _ r' hq fun d ρ2 v G2 H2 hq2 z2 kp2 r2 p2 => k d ρ2 v G2 H2 hq2 (s.trans z2) (kp.trans kp2) r2 p2
    | true => rw [if_pos rfl] at hq ⊢; exact k _ ρ' _ G' H' hq s kp r' (rep_bl _)
  | _ => exact hq.elim
theorem qe_ifExp (h:QT X ow c mt) (ha:QE X ow a ma) (hb:QE X ow b mb):QE X ow (.IfExp c a b pos) (mIf mt ma mb):=by
  obtain ⟨t,p,s⟩:=h; obtain ⟨t1,p1,s1⟩:=ha; obtain ⟨t2,p2,s2⟩:=hb
  refine ⟨_,pe_ifExp p p1 p2,fun C G ρ σ H pd q Q r hm k => ?_⟩
  refine s C G ρ σ H pd _ _ r hm fun d ρ' G' H' hq s kp r' => ?_
  cases d with
  | true => rw [if_pos rfl] at hq ⊢; exact s1 C G' ρ' σ H' pd _ _ r' hq fun d ρ2 v G2 H2 hq2 z2 kp2 r2 p2 => k d ρ2 v G2 H2 hq2 (s.trans z2) (kp.trans kp2) r2 p2
  | false => rw [if_neg (by decide)] at hq ⊢; exact s2 C G' ρ' σ H' pd _ _ r' hq fun d ρ2 v G2 H2 hq2 z2 kp2 r2 p2 => k d ρ2 v G2 H2 hq2 (s.trans z2) (kp.trans kp2) r2 p2
theorem QF.qe (h:QF X ow e ma):QE X ow e ma:=by
  obtain ⟨t,p,s⟩:=h
  refine ⟨_,p,fun C G ρ σ H pd q Q r hm k => s C G ρ σ H pd _ _ r hm fun d ρ' v G' H' hq s kp r' => ?_⟩
  obtain ⟨O,r'⟩:=r'
  obtain ⟨G2,s2,r2,p2⟩:=r'.share r.np
  exact k d ρ' v G2 H' hq (s.trans s2) kp r2 p2
def mImm (m:ME):ME:=fun ρ q => m ρ fun d ρ' => imm d = true ∧ q d ρ'
theorem QE.qf (h:QE X ow e ma):QF X ow e (mImm ma):=by
  obtain ⟨t,p,s⟩:=h
  refine ⟨_,p,fun C G ρ σ H pd q Q r hm k => s C G ρ σ H pd _ _ r hm fun d ρ' v G' H' hq s kp r' p => ?_⟩
  obtain ⟨O,r'⟩:=r'
  exact k d ρ' v G' H' hq.2 s kp ⟨O,r'.len,r'.gh,r'.g0,r'.gn,r'.og,r'.cok,r'.fr,r'.al,r'.mp,r'.sl,⟨p.sep d [] v hq.1,r'.pn⟩,Nat.le_succ_of_le r'.np⟩
theorem kp_bor {js:List Nat} {ρ ρ':DSt} (h:Kp (bor js ow) ρ ρ'):Kp ow ρ ρ':=fun j n => h j fun z => n (bor_iff.mp z).1
theorem QE.bor (js:List Nat) (h:QE X (bor js ow) e ma):QE X ow e (mImm ma):=by
  obtain ⟨t,p,s⟩:=h
  refine ⟨_,p,fun C G ρ σ H pd q Q r hm k => ?_⟩
  obtain ⟨O,r⟩:=r
  refine s _ _ ρ σ H pd _ _ ⟨_,r.enter js⟩ hm fun d ρ' v G' H' hq s kp r' p => ?_
  obtain ⟨O',r'⟩:=r'
  obtain ⟨r2,s2,ts⟩:=r.leave r' kp
  exact k d ρ' v _ H' hq.2 s2 (kp_bor kp) ⟨_,r2⟩ (p.imms ts d v hq.1)
theorem QF.bor (js:List Nat) (h:QF X (bor js ow) e ma):QF X ow e ma:=by
  obtain ⟨t,p,s⟩:=h
  refine ⟨_,p,fun C G ρ σ H pd q Q r hm k => ?_⟩
  obtain ⟨O,r⟩:=r
  refine s _ _ ρ σ H pd _ _ ⟨_,r.enter js⟩ hm fun d ρ' v G' H' hq s kp r' => ?_
  obtain ⟨O',r'⟩:=r'
  obtain ⟨r2,s2,ts⟩:=r.leave r' kp
  exact k d ρ' v _ H' hq s2 (kp_bor kp) ⟨_,r2⟩
theorem QT.bor (js:List Nat) (h:QT X (bor js ow) e mt):QT X ow e mt:=by
  obtain ⟨t,p,s⟩:=h
  refine ⟨_,p,fun C G ρ σ H pd q Q r hm k => ?_⟩
  obtain ⟨O,r⟩:=r
  refine s _ _ ρ σ H pd _ _ ⟨_,r.enter js⟩ hm fun d ρ' G' H' hq s kp r' => ?_
  obtain ⟨O',r'⟩:=r'
  obtain ⟨r2,s2,ts⟩:=r.leave r' kp
  exact k d ρ' _ H' hq s2 (kp_bor kp) ⟨_,r2⟩
def mNil:MA:=fun ρ q => q [] ρ
def mCons (m:ME) (r:MA):MA:=fun ρ q => m ρ fun d ρ1 => r ρ1 fun ds ρ2 => q (d :: ds) ρ2
variable {mr:MA} {es:List Expr}
theorem qa_nil:QA X ow [] mNil:=⟨_,pa_nil,fun C G ρ σ H pd q Q r h k => k [] ρ [] G H h (Same.refl _) Kp.refl r reps_nil rfl⟩
theorem qa_cons (ha:QE X ow e ma) (hr:QA X ow es mr) (hs:starEach (e :: es) X.env = (false,eval e X.env) :: starEach es X.env:=by rfl):QA X ow (e :: es) (mCons ma mr):=by
  obtain ⟨t,p,s⟩:=ha; obtain ⟨t2,p2,s2⟩:=hr
  refine ⟨_,pa_cons p p2 hs,fun C G ρ σ H pd q Q r hm k => ?_⟩
  refine s C G ρ σ H pd _ _ r hm fun d ρ' v G' H' hq z kp r' p => ?_
  refine s2 C G' ρ' σ H' pd _ _ r' hq fun ds ρ2 vs G2 H2 hq2 z2 kp2 r2 p2 hl => ?_
  exact k (d :: ds) ρ2 (v :: vs) G2 H2 hq2 (z.trans z2) (kp.trans kp2) r2 (reps_cons (Rep.mono z2 _ _ p) p2) (by simp [hl])
def mTup (m:MA):ME:=fun ρ q => m ρ fun ds ρ' => q (.tup ds) ρ'
def mLst (m:MA):ME:=fun ρ q => m ρ fun ds ρ' => q (.lst ds) ρ'
def mLstI (m:MA):ME:=fun ρ q => m ρ fun ds ρ' => imms ds = true ∧ q (.lst ds) ρ'
theorem le_line {n:Nat} (h:n ≤ 1000):n ≤ sizeLine:=Nat.le_of_lt (small1000 h)
theorem qe_tup {x1} (h:QA X ow es mr) (hl:es.length ≤ 1000:=by decide):QE X ow (.Tuple es x1 pos) (mTup mr):=by
  obtain ⟨t,p,s⟩:=h
  refine ⟨_,pe_tup p,fun C G ρ σ H pd q Q r hm k => s C G ρ σ H pd _ _ r hm fun ds ρ' vs G' H' hq z kp r' p hn => ⟨le_line (by exact zo21 hl hn),fun a ha => ?_⟩⟩
  obtain ⟨O,r'⟩:=r'
  obtain ⟨r2,s2⟩:=r'.new ha (.tup vs)
  exact k _ ρ' _ _ _ hq (z.trans s2) kp ⟨O,r2⟩ (rep_tup upd_same (Reps.mono s2 _ _ p))
theorem qe_lst (h:QA X ow es mr) (hl:es.length ≤ 1000:=by decide):QE X ow (.List es pos) (mLst mr):=by
  obtain ⟨t,p,s⟩:=h
  refine ⟨_,pe_lst p,fun C G ρ σ H pd q Q r hm k => s C G ρ σ H pd _ _ r hm fun ds ρ' vs G' H' hq z kp r' p hn => ⟨le_line (by exact zo21 hl hn),fun a ha => ?_⟩⟩
  obtain ⟨O,r'⟩:=r'
  obtain ⟨r2,s2⟩:=r'.new ha (.lst vs)
  exact k _ ρ' _ _ _ hq (z.trans s2) kp ⟨O,r2⟩ (rep_lst upd_same (Reps.mono s2 _ _ p))
theorem qf_lst (h:QA X ow es mr) (hl:es.length ≤ 1000:=by decide):QF X ow (.List es pos) (mLstI mr):=by
  obtain ⟨t,p,s⟩:=h
  refine ⟨_,pe_lst p,fun C G ρ σ H pd q Q r hm k => s C G ρ σ H pd _ _ r hm fun ds ρ' vs G' H' hq z kp r' p hn => ⟨le_line (by exact zo21 hl hn),fun a ha => ?_⟩⟩
  obtain ⟨O,r'⟩:=r'
  exact k _ ρ' _ _ _ hq.2 z kp (r'.newL ha hq.1 p)
def DCall (r:List V → Hp → VK → Prop) (f:List D → (D → Prop) → Prop):Prop:=∀ (G H:Hp) (xs:List V) (ds:List D) (q:D → Prop) (Q:VK),Same G H → Reps G ds xs → f ds q → (∀ d v,q d → Rep G d v → Q v H) → r xs H Q
def mCB (f:List D → (D → Prop) → Prop) (m:MA):ME:=fun ρ q => m ρ fun ds ρ' => f ds fun d => q d ρ'
theorem se_cb {r:List V → Hp → VK → Prop} {f:List D → (D → Prop) → Prop} {t:TA} {n:Nat} (hd:DCall r f) (s:SA ow n t mr):SE ow (tCB r t) (mCB f mr):=fun C G ρ σ H pd q Q hr hm k =>
  s C G ρ σ H pd _ _ hr hm fun ds ρ' vs G' H' hq z kp r' p hn => hd G' H' vs ds _ _ r'.gh p hq fun d v hq p => k d ρ' v G' H' hq z kp r' p
variable {x:Str} {p':Pos}
theorem qe_callB {id:String} {r:List V → Hp → VK → Prop} {f:List D → (D → Prop) → Prop} (hc:CallR X (.builtin id) r) (hd:DCall r f) (hg:Gl X x) (hm:X.mg x = none) (hv:bootBuiltins x = some (.builtin id)) (ha:QA X ow (e :: es) mr) (hn:x ≠ "__name__":=by decide) (hdb:(x == ("__debug__":Str)) = false:=by decide)
    (he:starEach (e :: es) X.env = (false,eval e X.env) :: starEach es X.env:=by rfl) (hpl:(backTo pos (starEach es X.env)).any (·.1) = false:=by rfl):QE X ow (.Call (.Name x p') (e :: es) [] pos) (mCB f mr):=by
  obtain ⟨t,p,s⟩:=ha
  exact ⟨_,pe_callB hc hg hm hv p hn hdb he hpl,se_cb hd s⟩
end
def fI (g:Int → Int → Int):D → D → (D → Prop) → Prop:=fun a b q => match a,b with
  | .int i,.int j => q (.int (g i j))
  | _,_ => False
def fIC (C:Int → Int → Prop) (g:Int → Int → Int):D → D → (D → Prop) → Prop:=fun a b q => match a,b with
  | .int i,.int j => C i j ∧ q (.int (g i j))
  | _,_ => False
def fB (g:Int → Int → Bool):D → D → (D → Prop) → Prop:=fun a b q => match a,b with
  | .int i,.int j => q (.bl (g i j))
  | _,_ => False
theorem dI {g:Int → Int → Int}:DOp (rI0 fun i j => .int (g i j)) (fI g):=fun G H x y dx dy q Q s p1 p2 hf k => by
  unfold fI at hf
  split at hf
  · exact ⟨_,_,rep_int_of p1,rep_int_of p2,k _ _ hf (rep_int _)⟩
  · exact hf.elim
theorem dIC {C:Int → Int → Prop} {g:Int → Int → Int}:DOp (rI C fun i j => .int (g i j)) (fIC C g):=fun G H x y dx dy q Q s p1 p2 hf k => by
  unfold fIC at hf
  split at hf
  · exact ⟨_,_,rep_int_of p1,rep_int_of p2,hf.1,k _ _ hf.2 (rep_int _)⟩
  · exact hf.elim
theorem dB {g:Int → Int → Bool}:DOp (rI0 fun i j => .bl (g i j)) (fB g):=fun G H x y dx dy q Q s p1 p2 hf k => by
  unfold fB at hf
  split at hf
  · exact ⟨_,_,rep_int_of p1,rep_int_of p2,k _ _ hf (rep_bl _)⟩
  · exact hf.elim
def eqD (a b:D):Bool:=PyData.eqv (toP a) (toP b)
def okD (a:D):Bool:=SeqAt.shaped (toP a)
def fEq:D → D → (D → Prop) → Prop:=fun a b q => match a,b with
  | .int i,.int j => q (.bl (decide (i = j)))
  | a,b => okD a = true ∧ okD b = true ∧ q (.bl (eqD a b))
def fNe:D → D → (D → Prop) → Prop:=fun a b q => match a,b with
  | .int i,.int j => q (.bl (!decide (i = j)))
  | a,b => okD a = true ∧ okD b = true ∧ q (.bl (!eqD a b))
theorem eqD_int (i j:Int):eqD (.int i) (.int j) = decide (i = j):=by
  unfold eqD; rw [toP,toP,PyData.eqv]; first | rfl | (rw [Bool.beq_eq_decide_eq])
theorem okD_int (i:Int):okD (.int i) = true:=by unfold okD; rw [toP]; rfl
theorem dEq:DOp rEqD fEq:=fun G H x y dx dy q Q s p1 p2 hf k => by
  have main:okD dx = true ∧ okD dy = true ∧ q (.bl (eqD dx dy)):=by
    unfold fEq at hf
    split at hf
    · exact ⟨okD_int _,okD_int _,by rw [eqD_int]; exact hf⟩
    · exact hf
  exact ⟨dx,dy,Rep.mono s _ _ p1,Rep.mono s _ _ p2,main.1,main.2.1,k _ _ main.2.2 (rep_bl _)⟩
theorem dNe:DOp rNeD fNe:=fun G H x y dx dy q Q s p1 p2 hf k => by
  have main:okD dx = true ∧ okD dy = true ∧ q (.bl (!eqD dx dy)):=by
    unfold fNe at hf
    split at hf
    · exact ⟨okD_int _,okD_int _,by rw [eqD_int]; exact hf⟩
    · exact hf
  exact ⟨dx,dy,Rep.mono s _ _ p1,Rep.mono s _ _ p2,main.1,main.2.1,k _ _ main.2.2 (rep_bl _)⟩
def isNon:D → Bool
  | .non => true
  | _ => false
theorem rep_non_iff {G:Hp} {d:D} {v:V} (h:Rep G d v):decide (v = .non) = isNon d:=by
  cases d <;> rw [Rep] at h
  case non => subst h; rfl
  case tup => obtain ⟨a,xs,rfl,_⟩:=h; rfl
  case lst => obtain ⟨a,xs,rfl,_⟩:=h; rfl
  case dct => obtain ⟨a,xs,rfl,_⟩:=h; rfl
  case scr => obtain ⟨a,rfl,_⟩:=h; rfl
  case ext => obtain ⟨a,H0,rfl,_⟩:=h; rfl
  all_goals subst h; rfl
def fIsN:D → D → (D → Prop) → Prop:=fun a b q => match b with
  | .non => q (.bl (isNon a))
  | _ => False
theorem dIsN:DOp (fun x y H Q => y = .non ∧ Q (.bl (decide (x = .non))) H) fIsN:=fun G H x y dx dy q Q s p1 p2 hf k => by
  unfold fIsN at hf
  split at hf
  · rw [Rep] at p2; exact ⟨p2,by rw [rep_non_iff p1]; exact k _ _ hf (rep_bl _)⟩
  · exact hf.elim
def fIsB:D → D → (D → Prop) → Prop:=fun a b q => match a,b with
  | .bl x,.bl y => q (.bl (x == y))
  | _,_ => False
def fIsNB:D → D → (D → Prop) → Prop:=fun a b q => match a,b with
  | .bl x,.bl y => q (.bl (x != y))
  | _,_ => False
theorem dIsB:DOp (fun x y H Q => ∃ b c,x = .bl b ∧ y = .bl c ∧ Q (.bl (b == c)) H) fIsB:=fun G H x y dx dy q Q s p1 p2 hf k => by
  unfold fIsB at hf
  split at hf
  · exact ⟨_,_,rep_bl_of p1,rep_bl_of p2,k _ _ hf (rep_bl _)⟩
  · exact hf.elim
theorem dIsNB:DOp (fun x y H Q => ∃ b c,x = .bl b ∧ y = .bl c ∧ Q (.bl (b != c)) H) fIsNB:=fun G H x y dx dy q Q s p1 p2 hf k => by
  unfold fIsNB at hf
  split at hf
  · exact ⟨_,_,rep_bl_of p1,rep_bl_of p2,k _ _ hf (rep_bl _)⟩
  · exact hf.elim
def flatD:D → Bool
  | .non => true
  | .bl _ => true
  | .int _ => true
  | .str _ => true
  | _ => false
def eqF:D → D → Bool
  | .non,.non => true
  | .bl a,.bl b => a == b
  | .bl a,.int b => (if a then 1 else 0) == b
  | .int a,.bl b => a == (if b then 1 else 0)
  | .int a,.int b => a == b
  | .str a,.str b => a == b
  | _,_ => false
def inD (a:D) (ds:List D):Bool:=ds.any fun y => eqF y a
def fIn (neg:Bool):D → D → (D → Prop) → Prop:=fun a b q => match b with
  | .lst ds => flatD a = true ∧ ds.all flatD = true ∧ q (.bl (if neg then !inD a ds else inD a ds))
  | .tup ds => flatD a = true ∧ ds.all flatD = true ∧ q (.bl (if neg then !inD a ds else inD a ds))
  | _ => False
def atD (ds:List D) (i:Int) (q:D → Prop):Prop:=match atI ds i with
  | some d => q d
  | none => False
def fIx (K:PySem.W.Frag):D → D → (D → Prop) → Prop:=fun a b q => match a,b with
  | .lst ds,.int i => atD ds i q
  | .tup ds,.int i => atD ds i q
  | .scr φ ns,.int i => (∀ a H,φ a → SqL K H a (ns.map V.int)) ∧ match atI ns i with
    | some n => q (.int n)
    | none => False
  | _,_ => False
theorem reps_get {G:Hp}:∀ {ds:List D} {xs:List V} {j:Nat} {d:D},Reps G ds xs → ds[j]? = some d → ∃ v,xs[j]? = some v ∧ Rep G d v
  | [],_,_,_,_,e => by simp at e
  | d :: ds,xs,0,e,h,q => by rw [Reps] at h; obtain ⟨v,vs,rfl,h1,_⟩:=h; simp at q; subst q; exact ⟨v,rfl,h1⟩
  | d :: ds,xs,j + 1,e,h,q => by
    rw [Reps] at h
    obtain ⟨v,vs,rfl,_,h2⟩:=h
    obtain ⟨u,e1,e2⟩:=reps_get (j:=j) h2 (by simpa using q)
    exact ⟨u,by simpa using e1,e2⟩
theorem reps_atI {G:Hp} {ds:List D} {xs:List V} {i:Int} {d:D} (h:Reps G ds xs) (e:atI ds i = some d):∃ v,atI xs i = some v ∧ Rep G d v:=by
  unfold atI at *
  rw [h.length]
  cases q:ixN ds.length i with
  | none => rw [q] at e; cases e
  | some j => rw [q] at e; exact reps_get h e
theorem atI_map {α β:Type} {f : α → β} {xs:List α} {i:Int} {x : α} (h:atI xs i = some x):atI (xs.map f) i = some (f x):=by
  unfold atI at *
  rw [List.length_map]
  cases q:ixN xs.length i with
  | none => rw [q] at h; cases h
  | some j => rw [q] at h; rw [show (Option.some j).bind _ = (xs.map f)[j]? from rfl,List.getElem?_map,show xs[j]? = some x from h]; rfl
theorem dIx {K:PySem.W.Frag}:DOp (rIx K) (fIx K):=fun G H x y dx dy q Q s p1 p2 hf k => by
  unfold fIx at hf
  split at hf
  · rw [Rep] at p1
    obtain ⟨a,xs,rfl,h1,h2⟩:=p1
    unfold atD at hf
    split at hf
    · rename_i e
      obtain ⟨v,e1,e2⟩:=reps_atI h2 e
      exact .inl ⟨a,xs,_,v,rfl,rep_int_of p2,SqL.of (s _ _ h1),e1,k _ _ hf e2⟩
    · exact hf.elim
  · rw [Rep] at p1
    obtain ⟨a,xs,rfl,h1,h2⟩:=p1
    unfold atD at hf
    split at hf
    · rename_i e
      obtain ⟨v,e1,e2⟩:=reps_atI h2 e
      exact .inr (.inl ⟨a,xs,_,v,rfl,rep_int_of p2,SqT.of (s _ _ h1),e1,k _ _ hf e2⟩)
    · exact hf.elim
  · rw [Rep] at p1
    obtain ⟨a,rfl,h1⟩:=p1
    obtain ⟨hk,hf⟩:=hf
    split at hf
    · rename_i e
      refine .inl ⟨a,_,_,_,rfl,rep_int_of p2,?_,atI_map e,k _ _ hf (rep_int _)⟩
      rcases h1 with ⟨o,h1⟩ | h1
      · exact .inl (.inr ⟨o,s _ _ h1⟩)
      · exact hk a H h1
    · exact hf.elim
  · exact hf.elim
def fLen (K:PySem.W.Frag):List D → (D → Prop) → Prop:=fun ds q => match ds with
  | [.lst ds] => q (.int ds.length)
  | [.tup ds] => q (.int ds.length)
  | [.scr φ ns] => (∀ a H,φ a → SqL K H a (ns.map V.int)) ∧ q (.int ns.length)
  | _ => False
theorem rep_lst_of {G:Hp} {ds:List D} {v:V} (h:Rep G (.lst ds) v):∃ a xs,v = .ref a ∧ G a = some (.lst xs) ∧ Reps G ds xs:=by rw [Rep] at h; exact h
theorem rep_tup_of {G:Hp} {ds:List D} {v:V} (h:Rep G (.tup ds) v):∃ a xs,v = .ref a ∧ G a = some (.tup xs) ∧ Reps G ds xs:=by rw [Rep] at h; exact h
theorem rep_scr_of {G:Hp} {φ:Addr → Prop} {ns:List Int} {v:V} (h:Rep G (.scr φ ns) v):∃ a,v = .ref a ∧ ((∃ o,G a = some (.frz o (.lst (ns.map V.int)))) ∨ φ a):=by rw [Rep] at h; exact h
theorem reps_one {G:Hp} {d:D} {xs:List V} (h:Reps G [d] xs):∃ v,xs = [v] ∧ Rep G d v:=by
  rw [Reps] at h; obtain ⟨v,vs,rfl,h1,h2⟩:=h; rw [Reps] at h2; subst h2; exact ⟨v,rfl,h1⟩
theorem reps_two {G:Hp} {d e:D} {xs:List V} (h:Reps G [d,e] xs):∃ v u,xs = [v,u] ∧ Rep G d v ∧ Rep G e u:=by
  rw [Reps] at h; obtain ⟨v,vs,rfl,h1,h2⟩:=h; obtain ⟨u,rfl,h3⟩:=reps_one h2; exact ⟨v,u,rfl,h1,h3⟩
theorem dLen {K:PySem.W.Frag}:DCall (fun xs H Q => ∃ p ys,xs = [.ref p] ∧ (SqL K H p ys ∨ SqT K H p ys) ∧ Q (.int ys.length) H) (fLen K):=fun G H xs ds q Q s p hf k => by
  unfold fLen at hf
  split at hf
  · obtain ⟨v,rfl,p1⟩:=reps_one p
    obtain ⟨a,xs,rfl,h1,h2⟩:=rep_lst_of p1
    exact ⟨a,xs,rfl,.inl (SqL.of (s _ _ h1)),by rw [h2.length]; exact k _ _ hf (rep_int _)⟩
  · obtain ⟨v,rfl,p1⟩:=reps_one p
    obtain ⟨a,xs,rfl,h1,h2⟩:=rep_tup_of p1
    exact ⟨a,xs,rfl,.inr (SqT.of (s _ _ h1)),by rw [h2.length]; exact k _ _ hf (rep_int _)⟩
  · obtain ⟨v,rfl,p1⟩:=reps_one p
    obtain ⟨a,rfl,h1⟩:=rep_scr_of p1
    rename_i φ ns
    have hS:SqL K H a (ns.map V.int):=by
      rcases h1 with ⟨o,h1⟩ | h1
      · exact .inl (.inr ⟨o,s _ _ h1⟩)
      · exact hf.1 a H h1
    exact ⟨a,_,rfl,.inl hS,by rw [List.length_map]; exact k _ _ hf.2 (rep_int _)⟩
  · exact hf.elim
def fMax:List D → (D → Prop) → Prop:=fun ds q => match ds with
  | [.int i,.int j] => q (.int (if j > i then j else i))
  | _ => False
def fMin:List D → (D → Prop) → Prop:=fun ds q => match ds with
  | [.int i,.int j] => q (.int (if j < i then j else i))
  | _ => False
theorem dMax:DCall (fun xs H Q => ∃ i j,xs = [.int i,.int j] ∧ Q (.int (if j > i then j else i)) H) fMax:=fun G H xs ds q Q s p hf k => by
  unfold fMax at hf
  split at hf
  · obtain ⟨v,u,rfl,p1,p2⟩:=reps_two p
    rw [rep_int_of p1,rep_int_of p2]
    exact ⟨_,_,rfl,k _ _ hf (rep_int _)⟩
  · exact hf.elim
theorem dMin:DCall (fun xs H Q => ∃ i j,xs = [.int i,.int j] ∧ Q (.int (if j < i then j else i)) H) fMin:=fun G H xs ds q Q s p hf k => by
  unfold fMin at hf
  split at hf
  · obtain ⟨v,u,rfl,p1,p2⟩:=reps_two p
    rw [rep_int_of p1,rep_int_of p2]
    exact ⟨_,_,rfl,k _ _ hf (rep_int _)⟩
  · exact hf.elim
def fAbs:List D → (D → Prop) → Prop:=fun ds q => match ds with
  | [.int i] => q (.int (if i < 0 then -i else i))
  | _ => False
theorem dAbs:DCall (fun xs H Q => ∃ i,xs = [.int i] ∧ Q (.int (if i < 0 then -i else i)) H) fAbs:=fun G H xs ds q Q s p hf k => by
  unfold fAbs at hf
  split at hf
  · obtain ⟨v,rfl,p1⟩:=reps_one p
    rw [rep_int_of p1]
    exact ⟨_,rfl,k _ _ hf (rep_int _)⟩
  · exact hf.elim
section
variable {X:Cx} {ow:List Bool} {a b c e:Expr} {ma mb mc:ME} {pos:Pos} {mr:MA} {es:List Expr}
def mNeg (m:ME):ME:=fun ρ q => m ρ fun d ρ' => match d with
  | .int i => q (.int (-i)) ρ'
  | _ => False
theorem qe_neg (h:QE X ow a ma):QE X ow (.UnaryOp .USub a pos) (mNeg ma):=by
  obtain ⟨t,p,s⟩:=h
  refine ⟨_,pe_un un_neg p,fun C G ρ σ H pd q Q r hm k => s C G ρ σ H pd _ _ r hm fun d ρ' v G' H' hq s kp r' p => ?_⟩
  cases d with
  | int i => exact ⟨i,rep_int_of p,k _ ρ' _ G' H' hq s kp r' (rep_int _)⟩
  | _ => exact hq.elim
def mIsT (T:String) (m:ME):ME:=fun ρ q => m ρ fun d ρ' => match isTy d T with
  | some b => q (.bl b) ρ'
  | none => False
theorem qe_isT {T:String} {x y:Str} {p1 p2:Pos} (hg:Gl X x) (hm:X.mg x = none) (hv:bootBuiltins x = some (.builtin "isinstance")) (ha:QE X ow a ma) (ht:PE X (.Name y p2) (tC (.ty T)))
    (hn:x ≠ "__name__":=by decide) (hdb:(x == ("__debug__":Str)) = false:=by decide)
    (hs:starEach [.Name y p2] X.env = [(false,eval (.Name y p2) X.env)]:=by rfl)
    (he:starEach [a,.Name y p2] X.env = (false,eval a X.env) :: starEach [.Name y p2] X.env:=by rfl) (hpl:(backTo pos (starEach [.Name y p2] X.env)).any (·.1) = false:=by rfl) :
    QE X ow (.Call (.Name x p1) [a,.Name y p2] [] pos) (mIsT T ma):=by
  obtain ⟨t,p,s⟩:=ha
  refine ⟨_,pe_callB call_isinst hg hm hv (pa_cons p (pa_cons ht pa_nil hs) he) hn hdb he hpl,fun C G ρ σ H pd q Q r hm k => s C G ρ σ H pd _ _ r hm fun d ρ' v G' H' hq s kp r' p => ?_⟩
  cases e:isTy d T with
  | none => rw [e] at hq; exact hq.elim
  | some b => rw [e] at hq; exact ⟨v,T,d,b,rfl,Rep.mono r'.gh _ _ p,e,k _ ρ' _ G' H' hq s kp r' (rep_bl _)⟩
def mChain (f g:D → D → (D → Prop) → Prop) (ma mb mc:ME):ME:=fun ρ q => ma ρ fun x ρ1 => mb ρ1 fun y ρ2 => f x y fun z => match z with
  | .bl k => if k = true then mc ρ2 fun w ρ3 => g y w fun d => q d ρ3 else q (.bl false) ρ2
  | _ => False
theorem se_chain {r r':R2} {f g:D → D → (D → Prop) → Prop} {ta tb tc:TE} (hf:DOp r f) (hg:DOp r' g) (ha:SE ow ta ma) (hb:SE ow tb mb) (hc:SE ow tc mc):SE ow (tChain r r' ta tb tc) (mChain f g ma mb mc):=fun C G ρ σ H pd q Q hr h k => by
  refine se_two (Q:=fun x y H2 => r x y H2 _) ha hb hr h fun dx dy ρ' x y G' H' h1 s kp r1 p1 p2 => ?_
  refine hf G' H' x y dx dy _ _ r1.gh p1 p2 h1 fun d v hq p => ?_
  cases d with
  | bl b =>
    refine ⟨b,rep_bl_of p,?_⟩
    change (if b = true then _ else _) at hq
    cases b with
    | true =>
      rw [if_pos rfl] at hq ⊢
      refine hc C G' ρ' σ H' pd _ _ r1 hq fun dw ρ3 w G3 H3 h3 s3 kp3 r3 p3 => ?_
      exact hg G3 H3 y w dy dw _ _ r3.gh (Rep.mono s3 _ _ p2) p3 h3 fun d v hq p => k d ρ3 v G3 H3 hq (s.trans s3) (kp.trans kp3) r3 p
    | false => rw [if_neg (by decide)] at hq ⊢; exact k _ ρ' _ G' H' hq s kp r1 (rep_bl _)
  | _ => exact hq.elim
theorem qe_chain {op op':CmpOp} {r r':R2} {f g:D → D → (D → Prop) → Prop} (ho:OpR X (compareOp op) r) (ho':OpR X (compareOp op') r') (hf:DOp r f) (hg:DOp r' g) (ha:QE X ow a ma) (hb:QE X ow b mb) (hc:QE X ow c mc)
    (hm:lastMarks [op,op'] [b,c] = false:=by with_unfolding_all rfl):QE X ow (.Compare a [op,op'] [b,c] pos) (mChain f g ma mb mc):=by
  obtain ⟨ta,pa,sa⟩:=ha; obtain ⟨tb,pb,sb⟩:=hb; obtain ⟨tc,pc,sc⟩:=hc
  exact ⟨_,pe_chain ho ho' pa pb pc hm,se_chain hf hg sa sb sc⟩
def DNew (r:List V → Hp → VK → Prop) (f:List D → (List D → Prop) → Prop):Prop:=∀ (G H:Hp) (xs:List V) (ds:List D) (q:List D → Prop) (Q:VK),Same G H → Reps G ds xs → f ds q →
  (∀ es ys p,q es → Reps G es ys → H p = none → Q (.ref p) (upd H p (.lst ys))) → r xs H Q
def mNew (f:List D → (List D → Prop) → Prop) (m:MA):ME:=fun ρ q => m ρ fun ds ρ' => f ds fun es => imms es = true ∧ q (.lst es) ρ'
def mNewS (f:List D → (List D → Prop) → Prop) (m:MA):ME:=fun ρ q => m ρ fun ds ρ' => f ds fun es => q (.lst es) ρ'
theorem sf_new {r:List V → Hp → VK → Prop} {f:List D → (List D → Prop) → Prop} {t:TA} {n:Nat} (hd:DNew r f) (s:SA ow n t mr):SF ow (fun σ H Q => t σ H fun xs H1 => r xs H1 Q) (mNew f mr):=fun C G ρ σ H pd q Q hr hm k =>
  s C G ρ σ H pd _ _ hr hm fun ds ρ' vs G' H' hq z kp r' p hn => hd G' H' vs ds _ _ r'.gh p hq fun es ys a hq p ha => by
    obtain ⟨O,r'⟩:=r'
    exact k _ ρ' _ _ _ hq.2 z kp (r'.newL ha hq.1 p)
theorem se_new {r:List V → Hp → VK → Prop} {f:List D → (List D → Prop) → Prop} {t:TA} {n:Nat} (hd:DNew r f) (s:SA ow n t mr):SE ow (fun σ H Q => t σ H fun xs H1 => r xs H1 Q) (mNewS f mr):=fun C G ρ σ H pd q Q hr hm k =>
  s C G ρ σ H pd _ _ hr hm fun ds ρ' vs G' H' hq z kp r' p hn => hd G' H' vs ds _ _ r'.gh p hq fun es ys a hq p ha => by
    obtain ⟨O,r'⟩:=r'
    obtain ⟨r2,s2⟩:=r'.new ha (.lst ys)
    exact k _ ρ' _ _ _ hq (z.trans s2) kp ⟨O,r2⟩ (rep_lst upd_same (Reps.mono s2 _ _ p))
theorem sa_two {ta tb:TE} (ha:SE ow ta ma) (hb:SE ow tb mb):SA ow 2 (fun σ H Q => ta σ H fun x H1 => tb σ H1 fun y H2 => Q [x,y] H2) (mCons ma (mCons mb mNil)):=fun C G ρ σ H pd q Q hr hm k =>
  se_two (Q:=fun x y H2 => Q [x,y] H2) ha hb hr hm fun dx dy ρ' x y G' H' h1 s kp r1 p1 p2 => k [dx,dy] ρ' [x,y] G' H' h1 s kp r1 (reps_cons p1 (reps_cons p2 reps_nil)) rfl
theorem reps_app {G:Hp}:∀ {ds es:List D} {xs ys:List V},Reps G ds xs → Reps G es ys → Reps G (ds ++ es) (xs ++ ys)
  | [],es,xs,ys,h,h2 => by rw [Reps] at h; subst h; exact h2
  | d :: ds,es,xs,ys,h,h2 => by rw [Reps] at h; obtain ⟨v,vs,rfl,h1,h3⟩:=h; exact reps_cons h1 (reps_app h3 h2)
theorem reps_drop {G:Hp}:∀ {ds:List D} {xs:List V} (n:Nat),Reps G ds xs → Reps G (ds.drop n) (xs.drop n)
  | [],xs,n,h => by rw [Reps] at h; subst h; simp; exact reps_nil
  | d :: ds,xs,0,h => h
  | d :: ds,xs,n + 1,h => by rw [Reps] at h; obtain ⟨v,vs,rfl,h1,h3⟩:=h; exact reps_drop n h3
theorem reps_take {G:Hp}:∀ {ds:List D} {xs:List V} (n:Nat),Reps G ds xs → Reps G (ds.take n) (xs.take n)
  | [],xs,n,h => by rw [Reps] at h; subst h; simp; exact reps_nil
  | d :: ds,xs,0,h => by simp; exact reps_nil
  | d :: ds,xs,n + 1,h => by rw [Reps] at h; obtain ⟨v,vs,rfl,h1,h3⟩:=h; exact reps_cons h1 (reps_take n h3)
theorem reps_rep {G:Hp} {ds:List D} {xs:List V} (h:Reps G ds xs):∀ n:Nat,Reps G (List.replicate n ds).flatten (List.replicate n xs).flatten
  | 0 => by simp; exact reps_nil
  | n + 1 => by simp [List.replicate_succ]; exact reps_app h (reps_rep h n)
def fCat:List D → (List D → Prop) → Prop:=fun ds q => match ds with
  | [.lst xs,.lst ys] => xs.length + ys.length ≤ 1000 ∧ q (xs ++ ys)
  | _ => False
theorem dCat:DNew (fun xs H Q => ∃ x y,xs = [x,y] ∧ rCat x y H Q) fCat:=fun G H xs ds q Q s p hf k => by
  unfold fCat at hf
  split at hf
  · obtain ⟨v,u,rfl,p1,p2⟩:=reps_two p
    rw [Rep] at p1 p2
    obtain ⟨a1,xs,rfl,h1,h2⟩:=p1
    obtain ⟨a2,ys,rfl,h3,h4⟩:=p2
    exact ⟨_,_,rfl,a1,a2,xs,ys,rfl,rfl,s _ _ h1,s _ _ h3,le_line (by rw [h2.length,h4.length]; exact hf.1),fun p hp => k _ _ p hf.2 (reps_app h2 h4) hp⟩
  · exact hf.elim
def fRep:List D → (List D → Prop) → Prop:=fun ds q => match ds with
  | [.lst xs,.int n] => (-(2 ^ 63) ≤ n ∧ n < 2 ^ 63 ∧ xs.length * n.toNat ≤ 1000) ∧ q (List.replicate n.toNat xs).flatten
  | _ => False
theorem dRep:DNew (fun xs H Q => ∃ x y,xs = [x,y] ∧ rRep x y H Q) fRep:=fun G H xs ds q Q s p hf k => by
  unfold fRep at hf
  split at hf
  · obtain ⟨v,u,rfl,p1,p2⟩:=reps_two p
    obtain ⟨a1,xs,rfl,h1,h2⟩:=rep_lst_of p1
    rw [rep_int_of p2]
    exact ⟨_,_,rfl,a1,_,xs,rfl,rfl,s _ _ h1,hf.1.1,hf.1.2.1,le_line (by rw [h2.length]; exact hf.1.2.2),fun p hp => k _ _ p hf.2 (reps_rep h2 _) hp⟩
  · exact hf.elim
def mMk (f:List D → (List D → Prop) → Prop) (ma mb:ME):ME:=mNew f (mCons ma (mCons mb mNil))
def mMkS (f:List D → (List D → Prop) → Prop) (ma mb:ME):ME:=mNewS f (mCons ma (mCons mb mNil))
def R2ok (r:R2):List V → Hp → VK → Prop:=fun xs H Q => match xs with
  | [x,y] => r x y H Q
  | _ => False
theorem DNew.r2 {r:R2} {f:List D → (List D → Prop) → Prop} (h:DNew (fun xs H Q => ∃ x y,xs = [x,y] ∧ r x y H Q) f):DNew (R2ok r) f:=fun G H xs ds q Q s p hf k => by
  obtain ⟨x,y,rfl,z⟩:=h G H xs ds q Q s p hf k
  exact z
theorem qf_mk {op:Operator} {r:R2} {f:List D → (List D → Prop) → Prop} (ho:OpR X (binaryOp op) r) (hd:DNew (fun xs H Q => ∃ x y,xs = [x,y] ∧ r x y H Q) f) (ha:QE X ow a ma) (hb:QE X ow b mb):QF X ow (.BinOp a op b pos) (mMk f ma mb):=by
  obtain ⟨ta,pa,sa⟩:=ha; obtain ⟨tb,pb,sb⟩:=hb
  exact ⟨tOp r ta tb,pe_op ho pa pb,sf_new (r:=R2ok r) hd.r2 (sa_two sa sb)⟩
theorem qe_mk {op:Operator} {r:R2} {f:List D → (List D → Prop) → Prop} (ho:OpR X (binaryOp op) r) (hd:DNew (fun xs H Q => ∃ x y,xs = [x,y] ∧ r x y H Q) f) (ha:QE X ow a ma) (hb:QE X ow b mb):QE X ow (.BinOp a op b pos) (mMkS f ma mb):=by
  obtain ⟨ta,pa,sa⟩:=ha; obtain ⟨tb,pb,sb⟩:=hb
  exact ⟨tOp r ta tb,pe_op ho pa pb,se_new (r:=R2ok r) hd.r2 (sa_two sa sb)⟩
def fList:List D → (List D → Prop) → Prop:=fun ds q => match ds with
  | [.lst xs] => q xs
  | [.tup xs] => q xs
  | _ => False
theorem dList {K:PySem.W.Frag}:DNew (fun xs H Q => ∃ p ys,xs = [.ref p] ∧ (SqL K H p ys ∨ SqT K H p ys) ∧ ∀ l,H l = none → Q (.ref l) (upd H l (.lst ys))) fList:=fun G H xs ds q Q s p hf k => by
  unfold fList at hf
  split at hf
  · obtain ⟨v,rfl,p1⟩:=reps_one p
    obtain ⟨a,xs,rfl,h1,h2⟩:=rep_lst_of p1
    exact ⟨a,xs,rfl,.inl (SqL.of (s _ _ h1)),fun l hl => k _ _ l hf h2 hl⟩
  · obtain ⟨v,rfl,p1⟩:=reps_one p
    obtain ⟨a,xs,rfl,h1,h2⟩:=rep_tup_of p1
    exact ⟨a,xs,rfl,.inr (SqT.of (s _ _ h1)),fun l hl => k _ _ l hf h2 hl⟩
  · exact hf.elim
variable {x:Str} {p':Pos}
theorem qf_callTy {id:String} {r:List V → Hp → VK → Prop} {f:List D → (List D → Prop) → Prop} (hc:CallR X (.type id) r) (hd:DNew r f) (hg:Gl X x) (hm:X.mg x = none) (hv:bootBuiltins x = some (.type id)) (ha:QA X ow (e :: es) mr) (hn:x ≠ "__name__":=by decide) (hdb:(x == ("__debug__":Str)) = false:=by decide)
    (he:starEach (e :: es) X.env = (false,eval e X.env) :: starEach es X.env:=by rfl) (hpl:(backTo pos (starEach es X.env)).any (·.1) = false:=by rfl):QF X ow (.Call (.Name x p') (e :: es) [] pos) (mNew f mr):=by
  obtain ⟨t,p,s⟩:=ha
  exact ⟨_,pe_callTy hc hg hm hv p hn hdb he hpl,sf_new hd s⟩
theorem qe_callTyN {id:String} {r:List V → Hp → VK → Prop} {f:List D → (List D → Prop) → Prop} (hc:CallR X (.type id) r) (hd:DNew r f) (hg:Gl X x) (hm:X.mg x = none) (hv:bootBuiltins x = some (.type id)) (ha:QA X ow (e :: es) mr) (hn:x ≠ "__name__":=by decide) (hdb:(x == ("__debug__":Str)) = false:=by decide)
    (he:starEach (e :: es) X.env = (false,eval e X.env) :: starEach es X.env:=by rfl) (hpl:(backTo pos (starEach es X.env)).any (·.1) = false:=by rfl):QE X ow (.Call (.Name x p') (e :: es) [] pos) (mNewS f mr):=by
  obtain ⟨t,p,s⟩:=ha
  exact ⟨_,pe_callTy hc hg hm hv p hn hdb he hpl,se_new hd s⟩
theorem qf_callB {id:String} {r:List V → Hp → VK → Prop} {f:List D → (List D → Prop) → Prop} (hc:CallR X (.builtin id) r) (hd:DNew r f) (hg:Gl X x) (hm:X.mg x = none) (hv:bootBuiltins x = some (.builtin id)) (ha:QA X ow (e :: es) mr) (hn:x ≠ "__name__":=by decide) (hdb:(x == ("__debug__":Str)) = false:=by decide)
    (he:starEach (e :: es) X.env = (false,eval e X.env) :: starEach es X.env:=by rfl) (hpl:(backTo pos (starEach es X.env)).any (·.1) = false:=by rfl):QF X ow (.Call (.Name x p') (e :: es) [] pos) (mNew f mr):=by
  obtain ⟨t,p,s⟩:=ha
  exact ⟨_,pe_callB hc hg hm hv p hn hdb he hpl,sf_new hd s⟩
def cutD (xs:List D) (lo hi:Option Int):List D:=(xs.drop (HT.sIx xs.length 0 lo)).take (HT.sIx xs.length xs.length hi - HT.sIx xs.length 0 lo)
theorem reps_cut {G:Hp} {ds:List D} {xs:List V} (h:Reps G ds xs) (lo hi:Option Int):Reps G (cutD ds lo hi) (cutV xs lo hi):=by
  unfold cutD cutV
  rw [h.length]
  exact reps_take _ (reps_drop _ h)
abbrev MO:=DSt → (Option Int → DSt → Prop) → Prop
def SO (ow:List Bool) (t:TO) (m:MO):Prop:=∀ (C:Ctx) (G:Hp) (ρ:DSt) (σ:St) (H:Hp) (pd:List (D × V)) (q:Option Int → DSt → Prop) (Q:Option Int → Hp → Prop),R C ow G ρ σ H pd → m ρ q →
  (∀ b ρ' G' H',q b ρ' → Same G G' → Kp ow ρ ρ' → R C ow G' ρ' σ H' pd → Q b H') → t σ H Q
structure QO (X:Cx) (ow:List Bool) (e:Option Expr) (m:MO):Prop where
  ex:∃ t,PO X e t ∧ SO ow t m
def mNoPart:MO:=fun ρ q => q none ρ
def mPart (m:ME):MO:=fun ρ q => m ρ fun d ρ' => match d with
  | .int i => q (some i) ρ'
  | _ => False
theorem qo_none:QO X ow none mNoPart:=⟨_,po_none,fun C G ρ σ H pd q Q r h k => k none ρ G H h (Same.refl _) Kp.refl r⟩
theorem qo_some (h:QE X ow e ma):QO X ow (some e) (mPart ma):=by
  obtain ⟨t,p,s⟩:=h
  refine ⟨_,po_some p,fun C G ρ σ H pd q Q r hm k => s C G ρ σ H pd _ _ r hm fun d ρ' v G' H' hq s kp r' p => ?_⟩
  cases d with
  | int i => exact ⟨i,rep_int_of p,k _ ρ' G' H' hq s kp r'⟩
  | _ => exact hq.elim
def mSl (m:ME) (ml mh:MO):ME:=fun ρ q => m ρ fun d ρ1 => ml ρ1 fun lo ρ2 => mh ρ2 fun hi ρ3 => match d with
  | .lst ds => imms (cutD ds lo hi) = true ∧ q (.lst (cutD ds lo hi)) ρ3
  | _ => False
def mSlS (m:ME) (ml mh:MO):ME:=fun ρ q => m ρ fun d ρ1 => ml ρ1 fun lo ρ2 => mh ρ2 fun hi ρ3 => match d with
  | .lst ds => q (.lst (cutD ds lo hi)) ρ3
  | _ => False
variable {lo hi:Option Expr} {ml mh:MO} {p2:Pos}
theorem qe_slice (h:QE X ow e ma) (hl:QO X ow lo ml) (hh:QO X ow hi mh):QE X ow (.Subscript e (.Slice lo hi none p2) pos) (mSlS ma ml mh):=by
  obtain ⟨t,p,s⟩:=h; obtain ⟨t1,p1,s1⟩:=hl; obtain ⟨t2,p2,s2⟩:=hh
  refine ⟨_,pe_slice sl_list p p1 p2,fun C G ρ σ H pd q Q r hm k => s C G ρ σ H pd _ _ r hm fun d ρ' v G' H' hq z kp r' p => ?_⟩
  refine s1 C G' ρ' σ H' pd _ _ r' hq fun l ρ1 G1 H1 hq1 z1 kp1 r1 => s2 C G1 ρ1 σ H1 pd _ _ r1 hq1 fun u ρ2 G2 H2 hq2 z2 kp2 r2 => ?_
  cases d with
  | lst ds =>
    obtain ⟨a,xs,rfl,h1,h2⟩:=rep_lst_of (Rep.mono (z1.trans z2) _ _ p)
    refine ⟨a,xs,rfl,SqL.of (r2.gh _ _ h1),fun b hb => ?_⟩
    obtain ⟨O,r2⟩:=r2
    obtain ⟨r3,z3⟩:=r2.new hb (.lst (cutV xs l u))
    exact k _ ρ2 _ _ _ hq2 (z.trans (z1.trans (z2.trans z3))) (kp.trans (kp1.trans kp2)) ⟨O,r3⟩ (rep_lst upd_same (Reps.mono z3 _ _ (reps_cut h2 _ _)))
  | _ => exact hq2.elim
end
def ownM (f:Nat → Option Nat) (O:Own):Own:=fun a => match O a with
  | some m => (f m.1).map fun l => (l,m.2)
  | none => none
theorem ownM_at {f:Nat → Option Nat} {O:Own} {a:Addr} {l l':Nat} {π:List Nat} (h:O a = some (l,π)) (hf:f l = some l'):ownM f O a = some (l',π):=by unfold ownM; rw [h]; show (f l).map _ = _; rw [hf]; rfl
theorem ownM_of {f:Nat → Option Nat} {O:Own} {a:Addr} {l':Nat} {π:List Nat} (h:ownM f O a = some (l',π)):∃ l,O a = some (l,π) ∧ f l = some l':=by
  unfold ownM at h
  cases e:O a with
  | none => rw [e] at h; cases h
  | some m =>
    rw [e] at h
    change (f m.1).map _ = _ at h
    cases e2:f m.1 with
    | none => rw [e2] at h; cases h
    | some l => rw [e2] at h; cases h; exact ⟨m.1,rfl,e2⟩
theorem ownM_none {f:Nat → Option Nat} {O:Own} {a:Addr} {l:Nat} {π:List Nat} (h:O a = some (l,π)) (hf:f l = none):ownM f O a = none:=by unfold ownM; rw [h]; show (f l).map _ = _; rw [hf]; rfl
def msV:List Bool → List V → List (Option V)
  | b :: bs,v :: vs => (if b = true then some v else none) :: msV bs vs
  | _,_ => []
theorem msV_of:∀ {mu:List Bool} {vs:List V} {k:Nat} {v:V},(msV mu vs)[k]? = some (some v) → mu[k]? = some true ∧ vs[k]? = some v
  | [],vs,k,v,h => by simp [msV] at h
  | b :: bs,[],k,v,h => by simp [msV] at h
  | b :: bs,u :: vs,0,v,h => by
    simp only [msV,List.getElem?_cons_zero,Option.some.injEq] at h
    split at h
    · rename_i c; cases h; subst c; exact ⟨rfl,rfl⟩
    · cases h
  | b :: bs,u :: vs,k + 1,v,h => by
    simp only [msV,List.getElem?_cons_succ] at h
    simpa using msV_of h
theorem msV_at:∀ {mu:List Bool} {vs:List V} {k:Nat} {v:V},mu[k]? = some true → vs[k]? = some v → (msV mu vs)[k]? = some (some v)
  | [],vs,k,v,h,_ => by simp at h
  | b :: bs,[],k,v,_,h => by simp at h
  | b :: bs,u :: vs,0,v,h,h2 => by simp at h h2; subst h; subst h2; simp [msV]
  | b :: bs,u :: vs,k + 1,v,h,h2 => by simp only [msV,List.getElem?_cons_succ]; exact msV_at (by simpa using h) (by simpa using h2)
section
variable {C:Ctx} {ow mu:List Bool} {G:Hp} {ρ:DSt} {σ:St} {H:Hp} {pd:List (D × V)} {O:Own} {fin fbk:Nat → Option Nat}
theorem RO.into (ro:RO C ow G ρ σ H pd O) {ds:List D} {vs:List V} (hl:ds.length = vs.length)
    (hs:∀ (k:Nat) d,ds[k]? = some d → ∃ v,vs[k]? = some v ∧ if mu[k]? = some true then ∃ l,Sep G H O l d [] v ∧ fin l = some (2 * k) else Rep G d v)
    (hc:∀ l l',fin l = some l' → ∃ k,l' = 2 * k ∧ mu[k]? = some true ∧ k < vs.length) :
    RO ⟨G,H,ownM fin O,msV mu vs,0⟩ mu G (ds.map some) (vs.map some) H [] (ownM fin O):=by
  refine ⟨by simp [hl],ro.gh,fun _ _ e => e,fun _ _ e => .inl e,?_,?_,fun _ _ e _ => e,fun _ e => e,?_,?_,trivial,Nat.le_refl _⟩
  · intro a m e
    obtain ⟨l',π⟩:=m
    obtain ⟨l,e1,e2⟩:=ownM_of e
    obtain ⟨q1,q2,_⟩:=ro.og a _ e1
    exact ⟨q1,q2,.inr ⟨π,e⟩⟩
  · intro a l' π e
    obtain ⟨l,e1,e2⟩:=ownM_of e
    obtain ⟨k,rfl,h2,h3⟩:=hc _ _ e2
    exact .inl ⟨k,vs[k],rfl,msV_at h2 (List.getElem?_eq_getElem h3)⟩
  · intro k v e
    rw [List.getElem?_map,(msV_of e).2]; rfl
  · intro k d e
    rw [List.getElem?_map] at e
    cases e1:ds[k]? with
    | none => rw [e1] at e; cases e
    | some d' =>
      rw [e1] at e
      cases e
      obtain ⟨v,h1,h2⟩:=hs k d e1
      refine ⟨v,by rw [List.getElem?_map,h1]; rfl,?_⟩
      split at h2
      · rename_i c
        rw [if_pos c]
        obtain ⟨l,h3,h4⟩:=h2
        exact h3.keep (fun _ _ z => z) fun a τ q => ⟨ownM_at q h4,rfl⟩
      · rename_i c; rw [if_neg c]; exact h2
def ownB (fin fbk:Nat → Option Nat) (O O2:Own):Own:=fun a => match O2 a with
  | some m => (fbk m.1).map fun l => (l,m.2)
  | none => match ownM fin O a with
    | some _ => none
    | none => O a
theorem RO.out (ro:RO C ow G ρ σ H pd O) {vs:List V} {G2:Hp} {ρ2:DSt} {σ2:St} {H2:Hp} {pd2 pd3:List (D × V)} {O2:Own} {ρ3:DSt} {ow2:List Bool} {np:Nat} {mv:List (Option V)}
    (ri:RO ⟨G,H,ownM fin O,mv,np⟩ ow2 G2 ρ2 σ2 H2 pd2 O2) (hib:∀ l0 l' l,fin l0 = some l' → fbk l' = some l → l = l0)
    (hlen : ρ3.length = σ.length) (hnp:C.np ≤ pd3.length)
    (hS:∀ (i:Nat) d,ow[i]? ≠ some true → ρ3[i]? = some (some d) → ρ[i]? = some (some d))
    (hO:∀ (i:Nat) d,ow[i]? = some true → ρ3[i]? = some (some d) → (fin (2 * i) = none ∧ ρ[i]? = some (some d)) ∨ ∃ (k:Nat) (v:V),fbk (2 * k) = some (2 * i) ∧ ow2[k]? = some true ∧ ρ2[k]? = some (some d) ∧ σ[i]? = some (some v) ∧ σ2[k]? = some (some v))
    (hP:∀ (O3:Own),(∀ a l π,O a = some (l,π) → fin l = none → O3 a = some (l,π) ∧ H2 a = H a) → (∀ a l l' π,O2 a = some (l',π) → fbk l' = some l → O3 a = some (l,π)) → TSame G G2 → Pend G2 H2 O3 pd3) :
    RO C ow G2 ρ3 σ H2 pd3 (ownB fin fbk O O2):=by
  have keep:∀ a l π,O a = some (l,π) → fin l = none → ownB fin fbk O O2 a = some (l,π) ∧ H2 a = H a:=fun a l π e hn => by
    have e1:=ownM_none (f:=fin) e hn
    obtain ⟨g,⟨xs,hx⟩,_⟩:=ro.og a _ e
    have e2:O2 a = none:=by
      cases q:O2 a with
      | none => rfl
      | some m =>
        obtain ⟨_,_,q3⟩:=ri.og a m q
        rcases q3 with q3 | ⟨π',q3⟩
        · change H a = none at q3; rw [hx] at q3; cases q3
        · change ownM fin O a = _ at q3; rw [e1] at q3; cases q3
    constructor
    · show (match O2 a with | some m => _ | none => _) = _
      rw [e2]
      show (match ownM fin O a with | some _ => none | none => O a) = _
      rw [e1]; exact e
    · rw [ri.fr a _ hx e1,hx]
  have come:∀ a l l' π,O2 a = some (l',π) → fbk l' = some l → ownB fin fbk O O2 a = some (l,π):=fun a l l' π e hb => by
    show (match O2 a with | some m => _ | none => _) = _
    rw [e]
    show (fbk l').map _ = _
    rw [hb]; rfl
  have ts:TSame G G2:=(Same.ts ri.g0)
  refine ⟨hlen,ri.gh,fun a o e => ri.g0 a o (ro.g0 a o e),?_,?_,ro.cok,?_,fun a e => ro.al a (ri.al a e),ro.mp,?_,hP _ keep come ts,hnp⟩
  · intro a o e
    rcases ri.gn a o e with q | q
    · exact ro.gn a o q
    · exact .inr (ro.al a q)
  · intro a m e
    change (match O2 a with | some m => _ | none => _) = _ at e
    cases q:O2 a with
    | some m' =>
      rw [q] at e
      change (fbk m'.1).map _ = _ at e
      cases q2:fbk m'.1 with
      | none => rw [q2] at e; cases e
      | some l =>
        rw [q2] at e; cases e
        obtain ⟨g1,g2,g3⟩:=ri.og a m' q
        refine ⟨g1,g2,?_⟩
        rcases g3 with g3 | ⟨π',g3⟩
        · exact .inl (ro.al a g3)
        · obtain ⟨l0,g4,g5⟩:=ownM_of g3
          have:=hib _ _ _ g5 q2
          subst this
          exact (ro.og a _ g4).2.2
    | none =>
      rw [q] at e
      change (match ownM fin O a with | some _ => none | none => O a) = _ at e
      cases q2:ownM fin O a with
      | some _ => rw [q2] at e; cases e
      | none =>
        rw [q2] at e
        change O a = some m at e
        obtain ⟨g1,⟨xs,g2⟩,g3⟩:=ro.og a m e
        refine ⟨?_,⟨xs,ri.fr a _ g2 q2⟩,g3⟩
        cases z:G2 a with
        | none => rfl
        | some o =>
          rcases ri.gn a o z with z | z
          · change G a = _ at z; rw [g1] at z; cases z
          · change H a = _ at z; rw [g2] at z; cases z
  · intro a o e n
    have q:=ro.fr a o e n
    refine ri.fr a o q ?_
    show ownM fin O a = none
    cases z:ownM fin O a with
    | none => rfl
    | some m =>
      obtain ⟨l',π⟩:=m
      obtain ⟨l,z1,_⟩:=ownM_of z
      obtain ⟨_,_,z3⟩:=ro.og a _ z1
      rcases z3 with z3 | ⟨_,z3⟩
      · rw [z3] at e; cases e
      · rw [z3] at n; cases n
  · intro i d e
    by_cases c:ow[i]? = some true
    · rcases hO i d c e with ⟨h1,h2⟩ | ⟨k,v,h1,h2,h3,h4,h5⟩
      · obtain ⟨v,q1,q2⟩:=ro.sl i d h2
        rw [if_pos c] at q2
        exact ⟨v,q1,by rw [if_pos c]; exact q2.keep ts fun a τ q => keep a _ _ q h1⟩
      · obtain ⟨v',q1,q2⟩:=ri.sl k d h3
        rw [if_pos h2] at q2
        rw [h5] at q1; cases q1
        exact ⟨v,h4,by rw [if_pos c]; exact q2.keep (fun _ _ z => z) fun a τ q => ⟨come _ _ _ _ q h1,rfl⟩⟩
    · obtain ⟨v,q1,q2⟩:=ro.sl i d (hS i d c e)
      rw [if_neg c] at q2
      exact ⟨v,q1,by rw [if_neg c]; exact q2.mono ri.g0⟩
end
def Ret (fr:Bool) (C:Ctx) (ow:List Bool) (G:Hp) (ρ:DSt) (σ:St) (H:Hp) (d:D) (v:V):Prop:=if fr = true then R C ow G ρ σ H [(d,v)] else R C ow G ρ σ H [] ∧ Rep G d v
def mus:List Bool → DSt → DSt
  | true :: bs,x :: ρ => x :: mus bs ρ
  | false :: bs,_ :: ρ => mus bs ρ
  | true :: bs,[] => none :: mus bs []
  | false :: bs,[] => mus bs []
  | [],_ => []
def padS {α:Type}:Nat → List (Option α) → List (Option α)
  | 0,_ => []
  | n + 1,x :: ρ => x :: padS n ρ
  | n + 1,[] => none :: padS n []
theorem padS_len {α:Type}:∀ (n:Nat) (ρ:List (Option α)),(padS n ρ).length = n
  | 0,_ => rfl
  | n + 1,x :: ρ => by simp [padS,padS_len n ρ]
  | n + 1,[] => by simp [padS,padS_len n []]
theorem padS_mus:∀ (mu:List Bool) (ρ:DSt),mus mu (padS mu.length ρ) = mus mu ρ
  | [],_ => by simp [mus]
  | true :: bs,x :: ρ => by simp [padS,mus,padS_mus bs ρ]
  | false :: bs,x :: ρ => by simp [padS,mus,padS_mus bs ρ]
  | true :: bs,[] => by simp [padS,mus,padS_mus bs []]
  | false :: bs,[] => by simp [padS,mus,padS_mus bs []]
theorem padS_of {α:Type}:∀ {n:Nat} {ρ:List (Option α)} {i:Nat} {d : α},(padS n ρ)[i]? = some (some d) → i < n ∧ ρ[i]? = some (some d)
  | 0,_,_,_,h => by simp [padS] at h
  | n + 1,x :: ρ,0,d,h => by simp [padS] at h; exact ⟨by exact zo200,by simp [h]⟩
  | n + 1,x :: ρ,i + 1,d,h => by simp only [padS,List.getElem?_cons_succ] at h; obtain ⟨a,b⟩:=padS_of h; exact ⟨by exact zo268 a,by simpa using b⟩
  | n + 1,[],0,d,h => by simp [padS] at h
  | n + 1,[],i + 1,d,h => by simp only [padS,List.getElem?_cons_succ] at h; obtain ⟨a,b⟩:=padS_of h; simp at b
theorem padS_at {α:Type}:∀ {n:Nat} {ρ:List (Option α)} {i:Nat} {d : α},i < n → ρ[i]? = some (some d) → (padS n ρ)[i]? = some (some d)
  | 0,_,_,_,h,_ => by (first|lia|omega)
  | n + 1,x :: ρ,0,d,h,e => by simp at e; simp [padS,e]
  | n + 1,x :: ρ,i + 1,d,h,e => by simp only [padS,List.getElem?_cons_succ]; exact padS_at (by exact zo254 h) (by simpa using e)
  | n + 1,[],i,d,h,e => by simp at e
abbrev SpD:=List D → (D → DSt → Prop) → Prop
def spOf (mu:List Bool) (fr:Bool) (sd:SpD):Sp:=fun vs H Q _ => ∃ (C:Ctx) (G:Hp) (ds:List D) (q:D → DSt → Prop),C.np = 0 ∧ C.mu = msV mu vs ∧ R C mu G (ds.map some) (vs.map some) H [] ∧ sd ds q ∧ mu.length = ds.length ∧
  ∀ d ρ' σ' v G' H',q d (mus mu ρ') → Same G G' → ρ'.length = mu.length → Ret fr C mu G' ρ' σ' H' d v → Q v H'
structure EndsD where
  nx:DSt → Prop
  rt:D → DSt → Prop
  bk:DSt → Prop:=fun _ => False
  ct:DSt → Prop:=fun _ => False
abbrev MS:=EndsD → DSt → Prop
structure Ks (C:Ctx) (ow:List Bool) (fr:Bool) (G:Hp) (n:EndsD) (D:Ends):Prop where
  nx:∀ ρ σ G' H,n.nx ρ → Same G G' → R C ow G' ρ σ H [] → D.nx σ H
  bk:∀ ρ σ G' H,n.bk ρ → Same G G' → R C ow G' ρ σ H [] → D.bk σ H
  ct:∀ ρ σ G' H,n.ct ρ → Same G G' → R C ow G' ρ σ H [] → D.ct σ H
  rt:∀ d ρ σ v G' H,n.rt d ρ → Same G G' → Ret fr C ow G' ρ σ H d v → D.rt v H
theorem Ks.mono {C:Ctx} {ow:List Bool} {fr:Bool} {G G1:Hp} {n:EndsD} {D:Ends} (h:Ks C ow fr G n D) (s:Same G G1):Ks C ow fr G1 n D :=
  ⟨fun ρ σ G' H a b c => h.nx ρ σ G' H a (s.trans b) c,fun ρ σ G' H a b c => h.bk ρ σ G' H a (s.trans b) c,fun ρ σ G' H a b c => h.ct ρ σ G' H a (s.trans b) c,fun d ρ σ v G' H a b c => h.rt d ρ σ v G' H a (s.trans b) c⟩
def MuOk (C:Ctx) (mu:List Bool):Prop:=∀ (i:Nat) v,C.mu[i]? = some (some v) → mu[i]? = some true
theorem MuOk.no {C:Ctx} {mu:List Bool} (h:MuOk C mu) {i:Nat} (hi:mu[i]? ≠ some true):∀ v,C.mu[i]? ≠ some (some v):=fun v e => hi (h i v e)
structure Md where
  mu:List Bool
  ow:List Bool
  fr:Bool
def SS (M:Md) (t:TS) (m:MS):Prop:=∀ (C:Ctx) (G:Hp) (ρ:DSt) (σ:St) (H:Hp) (n:EndsD) (D:Ends),MuOk C M.mu → C.np = 0 → R C M.ow G ρ σ H [] → m n ρ → Ks C M.ow M.fr G n D → t D σ H
structure QS (X:Cx) (M:Md) (st:Stmt) (m:MS):Prop where
  ex:∃ t,PS X st t ∧ SS M t m
structure QSs (X:Cx) (M:Md) (st:List Stmt) (m:MS):Prop where
  ex:∃ t,PSs X st t ∧ SS M t m
section
variable {X:Cx} {M:Md} {a b c e:Expr} {ma mb mc:ME} {mt:MT} {pos pos':Pos} {st:Stmt} {rest:List Stmt} {m m1 m2:MS}
def mSeq (m1 m2:MS):MS:=fun n ρ => m1 { n with nx:=fun ρ' => m2 n ρ' } ρ
def mNext:MS:=fun n ρ => n.nx ρ
theorem qss_nil:QSs X M [] mNext:=⟨_,pss_nil,fun C G ρ σ H n D hm hn r h k => k.nx ρ σ G H h (Same.refl _) r⟩
theorem qss_one (h:QS X M st m):QSs X M [st] m:=by obtain ⟨t,p,s⟩:=h; exact ⟨_,pss_one p,s⟩
theorem qss_cons (h:QS X M st m1) (h2:QSs X M rest m2):QSs X M (st :: rest) (mSeq m1 m2):=by
  obtain ⟨t,p,s⟩:=h; obtain ⟨t2,p2,s2⟩:=h2
  refine ⟨_,pss_cons p p2,fun C G ρ σ H n D hm hn r h k => s C G ρ σ H _ _ hm hn r h ?_⟩
  exact ⟨fun ρ' σ' G' H' h' z r' => s2 C G' ρ' σ' H' n D hm hn r' h' (k.mono z),k.bk,k.ct,k.rt⟩
def mNever:MS:=fun _ _ => False
theorem qs_never:QS X M st mNever:=⟨_,ps_never,fun C G ρ σ H n D hm hn r h k => h.elim⟩
def mIfS (mt:MT) (m1 m2:MS):MS:=fun n ρ => mt ρ fun b ρ1 => if b = true then m1 n ρ1 else m2 n ρ1
theorem qs_if {s1 s2:List Stmt} (h:QT X M.ow c mt) (h1:QSs X M s1 m1) (h2:QSs X M s2 m2):QS X M (.If c s1 s2 pos) (mIfS mt m1 m2):=by
  obtain ⟨t,p,s⟩:=h; obtain ⟨t1,p1,s1⟩:=h1; obtain ⟨t2,p2,s2⟩:=h2
  refine ⟨_,ps_if p p1 p2,fun C G ρ σ H n D hm hn r h k => s C G ρ σ H [] _ _ r h fun b ρ' G' H' hq z kp r' => ?_⟩
  cases b with
  | true => rw [if_pos rfl] at hq ⊢; exact s1 C G' ρ' σ H' n D hm hn r' hq (k.mono z)
  | false => rw [if_neg (by decide)] at hq ⊢; exact s2 C G' ρ' σ H' n D hm hn r' hq (k.mono z)
def mRet (m:ME):MS:=fun n ρ => m ρ n.rt
theorem qs_ret (h:QE X M.ow e ma) (hf:M.fr = false:=by rfl):QS X M (.Return (some e) pos) (mRet ma):=by
  obtain ⟨t,p,s⟩:=h
  refine ⟨_,ps_ret p,fun C G ρ σ H n D hm hn r h k => s C G ρ σ H [] _ _ r h fun d ρ' v G' H' hq z kp r' p => k.rt d ρ' σ v G' H' hq z (by unfold Ret; rw [if_neg (by rw [hf]; decide)]; exact ⟨r',p⟩)⟩
theorem R.non {C:Ctx} {ow:List Bool} {fr:Bool} {G:Hp} {ρ:DSt} {σ:St} {H:Hp} (r:R C ow G ρ σ H []):Ret fr C ow G ρ σ H .non .non:=by
  unfold Ret
  split
  · obtain ⟨O,r⟩:=r
    exact ⟨O,r.len,r.gh,r.g0,r.gn,r.og,r.cok,r.fr,r.al,r.mp,r.sl,⟨by rw [Sep],trivial⟩,Nat.le_succ_of_le r.np⟩
  · exact ⟨r,rep_non⟩
def mSet (i:Nat) (m:ME):MS:=fun n ρ => m ρ fun d ρ1 => n.nx (ρ1.set i (some d))
theorem ss_set {t:TE} {i:Nat} (s:SE M.ow t ma) (ho:M.ow[i]? ≠ some true) (hu:M.mu[i]? ≠ some true):SS M (tAsg t (gName i)) (mSet i ma):=fun C G ρ σ H n D hm hn r h k =>
  s C G ρ σ H [] _ _ r h fun d ρ' v G' H' hq z kp r' p => by
    obtain ⟨O,r'⟩:=r'
    exact k.nx _ _ G' H' hq z ⟨O,r'.setS ho (hm.no hu) p⟩
theorem ss_setO {t:TE} {i:Nat} (s:SF M.ow t ma) (ho:M.ow[i]? = some true) (hu:M.mu[i]? ≠ some true):SS M (tAsg t (gName i)) (mSet i ma):=fun C G ρ σ H n D hm hn r h k =>
  s C G ρ σ H [] _ _ r h fun d ρ' v G' H' hq z kp r' => by
    obtain ⟨O,r'⟩:=r'
    exact k.nx _ _ G' H' hq z (r'.setO ho (hm.no hu) (by rw [hn]; exact Nat.zero_le _))
theorem qs_set {i:Nat} {x:Str} (hN:X.N.Nodup) (hi:X.N[i]? = some x) (hx:Loc X.env.scope x) (he:QE X M.ow e ma) (ho:M.ow[i]? ≠ some true:=by decide) (hu:M.mu[i]? ≠ some true:=by decide) (hs:swapsWith e (some (.Name x pos')) pos.line X.env = pure false:=by rfl) (hf:X.fn x = true ∨ X.env.scope.names.lookup x = some .local:=by first | exact .inl rfl | exact .inr rfl | assumption) :
    QS X M (.Assign [.Name x pos'] e pos) (mSet i ma):=by
  obtain ⟨t,p,s⟩:=he
  exact ⟨_,ps_set hN hi hx p hs hf,ss_set s ho hu⟩
theorem qs_setO {i:Nat} {x:Str} (hN:X.N.Nodup) (hi:X.N[i]? = some x) (hx:Loc X.env.scope x) (he:QF X M.ow e ma) (ho:M.ow[i]? = some true:=by decide) (hu:M.mu[i]? ≠ some true:=by decide) (hs:swapsWith e (some (.Name x pos')) pos.line X.env = pure false:=by rfl) (hf:X.fn x = true ∨ X.env.scope.names.lookup x = some .local:=by first | exact .inl rfl | exact .inr rfl | assumption) :
    QS X M (.Assign [.Name x pos'] e pos) (mSet i ma):=by
  obtain ⟨t,p,s⟩:=he
  exact ⟨_,ps_set hN hi hx p hs hf,ss_setO s ho hu⟩
def mPar (i j:Nat) (ma mb:ME):MS:=fun n ρ => ma ρ fun x ρ1 => mb ρ1 fun y ρ2 => n.nx ((ρ2.set i (some x)).set j (some y))
theorem qs_par {i j:Nat} {x y:Str} {px py pt:Pos} {kt k2 pt2} (hc:X.calm = true) (hN:X.N.Nodup) (hi:X.N[i]? = some x) (hj:X.N[j]? = some y) (hij:i ≠ j)
    (hx:X.env.scope.names.lookup x = some .local) (hy:X.env.scope.names.lookup y = some .local) (ha:QE X M.ow a ma) (hb:QE X M.ow b mb)
    (hw:swappedStores [.Tuple [.Name x px,.Name y py] kt pt] (.Tuple [a,b] k2 pt2) X.env = pure (some [x,y]))
    (oi:M.ow[i]? ≠ some true:=by decide) (oj:M.ow[j]? ≠ some true:=by decide) (ui:M.mu[i]? ≠ some true:=by decide) (uj:M.mu[j]? ≠ some true:=by decide)
    (hs1:starEach [a,b] X.env = (false,eval a X.env) :: starEach [b] X.env:=by rfl) (hs2:starEach [b] X.env = [(false,eval b X.env)]:=by rfl)
    (hs:swapsWithSole [.Tuple [.Name x px,.Name y py] kt pt] (.Tuple [a,b] k2 pt2) pos.line X.env = pure false:=by rfl) :
    QS X M (.Assign [.Tuple [.Name x px,.Name y py] kt pt] (.Tuple [a,b] k2 pt2) pos) (mPar i j ma mb):=by
  obtain ⟨ta,pa,sa⟩:=ha; obtain ⟨tb,pb,sb⟩:=hb
  refine ⟨_,ps_par hc hN hi hj hij hx hy (pa_cons pa (pa_cons pb pa_nil hs2) hs1) hw hs,fun C G ρ σ H n D hm hn r h k => ?_⟩
  refine se_two (Q:=fun u w H2 => ∃ v w',[u,w] = [v,w'] ∧ D.nx ((σ.set i (some v)).set j (some w')) H2) sa sb r h fun dx dy ρ' u w G' H' hq z kp r' p1 p2 => ⟨u,w,rfl,?_⟩
  obtain ⟨O,r'⟩:=r'
  exact k.nx _ _ G' H' hq z ⟨O,(r'.setS oi (hm.no ui) p1).setS oj (hm.no uj) p2⟩
abbrev MG:=D → DSt → (DSt → Prop) → Prop
abbrev MGs:=List D → DSt → (DSt → Prop) → Prop
def SG (M:Md) (g:TG) (m:MG):Prop:=∀ (C:Ctx) (G:Hp) (ρ:DSt) (σ:St) (H:Hp) (pd:List (D × V)) (d:D) (v:V) (k:DSt → Prop) (K:St → Hp → Prop),MuOk C M.mu → R C M.ow G ρ σ H pd → Rep G d v → m d ρ k →
  (∀ ρ' σ',k ρ' → R C M.ow G ρ' σ' H pd → K σ' H) → g v σ H K
def SGs (M:Md) (g:TGs) (m:MGs):Prop:=∀ (C:Ctx) (G:Hp) (ρ:DSt) (σ:St) (H:Hp) (pd:List (D × V)) (d:List D) (v:List V) (k:DSt → Prop) (K:St → Hp → Prop),MuOk C M.mu → R C M.ow G ρ σ H pd → Reps G d v → m d ρ k →
  (∀ ρ' σ',k ρ' → R C M.ow G ρ' σ' H pd → K σ' H) → g v σ H K
structure QG (X:Cx) (M:Md) (e:Expr) (m:MG):Prop where
  ex:∃ t,PG X e t ∧ SG M t m
structure QGs (X:Cx) (M:Md) (e:List Expr) (m:MGs):Prop where
  ex:∃ t,PGs X e t ∧ SGs M t m
def gmName (i:Nat):MG:=fun d ρ k => k (ρ.set i (some d))
theorem qg_name {i:Nat} {x:Str} (hN:X.N.Nodup) (hi:X.N[i]? = some x) (hx:Loc X.env.scope x) (ho:M.ow[i]? ≠ some true:=by decide) (hu:M.mu[i]? ≠ some true:=by decide) (hf:X.fn x = true ∨ X.env.scope.names.lookup x = some .local:=by first | exact .inl rfl | exact .inr rfl | assumption):QG X M (.Name x pos) (gmName i) :=
  ⟨_,pg_name hN hi hx hf,fun C G ρ σ H pd d v k K hm r p h kk => by obtain ⟨O,r⟩:=r; exact kk _ _ h ⟨O,r.setS ho (hm.no hu) p⟩⟩
def gmNil:MGs:=fun ds ρ k => match ds with
  | [] => k ρ
  | _ => False
def gmCons (t:MG) (u:MGs):MGs:=fun ds ρ k => match ds with
  | d :: ds => t d ρ fun ρ1 => u ds ρ1 k
  | [] => False
def gmTup (t:MGs):MG:=fun d ρ k => match d with
  | .tup ds => t ds ρ k
  | _ => False
variable {mg:MG} {mgs:MGs} {es:List Expr}
theorem qgs_nil:QGs X M [] gmNil:=⟨_,pgs_nil,fun C G ρ σ H pd d v k K hm r p h kk => by
  cases d with
  | nil => rw [Reps] at p; exact ⟨p,kk _ _ h r⟩
  | cons _ _ => exact h.elim⟩
theorem qgs_cons (h1:QG X M e mg) (h2:QGs X M es mgs) (hs:(assignEach (e :: es) X.env).map (·.2) = assign e X.env :: (assignEach es X.env).map (·.2):=by rfl):QGs X M (e :: es) (gmCons mg mgs):=by
  obtain ⟨t,p,s⟩:=h1; obtain ⟨t2,p2,s2⟩:=h2
  refine ⟨_,pgs_cons p p2 hs,fun C G ρ σ H pd d v k K hm r p h kk => ?_⟩
  cases d with
  | nil => exact h.elim
  | cons d ds =>
    rw [Reps] at p
    obtain ⟨v,vs,rfl,p1,p3⟩:=p
    exact ⟨v,vs,rfl,s C G ρ σ H pd d v _ _ hm r p1 h fun ρ' σ' h' r' => s2 C G ρ' σ' H pd ds vs k K hm r' p3 h' kk⟩
def takes (n:Nat) (m:MGs):Prop:=∀ ds ρ k,m ds ρ k → ds.length = n
theorem takes_nil:takes 0 gmNil:=fun ds ρ k h => by cases ds with | nil => rfl | cons _ _ => exact h.elim
theorem takes_cons1 {n:Nat} {i:Nat} (h:takes n mgs):takes (n + 1) (gmCons (gmName i) mgs):=fun ds ρ k q => by
  cases ds with
  | nil => exact q.elim
  | cons d ds => simp [h ds _ _ q]
theorem qg_tup {kk:Nat} {n:Nat} (hc:X.calm = true) (h:QGs X M es mgs) (ht:takes n mgs)
    (hn:(assignEach es X.env).length = n:=by rfl) (hst:(assignEach es X.env).findIdx? (·.1) = none:=by rfl):QG X M (.Tuple es kk pos) (gmTup mgs):=by
  obtain ⟨t,p,s⟩:=h
  refine ⟨_,pg_tup hc p hn hst,fun C G ρ σ H pd d v k K hm r p h kk => ?_⟩
  cases d with
  | tup ds =>
    obtain ⟨a,xs,rfl,h1,h2⟩:=rep_tup_of p
    exact ⟨a,xs,rfl,SqT.of (r.gh _ _ h1),by rw [h2.length]; exact ht _ _ _ h,s C G ρ σ H pd ds xs k K hm r h2 h kk⟩
  | _ => exact h.elim
def mAsg (m:ME) (g:MG):MS:=fun n ρ => m ρ fun d ρ1 => g d ρ1 n.nx
theorem qs_asg {tg:Expr} (he:QE X M.ow e ma) (hg:QG X M tg mg) (hs:swapsWithSole [tg] e pos.line X.env = pure false:=by rfl) (hw:swappedStores [tg] e X.env = pure none:=by rfl)
    (h1:(assignEach [tg] X.env).map (·.2) = [assign tg X.env]:=by rfl):QS X M (.Assign [tg] e pos) (mAsg ma mg):=by
  obtain ⟨t,p,s⟩:=he; obtain ⟨t2,p2,s2⟩:=hg
  refine ⟨_,ps_asg p p2 hs hw h1,fun C G ρ σ H n D hm hn r h k => s C G ρ σ H [] _ _ r h fun d ρ' v G' H' hq z kp r' p => ?_⟩
  exact s2 C G' ρ' σ H' [] d v _ _ hm r' p hq fun ρ2 σ2 h2 r2 => k.nx ρ2 σ2 G' H' h2 z r2
def mDrop (m:ME):MS:=fun n ρ => m ρ fun _ ρ1 => n.nx ρ1
theorem qs_expr (he:QE X M.ow e ma) (hs:swapsWith e none pos.line X.env = pure false:=by rfl):QS X M (.Expr e pos) (mDrop ma):=by
  obtain ⟨t,p,s⟩:=he
  exact ⟨_,ps_expr p hs,fun C G ρ σ H n D hm hn r h k => s C G ρ σ H [] _ _ r h fun d ρ' v G' H' hq z kp r' p => k.nx ρ' σ G' H' hq z r'⟩
def mAppend (i:Nat) (m:ME):MS:=fun n ρ => match ρ[i]? with
  | some (some (.lst _)) => m ρ fun d ρ1 => match ρ1[i]? with
    | some (some (.lst ds)) => ds.length < 1000 ∧ n.nx (ρ1.set i (some (.lst (ds ++ [d]))))
    | _ => False
  | _ => False
theorem qs_append {i:Nat} {x:Str} {apos cpos npos:Pos} (hN:X.N[i]? = some x) (he:QF X M.ow e ma) (ho:M.ow[i]? = some true:=by decide)
    (hv:Vis X.env.scope x:=by first | exact Or.inl rfl | exact Or.inr (Or.inl rfl) | exact Or.inr (Or.inr rfl)) (hd:(x == ("__debug__":Str)) = false:=by decide) (hcd:(x == ("__classdict__":Str)) = false:=by decide)
    (hbase:attributeBase (.Name x npos) "append" X.env (eval (.Name x npos) X.env) = eval (.Name x npos) X.env:=by rfl)
    (hfew:((backTo cpos (starEach [e] X.env)).all (fun x => !x.1) && (backToKw cpos (keywordEach [] X.env)).all (fun x => x.1.isSome)
      && decide ([e].length + ([]:List Keyword).length + (if ([]:List Keyword).isEmpty then 0 else 1) < 30)) = true:=by rfl)
    (hline:(apos.endLine == cpos.line) = true:=by rfl) (hst:starEach [e] X.env = [(false,eval e X.env)]:=by rfl)
    (hs:swapsWith (.Call (.Attribute (.Name x npos) "append" apos) [e] [] cpos) none pos.line X.env = pure false:=by rfl) :
    QS X M (.Expr (.Call (.Attribute (.Name x npos) "append" apos) [e] [] cpos) pos) (mAppend i ma):=by
  obtain ⟨t,p,s⟩:=he
  refine ⟨_,ps_expr (pe_bm PySem.F.plainAttrs_list PySem.F.slot_list_append PySem.F.type_list_append mt_append (pe_var hN hv hd hcd) (pa_cons p pa_nil hst) hbase hfew hline hst (by rfl)) hs,fun C G ρ σ H n D hm hn r h k => ?_⟩
  unfold mAppend at h
  split at h
  · rename_i ds e1
    obtain ⟨O,ro⟩:=r
    obtain ⟨a,xs,h1,h2,_,_⟩:=ro.write e1 ho
    refine ⟨.ref a,h1,.inl ⟨rfl,xs,SqL.of h2⟩,?_⟩
    refine s C G ρ σ H [] _ _ ⟨O,ro⟩ h fun d ρ' v G' H' hq z kp r' => ?_
    split at hq
    · rename_i ds' e2
      obtain ⟨O',r'⟩:=r'
      obtain ⟨O2,r2,s2,s3⟩:=r'.join i ds'.length (by rw [hn]; exact Nat.zero_le _)
      obtain ⟨a',xs',g1,g2,g3,g4⟩:=r2.write e2 ho
      rw [h1] at g1; cases g1
      have hl:=g3.length
      refine ⟨a,xs',v,rfl,rfl,g2,by rw [hl]; exact small1000 (Nat.le_of_lt hq.1),?_⟩
      exact k.nx _ _ G' _ hq.2 z ⟨O2,g4 _ _ (g3.snoc (by simpa using s2))⟩
    · exact hq.elim
  · exact h.elim
def mSetI (i:Nat) (mk m:ME):MS:=fun n ρ => m ρ fun d ρ1 => match ρ1[i]? with
  | some (some (.lst _)) => mk ρ1 fun k ρ2 => match ρ2[i]? with
    | some (some (.lst ds)) => match k with
      | .int j => match ixN ds.length j with
        | some p => n.nx (ρ2.set i (some (.lst (ds.set p d))))
        | none => False
      | _ => False
    | _ => False
  | _ => False
theorem qs_setI {i:Nat} {x:Str} {npos spos:Pos} (hN:X.N[i]? = some x) (he:QF X M.ow e ma) (hk:QE X M.ow b mb) (ho:M.ow[i]? = some true:=by decide)
    (hv:Vis X.env.scope x:=by first | exact Or.inl rfl | exact Or.inr (Or.inl rfl) | exact Or.inr (Or.inr rfl)) (hd:(x == ("__debug__":Str)) = false:=by decide) (hcd:(x == ("__classdict__":Str)) = false:=by decide)
    (ha:∀ v,assign (.Subscript (.Name x npos) b spos) X.env v = (do
      let ov ← holding [v] (eval (.Name x npos) X.env)
      let iv ← holding [v,ov] (eval b X.env)
      standAt spos
      holding [v,ov,iv] (setItem ov iv v)
      release [v,ov,iv] []):=by intro _; rfl)
    (hs:swapsWithSole [.Subscript (.Name x npos) b spos] e pos.line X.env = pure false:=by rfl) (hw:swappedStores [.Subscript (.Name x npos) b spos] e X.env = pure none:=by rfl)
    (h1:(assignEach [.Subscript (.Name x npos) b spos] X.env).map (·.2) = [assign (.Subscript (.Name x npos) b spos) X.env]:=by rfl) :
    QS X M (.Assign [.Subscript (.Name x npos) b spos] e pos) (mSetI i mb ma):=by
  obtain ⟨t,p,s⟩:=he; obtain ⟨t2,p2,s2⟩:=hk
  refine ⟨_,ps_asg p (pg_sub (pe_var hN hv hd hcd) p2 set_list ha) hs hw h1,fun C G ρ σ H n D hm hn r h k => s C G ρ σ H [] _ _ r h fun d ρ' v G' H' hq z kp r' => ?_⟩
  split at hq
  · rename_i ds0 e0
    obtain ⟨O0,ro⟩:=r'
    obtain ⟨a,xs,hu,_,_,_⟩:=ro.write e0 ho
    refine ⟨.ref a,hu,?_⟩
    refine s2 C G' ρ' σ H' _ _ _ ⟨O0,ro⟩ hq fun dk ρ2 jv G2 H2 hq2 z2 kp2 r2 pj => ?_
    split at hq2
    · rename_i ds e2
      cases dk with
      | int j =>
        dsimp only at hq2
        split at hq2
        · rename_i pl e3
          obtain ⟨O',r2⟩:=r2
          obtain ⟨O2,r3,w2,w3⟩:=r2.join i pl (by rw [hn]; exact Nat.zero_le _)
          obtain ⟨a',xs',g1,g2,g3,g4⟩:=r3.write e2 ho
          rw [hu] at g1; cases g1
          refine ⟨a,xs',j,pl,rfl,rep_int_of pj,g2,by rw [g3.length]; exact e3,?_⟩
          exact k.nx _ _ G2 _ hq2 (z.trans z2) ⟨O2,g4 _ _ (g3.set (by simpa using w2))⟩
        · exact hq2.elim
      | _ => exact hq2.elim
    · exact hq2.elim
  · exact hq.elim
def mWhile (mt:MT) (mb:MS):MS:=fun n ρ => ∃ W:Nat → DSt → Prop,(∃ k,W k ρ) ∧ ∀ k ρ,W k ρ → mt ρ fun b ρ1 =>
  if b = true then mb { n with nx:=fun ρ' => ∃ k',k' < k ∧ W k' ρ',ct:=fun ρ' => ∃ k',k' < k ∧ W k' ρ',bk:=n.nx } ρ1 else n.nx ρ1
theorem qs_while {body:List Stmt} (hp:PassesOwn (model X.prog X.w) X.A X.env X.xe) (hc:QT X M.ow c mt) (hb:QSs X M body m):QS X M (.While c body [] pos) (mWhile mt m):=by
  obtain ⟨t,p,s⟩:=hc; obtain ⟨t2,p2,s2⟩:=hb
  refine ⟨_,ps_while hp p p2,fun C G ρ σ H n D hm hn r h k => ?_⟩
  obtain ⟨W,⟨k0,w0⟩,turn⟩:=h
  refine ⟨fun j σ' H' => ∃ G' ρ',Same G G' ∧ R C M.ow G' ρ' σ' H' [] ∧ W j ρ',⟨k0,G,ρ,Same.refl _,r,w0⟩,?_⟩
  rintro j σ' H' ⟨G',ρ',z,r',w⟩
  refine s C G' ρ' σ' H' [] _ _ r' (turn j ρ' w) fun b ρ1 G1 H1 hq z1 kp r1 => ?_
  cases b with
  | true =>
    rw [if_pos rfl] at hq ⊢
    refine ⟨fun σ2 H2 => ∃ j',j' < j ∧ ∃ G2 ρ2,Same G G2 ∧ R C M.ow G2 ρ2 σ2 H2 [] ∧ W j' ρ2,fun σ2 H2 h => h,?_⟩
    refine s2 C G1 ρ1 σ' H1 _ _ hm hn r1 hq ⟨?_,?_,?_,?_⟩
    · rintro ρ2 σ2 G2 H2 ⟨j',hj,w'⟩ z2 r2; exact ⟨j',hj,G2,ρ2,z.trans (z1.trans z2),r2,w'⟩
    · intro ρ2 σ2 G2 H2 h z2 r2; exact k.nx ρ2 σ2 G2 H2 h (z.trans (z1.trans z2)) r2
    · rintro ρ2 σ2 G2 H2 ⟨j',hj,w'⟩ z2 r2; exact ⟨j',hj,G2,ρ2,z.trans (z1.trans z2),r2,w'⟩
    · intro d ρ2 σ2 v G2 H2 h z2 r2; exact k.rt d ρ2 σ2 v G2 H2 h (z.trans (z1.trans z2)) r2
  | false => rw [if_neg (by decide)] at hq ⊢; exact k.nx ρ1 σ' G1 H1 hq (z.trans z1) r1
def ItOk (J:It) (G:Hp) (ds:List D):Prop:=∀ (C:Ctx) (ow:List Bool) (G':Hp) (ρ:DSt) (σ:St) (H:Hp) (pd:List (D × V)) (i:Nat),Same G G' → R C ow G' ρ σ H pd →
  (ds.length ≤ i → J.stop i H) ∧ ∀ d,ds[i]? = some d → J.go i H ∧ ∀ x H',J.yld i H x H' → ∃ G2,Same G' G2 ∧ R C ow G2 ρ σ H' pd ∧ Rep G2 d x
def SI (ow:List Bool) (wi:TI) (mi:MA):Prop:=∀ (C:Ctx) (G:Hp) (ρ:DSt) (σ:St) (H:Hp) (pd:List (D × V)) (q:List D → DSt → Prop) (Q:It → Hp → Prop),R C ow G ρ σ H pd → mi ρ q →
  (∀ ds ρ' G' H' J,q ds ρ' → Same G G' → Kp ow ρ ρ' → R C ow G' ρ' σ H' pd → ItOk J G' ds → Q J H') → wi σ H Q
structure QI (X:Cx) (ow:List Bool) (tg iter:Expr) (mi:MA):Prop where
  ex:∃ t,PI X tg iter t ∧ SI ow t mi
def forD (g:MG) (mb:MS) (n:EndsD) (ds:List D) (ρ:DSt):Prop:=∃ I:Nat → DSt → Prop,I 0 ρ ∧
  (∀ i d ρ,ds[i]? = some d → I i ρ → g d ρ fun ρ1 => mb { n with nx:=I (i + 1),ct:=I (i + 1),bk:=n.nx } ρ1) ∧ ∀ ρ,I ds.length ρ → n.nx ρ
def mFor (mi:MA) (g:MG) (mb:MS):MS:=fun n ρ => mi ρ fun ds ρ1 => forD g mb n ds ρ1
theorem qs_for {mi:MA} {tg iter:Expr} {body:List Stmt} (hp:PassesOwn (model X.prog X.w) X.A X.env X.xe) (hc:X.calm = true) (hi:QI X M.ow tg iter mi) (hg:QG X M tg mg) (hb:QSs X M body m)
    (hs:∀ x,foldedSetIterable iter X.env x = pure x:=by intro _; rfl):QS X M (.For tg iter body [] pos) (mFor mi mg m):=by
  obtain ⟨ti,pi,si⟩:=hi; obtain ⟨tg',pg,sg⟩:=hg; obtain ⟨tb,pb,sb⟩:=hb
  refine ⟨_,ps_for hp hc pi pg pb hs,fun C G ρ σ H n D hm hn r h k => si C G ρ σ H [] _ _ r h fun ds ρ0 G0 H0 J hq z0 kp r0 jo => ?_⟩
  obtain ⟨I,i0,turn,fin⟩:=hq
  refine ⟨fun i j σ' H' => j = ds.length - i ∧ i ≤ ds.length ∧ ∃ G' ρ',Same G0 G' ∧ R C M.ow G' ρ' σ' H' [] ∧ I i ρ',⟨_,rfl,Nat.zero_le _,G0,ρ0,Same.refl _,r0,i0⟩,?_⟩
  rintro i j σ' H' ⟨rfl,hi,G',ρ',z,r',w⟩
  obtain ⟨st,go⟩:=jo C M.ow G' ρ' σ' H' [] i z r'
  by_cases hlt:i < ds.length
  · obtain ⟨g1,g2⟩:=go ds[i] (List.getElem?_eq_getElem hlt)
    refine .inr ⟨g1,fun σ2 H2 => ∃ G2 ρ2,Same G0 G2 ∧ R C M.ow G2 ρ2 σ2 H2 [] ∧ I (i + 1) ρ2,fun σ2 H2 h => ⟨ds.length - (i + 1),by exact zo4 hlt,rfl,hlt,h⟩,fun x H1 hy => ?_⟩
    obtain ⟨G1,z1,r1,p1⟩:=g2 x H1 hy
    refine sg C G1 ρ' σ' H1 [] ds[i] x _ _ hm r1 p1 (turn i ds[i] ρ' (List.getElem?_eq_getElem hlt) w) fun ρ2 σ2 h2 r2 => ?_
    refine sb C G1 ρ2 σ2 H1 _ _ hm hn r2 h2 ⟨?_,?_,?_,?_⟩
    · intro ρ3 σ3 G3 H3 h3 z3 r3; exact ⟨G3,ρ3,z.trans (z1.trans z3),r3,h3⟩
    · intro ρ3 σ3 G3 H3 h3 z3 r3; exact k.nx ρ3 σ3 G3 H3 h3 (z0.trans (z.trans (z1.trans z3))) r3
    · intro ρ3 σ3 G3 H3 h3 z3 r3; exact ⟨G3,ρ3,z.trans (z1.trans z3),r3,h3⟩
    · intro d ρ3 σ3 v G3 H3 h3 z3 r3; exact k.rt d ρ3 σ3 v G3 H3 h3 (z0.trans (z.trans (z1.trans z3))) r3
  · have e:i = ds.length:=by exact zo11 hi hlt
    subst e
    exact .inl ⟨st (Nat.le_refl _),k.nx ρ' σ' G' H' (fin ρ' w) (z0.trans z) r'⟩
end
section
variable {X:Cx} {ow:List Bool} {a b c e tg:Expr} {ma mb mc:ME} {pos:Pos} {mr:MA} {es:List Expr}
theorem itl_ok {K:PySem.W.Frag} {G:Hp} {p:Addr} {xs:List V} {ds:List D} (h1:G p = some (.lst xs)) (h2:Reps G ds xs):ItOk (Itl K p) G ds:=fun C ow G' ρ σ H pd i z r => by
  have hp:=r.gh _ _ (z _ _ h1)
  refine ⟨fun hl => ⟨xs,SqL.of hp,by rw [h2.length]; exact hl⟩,fun d e => ?_⟩
  obtain ⟨v,e1,e2⟩:=reps_get h2 e
  refine ⟨⟨xs,v,SqL.of hp,e1⟩,fun x H' hy => ?_⟩
  obtain ⟨rfl,hy⟩:=hy
  have:=hy xs (SqL.of hp)
  rw [e1] at this; cases this
  exact ⟨G',Same.refl _,r,Rep.mono z _ _ e2⟩
def miLst (m:ME):MA:=fun ρ q => m ρ fun d ρ' => match d with
  | .lst ds => q ds ρ'
  | _ => False
theorem qi_list (h:QE X ow e ma):QI X ow tg e (miLst ma):=by
  obtain ⟨t,p,s⟩:=h
  refine ⟨_,pi_list p,fun C G ρ σ H pd q Q r hm k => s C G ρ σ H pd _ _ r hm fun d ρ' v G' H' hq z kp r' p => ?_⟩
  cases d with
  | lst ds => obtain ⟨a,xs,rfl,h1,h2⟩:=rep_lst_of p; exact ⟨a,rfl,⟨xs,SqL.of (r'.gh _ _ h1)⟩,k ds ρ' G' H' _ hq z kp r' (itl_ok h1 h2)⟩
  | _ => exact hq.elim
def rngD (lo:Int) (n:Nat):List D:=(List.range n).map fun (i:Nat) => .int (lo + i)
theorem rngD_at {lo:Int} {n i:Nat} {d:D} (h:(rngD lo n)[i]? = some d):i < n ∧ d = .int (lo + i):=by
  unfold rngD at h
  rw [List.getElem?_map] at h
  by_cases c:i < n
  · rw [List.getElem?_range c] at h; exact ⟨c,(Option.some.inj h).symm⟩
  · rw [List.getElem?_eq_none (by simp; exact zo106 c)] at h; cases h
theorem rngD_len (lo:Int) (n:Nat):(rngD lo n).length = n:=by unfold rngD; simp
theorem itr_ok {G:Hp} {lo:Int} {n:Nat}:ItOk (Itr lo n) G (rngD lo n):=fun C ow G' ρ σ H pd i z r => by
  refine ⟨fun hl => by rw [rngD_len] at hl; exact hl,fun d e => ?_⟩
  obtain ⟨h1,rfl⟩:=rngD_at e
  refine ⟨h1,fun x H' hy => ?_⟩
  obtain ⟨rfl,rfl⟩:=hy
  exact ⟨G',Same.refl _,r,rep_int _⟩
def miR1 (m:MA):MA:=fun ρ q => m ρ fun ds ρ' => match ds with
  | [.int j] => (-(2 ^ 62) ≤ j ∧ j < 2 ^ 62) ∧ q (rngD 0 j.toNat) ρ'
  | _ => False
def miR2 (m:MA):MA:=fun ρ q => m ρ fun ds ρ' => match ds with
  | [.int i,.int j] => (-(2 ^ 62) ≤ i ∧ i < 2 ^ 62 ∧ -(2 ^ 62) ≤ j ∧ j < 2 ^ 62) ∧ q (rngD i (j - i).toNat) ρ'
  | _ => False
theorem qi_range1 {p:Pos} (hg:Gl X "range") (hm:X.mg "range" = none) (ha:QA X ow [a] mr) (hs:starEach [a] X.env = [(false,eval a X.env)]:=by rfl):QI X ow tg (.Call (.Name "range" p) [a] [] pos) (miR1 mr):=by
  obtain ⟨t,p,s⟩:=ha
  refine ⟨_,pi_range1 hg hm p hs,fun C G ρ σ H pd q Q r hm k => s C G ρ σ H pd _ _ r hm fun ds ρ' vs G' H' hq z kp r' p hn => ?_⟩
  split at hq
  · obtain ⟨v,rfl,p1⟩:=reps_one p
    rw [rep_int_of p1]
    exact ⟨_,rfl,hq.1.1,hq.1.2,k _ ρ' G' H' _ hq.2 z kp r' itr_ok⟩
  · exact hq.elim
theorem qi_range2 {p:Pos} (hg:Gl X "range") (hm:X.mg "range" = none) (ha:QA X ow [a,b] mr) (hs:starEach [a,b] X.env = [(false,eval a X.env),(false,eval b X.env)]:=by rfl) (hs2:starEach [b] X.env = [(false,eval b X.env)]:=by rfl):QI X ow tg (.Call (.Name "range" p) [a,b] [] pos) (miR2 mr):=by
  obtain ⟨t,p,s⟩:=ha
  refine ⟨_,pi_range2 hg hm p hs hs2,fun C G ρ σ H pd q Q r hm k => s C G ρ σ H pd _ _ r hm fun ds ρ' vs G' H' hq z kp r' p hn => ?_⟩
  split at hq
  · obtain ⟨v,u,rfl,p1,p2⟩:=reps_two p
    rw [rep_int_of p1,rep_int_of p2]
    exact ⟨_,_,rfl,hq.1,k _ ρ' G' H' _ hq.2 z kp r' itr_ok⟩
  · exact hq.elim
def enuD (ds:List D):List D:=ds.mapIdx fun i d => .tup [.int i,d]
theorem enuD_len (ds:List D):(enuD ds).length = ds.length:=by unfold enuD; simp
theorem enuD_at {ds:List D} {i:Nat} {d:D} (h:(enuD ds)[i]? = some d):∃ d',ds[i]? = some d' ∧ d = .tup [.int i,d']:=by
  unfold enuD at h
  rw [List.getElem?_mapIdx] at h
  cases e:ds[i]? with
  | none => rw [e] at h; cases h
  | some d' => rw [e] at h; exact ⟨d',rfl,(Option.some.inj h).symm⟩
theorem ite_ok {G:Hp} {p:Addr} {xs:List V} {ds:List D} (h1:G p = some (.lst xs)) (h2:Reps G ds xs):ItOk (Ite p) G (enuD ds):=fun C ow G' ρ σ H pd i z r => by
  have hp:=r.gh _ _ (z _ _ h1)
  refine ⟨fun hl => ⟨xs,hp,by rw [h2.length]; rw [enuD_len] at hl; exact hl⟩,fun d e => ?_⟩
  obtain ⟨d',e0,rfl⟩:=enuD_at e
  obtain ⟨v,e1,e2⟩:=reps_get h2 e0
  refine ⟨⟨xs,v,hp,e1⟩,fun x H' hy => ?_⟩
  obtain ⟨a,x',ha,rfl,rfl,hy⟩:=hy
  have:=hy xs hp
  rw [e1] at this; cases this
  obtain ⟨O,r⟩:=r
  obtain ⟨r2,s2⟩:=r.new ha (.tup [.int i,v])
  exact ⟨_,s2,⟨O,r2⟩,rep_tup upd_same (reps_cons (rep_int _) (reps_cons (Rep.mono (z.trans s2) _ _ e2) reps_nil))⟩
def miEnu (m:MA):MA:=fun ρ q => m ρ fun ds ρ' => match ds with
  | [.lst ds] => q (enuD ds) ρ'
  | _ => False
theorem qi_enum {k:Nat} {tpos p:Pos} (hg:Gl X "enumerate") (hm:X.mg "enumerate" = none) (ha:QA X ow [a] mr) (hs:starEach [a] X.env = [(false,eval a X.env)]:=by rfl):QI X ow (.Tuple es k tpos) (.Call (.Name "enumerate" p) [a] [] pos) (miEnu mr):=by
  obtain ⟨t,p,s⟩:=ha
  refine ⟨_,pi_enum hg hm p hs,fun C G ρ σ H pd q Q r hm k => s C G ρ σ H pd _ _ r hm fun ds ρ' vs G' H' hq z kp r' p hn => ?_⟩
  split at hq
  · obtain ⟨v,rfl,p1⟩:=reps_one p
    obtain ⟨a,xs,rfl,h1,h2⟩:=rep_lst_of p1
    exact ⟨a,rfl,⟨xs,r'.gh _ _ h1⟩,k _ ρ' G' H' _ hq z kp r' (ite_ok h1 h2)⟩
  · exact hq.elim
def mMove (i:Nat):ME:=fun ρ q => match ρ[i]? with
  | some (some d) => q d (ρ.set i none)
  | _ => False
end
inductive AK where
  | s | m (i:Nat) | t
def AK.isM:AK → Bool
  | .s => false
  | _ => true
def ArgsK (G:Hp) (σ:St):List AK → List D → List V → List (D × V) → Prop
  | [],[],[],[] => True
  | .s :: ks,d :: ds,v :: vs,T => Rep G d v ∧ ArgsK G σ ks ds vs T
  | .m i :: ks,_ :: ds,v :: vs,T => σ[i]? = some (some v) ∧ ArgsK G σ ks ds vs T
  | .t :: ks,d :: ds,v :: vs,x :: T => x = (d,v) ∧ ArgsK G σ ks ds vs T
  | _,_,_,_ => False
def SAk (ow:List Bool) (ks:List AK) (t:TA) (m:MA):Prop:=∀ (C:Ctx) (G:Hp) (ρ:DSt) (σ:St) (H:Hp) (pd:List (D × V)) (q:List D → DSt → Prop) (Q:List V → Hp → Prop),R C ow G ρ σ H pd → m ρ q →
  (∀ ds ρ' vs T G' H',q ds ρ' → Same G G' → Kp ow ρ ρ' → R C ow G' ρ' σ H' (T.reverse ++ pd) → ArgsK G' σ ks ds vs T → Q vs H') → t σ H Q
structure QAk (X:Cx) (ow:List Bool) (ks:List AK) (es:List Expr) (m:MA):Prop where
  ex:∃ t,PA X es t ∧ SAk ow ks t m
section
variable {X:Cx} {ow:List Bool} {a b c e tg:Expr} {ma mb mc:ME} {pos:Pos} {mr:MA} {es:List Expr} {ks:List AK}
theorem qk_nil:QAk X ow [] [] mNil:=⟨_,pa_nil,fun C G ρ σ H pd q Q r h k => k [] ρ [] [] G H h (Same.refl _) Kp.refl r trivial⟩
theorem qk_s (ha:QE X ow e ma) (hr:QAk X ow ks es mr) (hs:starEach (e :: es) X.env = (false,eval e X.env) :: starEach es X.env:=by rfl):QAk X ow (.s :: ks) (e :: es) (mCons ma mr):=by
  obtain ⟨t,p,s⟩:=ha; obtain ⟨t2,p2,s2⟩:=hr
  refine ⟨_,pa_cons p p2 hs,fun C G ρ σ H pd q Q r hm k => s C G ρ σ H pd _ _ r hm fun d ρ' v G' H' hq z kp r' p => ?_⟩
  exact s2 C G' ρ' σ H' pd _ _ r' hq fun ds ρ2 vs T G2 H2 hq2 z2 kp2 r2 p2 => k (d :: ds) ρ2 (v :: vs) T G2 H2 hq2 (z.trans z2) (kp.trans kp2) r2 ⟨Rep.mono z2 _ _ p,p2⟩
theorem qk_t (ha:QF X ow e ma) (hr:QAk X ow ks es mr) (hs:starEach (e :: es) X.env = (false,eval e X.env) :: starEach es X.env:=by rfl):QAk X ow (.t :: ks) (e :: es) (mCons ma mr):=by
  obtain ⟨t,p,s⟩:=ha; obtain ⟨t2,p2,s2⟩:=hr
  refine ⟨_,pa_cons p p2 hs,fun C G ρ σ H pd q Q r hm k => s C G ρ σ H pd _ _ r hm fun d ρ' v G' H' hq z kp r' => ?_⟩
  exact s2 C G' ρ' σ H' _ _ _ r' hq fun ds ρ2 vs T G2 H2 hq2 z2 kp2 r2 p2 => k (d :: ds) ρ2 (v :: vs) ((d,v) :: T) G2 H2 hq2 (z.trans z2) (kp.trans kp2) (by simpa using r2) ⟨rfl,p2⟩
def mConsM (i:Nat) (r:MA):MA:=fun ρ q => match ρ[i]? with
  | some (some _) => r ρ fun ds ρ2 => q (.non :: ds) ρ2
  | _ => False
theorem qk_m (i:Nat) {x:Str} (hr:QAk X ow ks es mr) (hN:X.N[i]? = some x:=by rfl) (hv:Vis X.env.scope x:=by first | exact Or.inl rfl | exact Or.inr (Or.inl rfl) | exact Or.inr (Or.inr rfl)) (hd:(x == ("__debug__":Str)) = false:=by decide)
    (hcd:(x == ("__classdict__":Str)) = false:=by decide) (hs:starEach (.Name x pos :: es) X.env = (false,eval (.Name x pos) X.env) :: starEach es X.env:=by rfl):QAk X ow (.m i :: ks) (.Name x pos :: es) (mConsM i mr):=by
  obtain ⟨t2,p2,s2⟩:=hr
  refine ⟨_,pa_cons (pe_var hN hv hd hcd) p2 hs,fun C G ρ σ H pd q Q r hm k => ?_⟩
  unfold mConsM at hm
  split at hm
  · rename_i d e
    obtain ⟨O,ro⟩:=r
    obtain ⟨v,h1,_⟩:=ro.sl i d e
    exact ⟨v,h1,s2 C G ρ σ H pd _ _ ⟨O,ro⟩ hm fun ds ρ2 vs T G2 H2 hq2 z2 kp2 r2 p2 => k (.non :: ds) ρ2 (v :: vs) T G2 H2 hq2 z2 kp2 r2 ⟨h1,p2⟩⟩
  · exact hm.elim
def fillA:List AK → List D → DSt → Option (List D)
  | [],[],_ => some []
  | .s :: ks,d :: ds,ρ => (fillA ks ds ρ).map (d :: ·)
  | .t :: ks,d :: ds,ρ => (fillA ks ds ρ).map (d :: ·)
  | .m i :: ks,_ :: ds,ρ => match ρ[i]? with
    | some (some d) => (fillA ks ds ρ).map (d :: ·)
    | _ => none
  | _,_,_ => none
def lbs:List AK → Nat → List (Option Nat)
  | [],_ => []
  | .s :: ks,r => none :: lbs ks r
  | .m i :: ks,r => some (2 * i) :: lbs ks r
  | .t :: ks,r => some (2 * r + 1) :: lbs ks (r + 1)
def slotsOf:List AK → List Nat
  | [] => []
  | .m i :: ks => i :: slotsOf ks
  | _ :: ks => slotsOf ks
def fnd (l:Nat):List (Option Nat) → Nat → Option Nat
  | [],_ => none
  | x :: xs,k => if x = some l then some k else fnd l xs (k + 1)
theorem fnd_of {l:Nat}:∀ {xs:List (Option Nat)} {k j:Nat},fnd l xs k = some j → ∃ i,j = k + i ∧ xs[i]? = some (some l)
  | [],_,_,h => by cases h
  | x :: xs,k,j,h => by
    unfold fnd at h
    split at h
    · rename_i c; cases h; exact ⟨0,rfl,by simp [c]⟩
    · obtain ⟨i,rfl,e⟩:=fnd_of h; exact ⟨i + 1,by exact zo9,by simpa using e⟩
theorem fnd_none {l:Nat}:∀ {xs:List (Option Nat)} {k:Nat},(∀ i:Nat,xs[i]? ≠ some (some l)) → fnd l xs k = none
  | [],_,_ => rfl
  | x :: xs,k,h => by
    unfold fnd
    rw [if_neg (fun c => h 0 (by simp [c]))]
    exact fnd_none fun i => by simpa using h (i + 1)
theorem fnd_at {l:Nat}:∀ {xs:List (Option Nat)} {k i:Nat},(∀ (i j:Nat) (l:Nat),xs[i]? = some (some l) → xs[j]? = some (some l) → i = j) → xs[i]? = some (some l) → fnd l xs k = some (k + i)
  | [],_,_,_,h => by simp at h
  | x :: xs,k,i,u,h => by
    unfold fnd
    by_cases c:x = some l
    · rw [if_pos c]
      have:=u 0 i l (by simp [c]) h
      subst this; rfl
    · rw [if_neg c]
      cases i with
      | zero => simp at h; exact absurd h c
      | succ i =>
        have:=fnd_at (k:=k + 1) (i:=i) (fun i j l a b => by have:=u (i + 1) (j + 1) l (by simpa using a) (by simpa using b); exact zo221 this) (by simpa using h)
        rw [this]; congr 1; exact zo9
theorem lbs_odd:∀ {ks:List AK} {r:Nat} {i l:Nat},(lbs ks r)[i]? = some (some l) → (∃ j ∈ slotsOf ks,l = 2 * j) ∨ ∃ j,r ≤ j ∧ l = 2 * j + 1
  | [],_,_,_,h => by simp [lbs] at h
  | .s :: ks,r,0,l,h => by simp [lbs] at h
  | .s :: ks,r,i + 1,l,h => by simp only [lbs,List.getElem?_cons_succ] at h; have:=lbs_odd (ks:=ks) h; simpa [slotsOf] using this
  | .m j :: ks,r,0,l,h => by simp [lbs] at h; exact .inl ⟨j,by simp [slotsOf],h.symm⟩
  | .m j :: ks,r,i + 1,l,h => by
    simp only [lbs,List.getElem?_cons_succ] at h
    rcases lbs_odd h with ⟨z,h1,h2⟩ | h
    · exact .inl ⟨z,by simp [slotsOf,h1],h2⟩
    · exact .inr h
  | .t :: ks,r,0,l,h => by simp [lbs] at h; exact .inr ⟨r,Nat.le_refl _,h.symm⟩
  | .t :: ks,r,i + 1,l,h => by
    simp only [lbs,List.getElem?_cons_succ] at h
    rcases lbs_odd h with ⟨z,h1,h2⟩ | ⟨j,h1,h2⟩
    · exact .inl ⟨z,by simpa [slotsOf] using h1,h2⟩
    · exact .inr ⟨j,by exact zo270 h1,h2⟩
theorem lbs_uniq:∀ {ks:List AK} {r:Nat},(slotsOf ks).Nodup → ∀ (i j l:Nat),(lbs ks r)[i]? = some (some l) → (lbs ks r)[j]? = some (some l) → i = j
  | [],_,_,i,j,l,h,_ => by simp [lbs] at h
  | .s :: ks,r,nd,0,j,l,h,_ => by simp [lbs] at h
  | .s :: ks,r,nd,i + 1,0,l,_,h => by simp [lbs] at h
  | .s :: ks,r,nd,i + 1,j + 1,l,h,h2 => by simp only [lbs,List.getElem?_cons_succ] at h h2; rw [lbs_uniq (ks:=ks) (by simpa [slotsOf] using nd) i j l h h2]
  | .m a :: ks,r,nd,0,0,l,_,_ => rfl
  | .m a :: ks,r,nd,0,j + 1,l,h,h2 => by
    simp only [lbs,List.getElem?_cons_succ] at h2; simp [lbs] at h
    simp only [slotsOf,List.nodup_cons] at nd
    rcases lbs_odd h2 with ⟨z,h3,h4⟩ | ⟨z,h3,h4⟩
    · exact absurd h3 (by rw [show z = a by exact zo46 h h4]; exact nd.1)
    · exact zo208 h h4
  | .m a :: ks,r,nd,i + 1,0,l,h2,h => by
    simp only [lbs,List.getElem?_cons_succ] at h2; simp [lbs] at h
    simp only [slotsOf,List.nodup_cons] at nd
    rcases lbs_odd h2 with ⟨z,h3,h4⟩ | ⟨z,h3,h4⟩
    · exact absurd h3 (by rw [show z = a by exact zo46 h h4]; exact nd.1)
    · exact zo209 h h4
  | .m a :: ks,r,nd,i + 1,j + 1,l,h,h2 => by
    simp only [slotsOf,List.nodup_cons] at nd
    simp only [lbs,List.getElem?_cons_succ] at h h2; rw [lbs_uniq (ks:=ks) nd.2 i j l h h2]
  | .t :: ks,r,nd,0,0,l,_,_ => rfl
  | .t :: ks,r,nd,0,j + 1,l,h,h2 => by
    simp only [lbs,List.getElem?_cons_succ] at h2; simp [lbs] at h
    rcases lbs_odd h2 with ⟨z,h3,h4⟩ | ⟨z,h3,h4⟩ <;> (first|lia|omega)
  | .t :: ks,r,nd,i + 1,0,l,h2,h => by
    simp only [lbs,List.getElem?_cons_succ] at h2; simp [lbs] at h
    rcases lbs_odd h2 with ⟨z,h3,h4⟩ | ⟨z,h3,h4⟩ <;> (first|lia|omega)
  | .t :: ks,r,nd,i + 1,j + 1,l,h,h2 => by simp only [lbs,List.getElem?_cons_succ] at h h2; rw [lbs_uniq (ks:=ks) (by simpa [slotsOf] using nd) i j l h h2]
end
theorem pend_tail {G H:Hp} {O:Own}:∀ {T pd:List (D × V)},Pend G H O (T ++ pd) → Pend G H O pd
  | [],_,h => h
  | _ :: T,_,h => pend_tail (T:=T) h.2
theorem pend_at {G H:Hp} {O:Own}:∀ {T pd:List (D × V)} {j:Nat} {x:D × V},Pend G H O (T.reverse ++ pd) → T[j]? = some x → Sep G H O (2 * (pd.length + j) + 1) x.1 [] x.2
  | [],_,_,_,_,e => by simp at e
  | y :: T,pd,j,x,h,e => by
    have h':Pend G H O (T.reverse ++ (y :: pd)):=by simpa using h
    cases j with
    | zero => simp at e; subst e; exact (pend_tail h').1
    | succ j =>
      have:=pend_at (j:=j) h' (by simpa using e)
      rw [show pd.length + (j + 1) = (y :: pd).length + j by simp; exact zo117]
      exact this
theorem args_at {G H:Hp} {O:Own} {σ:St} {ρ:DSt}:∀ {ks:List AK} {ds ds':List D} {vs:List V} {T:List (D × V)} {r:Nat},ArgsK G σ ks ds vs T → fillA ks ds ρ = some ds' →
    (∀ (j:Nat) x,T[j]? = some x → Sep G H O (2 * (r + j) + 1) x.1 [] x.2) → (∀ i ∈ slotsOf ks,∀ d,ρ[i]? = some (some d) → ∃ v,σ[i]? = some (some v) ∧ Sep G H O (2 * i) d [] v) →
    ds'.length = vs.length ∧ vs.length = ks.length ∧ ∀ (k:Nat) d,ds'[k]? = some d → ∃ v,vs[k]? = some v ∧ ((∃ l,(lbs ks r)[k]? = some (some l) ∧ (ks.map AK.isM)[k]? = some true ∧ Sep G H O l d [] v) ∨ ((ks.map AK.isM)[k]? = some false ∧ Rep G d v))
  | [],[],ds',[],[],r,_,hf,_,_ => by simp [fillA] at hf; subst hf; exact ⟨rfl,rfl,fun k d e => by simp at e⟩
  | .s :: ks,d :: ds,ds',v :: vs,T,r,h,hf,hT,hS => by
    rw [fillA] at hf
    cases e:fillA ks ds ρ with
    | none => rw [e] at hf; cases hf
    | some es =>
      rw [e] at hf; cases hf
      obtain ⟨l1,l2,ih⟩:=args_at (ks:=ks) h.2 e hT (fun i hi => hS i (by simpa [slotsOf] using hi))
      refine ⟨by simp [l1],by simp [l2],fun k d' e' => ?_⟩
      cases k with
      | zero => simp at e'; subst e'; exact ⟨v,rfl,.inr ⟨rfl,h.1⟩⟩
      | succ k => obtain ⟨u,g1,g2⟩:=ih k d' (by simpa using e'); exact ⟨u,by simpa using g1,by simpa [lbs] using g2⟩
  | .m i :: ks,d :: ds,ds',v :: vs,T,r,h,hf,hT,hS => by
    rw [fillA] at hf
    cases e0 : ρ[i]? with
    | none => rw [e0] at hf; cases hf
    | some o =>
      cases o with
      | none => rw [e0] at hf; cases hf
      | some d0 =>
        rw [e0] at hf
        dsimp only at hf
        cases e:fillA ks ds ρ with
        | none => rw [e] at hf; cases hf
        | some es =>
          rw [e] at hf; cases hf
          obtain ⟨l1,l2,ih⟩:=args_at (ks:=ks) h.2 e hT (fun i hi => hS i (by simp [slotsOf,hi]))
          refine ⟨by simp [l1],by simp [l2],fun k d' e' => ?_⟩
          cases k with
          | zero =>
            simp at e'; subst e'
            obtain ⟨u,g1,g2⟩:=hS i (by simp [slotsOf]) d0 e0
            rw [h.1] at g1; cases g1
            exact ⟨v,rfl,.inl ⟨2 * i,by simp [lbs],rfl,g2⟩⟩
          | succ k => obtain ⟨u,g1,g2⟩:=ih k d' (by simpa using e'); exact ⟨u,by simpa using g1,by simpa [lbs] using g2⟩
  | .t :: ks,d :: ds,ds',v :: vs,x :: T,r,h,hf,hT,hS => by
    rw [fillA] at hf
    cases e:fillA ks ds ρ with
    | none => rw [e] at hf; cases hf
    | some es =>
      rw [e] at hf; cases hf
      obtain ⟨l1,l2,ih⟩:=args_at (ks:=ks) (r:=r + 1) h.2 e (fun j x e => by rw [show r + 1 + j = r + (j + 1) by exact zo9]; exact hT (j + 1) x (by simpa using e)) (fun i hi => hS i (by simpa [slotsOf] using hi))
      refine ⟨by simp [l1],by simp [l2],fun k d' e' => ?_⟩
      cases k with
      | zero =>
        simp at e'; subst e'
        have:=hT 0 x rfl
        rw [h.1] at this
        exact ⟨v,rfl,.inl ⟨2 * r + 1,by simp [lbs],rfl,this⟩⟩
      | succ k => obtain ⟨u,g1,g2⟩:=ih k d' (by simpa using e'); exact ⟨u,by simpa using g1,by simpa [lbs] using g2⟩
  | [],_ :: _,_,_,_,_,h,_,_,_ => h.elim
  | [],[],_,_ :: _,_,_,h,_,_,_ => h.elim
  | [],[],_,[],_ :: _,_,h,_,_,_ => h.elim
  | .s :: _,[],_,_,_,_,h,_,_,_ => h.elim
  | .s :: _,_ :: _,_,[],_,_,h,_,_,_ => h.elim
  | .m _ :: _,[],_,_,_,_,h,_,_,_ => h.elim
  | .m _ :: _,_ :: _,_,[],_,_,h,_,_,_ => h.elim
  | .t :: _,[],_,_,_,_,h,_,_,_ => h.elim
  | .t :: _,_ :: _,_,[],_,_,h,_,_,_ => h.elim
  | .t :: _,_ :: _,_,_ :: _,[],_,h,_,_,_ => h.elim
theorem args_slot {G:Hp} {σ:St}:∀ {ks:List AK} {ds:List D} {vs:List V} {T:List (D × V)} {k i:Nat},ArgsK G σ ks ds vs T → ks[k]? = some (.m i) → ∃ v,vs[k]? = some v ∧ σ[i]? = some (some v)
  | [],_,_,_,k,i,_,e => by simp at e
  | .s :: ks,d :: ds,v :: vs,T,0,i,h,e => by simp at e
  | .s :: ks,d :: ds,v :: vs,T,k + 1,i,h,e => by obtain ⟨u,g1,g2⟩:=args_slot (k:=k) h.2 (by simpa using e); exact ⟨u,by simpa using g1,g2⟩
  | .m j :: ks,d :: ds,v :: vs,T,0,i,h,e => by simp at e; subst e; exact ⟨v,rfl,h.1⟩
  | .m j :: ks,d :: ds,v :: vs,T,k + 1,i,h,e => by obtain ⟨u,g1,g2⟩:=args_slot (k:=k) h.2 (by simpa using e); exact ⟨u,by simpa using g1,g2⟩
  | .t :: ks,d :: ds,v :: vs,x :: T,0,i,h,e => by simp at e
  | .t :: ks,d :: ds,v :: vs,x :: T,k + 1,i,h,e => by obtain ⟨u,g1,g2⟩:=args_slot (k:=k) h.2 (by simpa using e); exact ⟨u,by simpa using g1,g2⟩
  | .s :: _,[],_,_,_,_,h,_ => h.elim
  | .s :: _,_ :: _,[],_,_,_,h,_ => h.elim
  | .m _ :: _,[],_,_,_,_,h,_ => h.elim
  | .m _ :: _,_ :: _,[],_,_,_,h,_ => h.elim
  | .t :: _,[],_,_,_,_,h,_ => h.elim
  | .t :: _,_ :: _,[],_,_,_,h,_ => h.elim
  | .t :: _,_ :: _,_ :: _,[],_,_,h,_ => h.elim
def putR:List AK → DSt → DSt → DSt
  | .m i :: ks,x :: ρ2,ρ => putR ks ρ2 (ρ.set i x)
  | _ :: ks,_ :: ρ2,ρ => putR ks ρ2 ρ
  | _,_,ρ => ρ
def putK:List AK → DSt → DSt → DSt
  | .s :: ks,os,ρ => putK ks os ρ
  | .m i :: ks,o :: os,ρ => putK ks os (ρ.set i o)
  | .t :: ks,_ :: os,ρ => putK ks os ρ
  | _,_,ρ => ρ
theorem putK_eq:∀ {ks:List AK} {ρ2 ρ:DSt},ρ2.length = ks.length → putK ks (mus (ks.map AK.isM) ρ2) ρ = putR ks ρ2 ρ
  | [],[],ρ,_ => rfl
  | .s :: ks,x :: ρ2,ρ,h => by simp only [List.map,AK.isM,mus,putK,putR]; exact putK_eq (by simpa using h)
  | .m i :: ks,x :: ρ2,ρ,h => by simp only [List.map,AK.isM,mus,putK,putR]; exact putK_eq (by simpa using h)
  | .t :: ks,x :: ρ2,ρ,h => by simp only [List.map,AK.isM,mus,putK,putR]; exact putK_eq (by simpa using h)
theorem putR_len:∀ {ks:List AK} {ρ2 ρ:DSt},(putR ks ρ2 ρ).length = ρ.length
  | [],_,_ => by simp [putR]
  | .s :: ks,[],_ => by simp [putR]
  | .m i :: ks,[],_ => by simp [putR]
  | .t :: ks,[],_ => by simp [putR]
  | .s :: ks,x :: ρ2,ρ => by simp only [putR]; exact putR_len
  | .m i :: ks,x :: ρ2,ρ => by simp only [putR]; rw [putR_len]; simp
  | .t :: ks,x :: ρ2,ρ => by simp only [putR]; exact putR_len
theorem putR_off:∀ {ks:List AK} {ρ2 ρ:DSt} {i:Nat},i ∉ slotsOf ks → (putR ks ρ2 ρ)[i]? = ρ[i]?
  | [],_,_,_,_ => by simp [putR]
  | .s :: ks,[],_,_,_ => by simp [putR]
  | .m i :: ks,[],_,_,_ => by simp [putR]
  | .t :: ks,[],_,_,_ => by simp [putR]
  | .s :: ks,x :: ρ2,ρ,i,h => by simp only [putR]; exact putR_off (by simpa [slotsOf] using h)
  | .t :: ks,x :: ρ2,ρ,i,h => by simp only [putR]; exact putR_off (by simpa [slotsOf] using h)
  | .m j :: ks,x :: ρ2,ρ,i,h => by
    simp only [putR]
    simp only [slotsOf,List.mem_cons,not_or] at h
    rw [putR_off h.2,List.getElem?_set_ne (Ne.symm h.1)]
theorem putR_at:∀ {ks:List AK} {ρ2 ρ:DSt} {i:Nat} {d:D},(putR ks ρ2 ρ)[i]? = some (some d) → ρ2.length = ks.length → (i ∉ slotsOf ks ∧ ρ[i]? = some (some d)) ∨ ∃ k:Nat,ks[k]? = some (.m i) ∧ ρ2[k]? = some (some d)
  | [],[],ρ,i,d,h,_ => .inl ⟨by simp [slotsOf],by simpa [putR] using h⟩
  | .s :: ks,x :: ρ2,ρ,i,d,h,hl => by
    simp only [putR] at h
    rcases putR_at h (by simpa using hl) with ⟨h1,h2⟩ | ⟨k,h1,h2⟩
    · exact .inl ⟨by simpa [slotsOf] using h1,h2⟩
    · exact .inr ⟨k + 1,by simpa using h1,by simpa using h2⟩
  | .t :: ks,x :: ρ2,ρ,i,d,h,hl => by
    simp only [putR] at h
    rcases putR_at h (by simpa using hl) with ⟨h1,h2⟩ | ⟨k,h1,h2⟩
    · exact .inl ⟨by simpa [slotsOf] using h1,h2⟩
    · exact .inr ⟨k + 1,by simpa using h1,by simpa using h2⟩
  | .m j :: ks,x :: ρ2,ρ,i,d,h,hl => by
    simp only [putR] at h
    rcases putR_at h (by simpa using hl) with ⟨h1,h2⟩ | ⟨k,h1,h2⟩
    · rcases set_at h2 with ⟨rfl,rfl⟩ | ⟨h3,h4⟩
      · exact .inr ⟨0,rfl,rfl⟩
      · exact .inl ⟨by simp [slotsOf,h1,h3],h4⟩
    · exact .inr ⟨k + 1,by simpa using h1,by simpa using h2⟩
theorem lbs_m:∀ {ks:List AK} {r k i:Nat},ks[k]? = some (.m i) → (lbs ks r)[k]? = some (some (2 * i))
  | [],_,_,_,e => by simp at e
  | .s :: ks,r,0,i,e => by simp at e
  | .s :: ks,r,k + 1,i,e => by simp only [lbs,List.getElem?_cons_succ]; exact lbs_m (by simpa using e)
  | .m j :: ks,r,0,i,e => by simp at e; subst e; simp [lbs]
  | .m j :: ks,r,k + 1,i,e => by simp only [lbs,List.getElem?_cons_succ]; exact lbs_m (by simpa using e)
  | .t :: ks,r,0,i,e => by simp at e
  | .t :: ks,r,k + 1,i,e => by simp only [lbs,List.getElem?_cons_succ]; exact lbs_m (by simpa using e)
theorem lbs_isM:∀ {ks:List AK} {r k l:Nat},(lbs ks r)[k]? = some (some l) → (ks.map AK.isM)[k]? = some true
  | [],_,_,_,e => by simp [lbs] at e
  | .s :: ks,r,0,i,e => by simp [lbs] at e
  | .s :: ks,r,k + 1,i,e => by simp only [lbs,List.getElem?_cons_succ] at e; simp only [List.map,List.getElem?_cons_succ]; exact lbs_isM e
  | .m j :: ks,r,0,i,e => rfl
  | .m j :: ks,r,k + 1,i,e => by simp only [lbs,List.getElem?_cons_succ] at e; simp only [List.map,List.getElem?_cons_succ]; exact lbs_isM e
  | .t :: ks,r,0,i,e => rfl
  | .t :: ks,r,k + 1,i,e => by simp only [lbs,List.getElem?_cons_succ] at e; simp only [List.map,List.getElem?_cons_succ]; exact lbs_isM e
theorem slot_of {ks:List AK} {k i:Nat} (h:ks[k]? = some (.m i)):i ∈ slotsOf ks:=by
  induction ks generalizing k with
  | nil => simp at h
  | cons x ks ih =>
    cases k with
    | zero => simp at h; subst h; simp [slotsOf]
    | succ k => have:=ih (by simpa using h); cases x <;> simp [slotsOf,this]
theorem run_call {C:Ctx} {ow:List Bool} {G:Hp} {ρ:DSt} {σ:St} {H:Hp} {pd T:List (D × V)} {ks:List AK} {ds ds':List D} {vs:List V} {fr:Bool} {sd:SpD} {q:D → DSt → Prop} {Q:VK} {E:XK}
    (hn:C.np ≤ pd.length) (r:R C ow G ρ σ H (T.reverse ++ pd)) (ha:ArgsK G σ ks ds vs T) (hf:fillA ks ds ρ = some ds') (nd:(slotsOf ks).Nodup) (hw:∀ i ∈ slotsOf ks,ow[i]? = some true)
    (h:sd ds' fun d os => q d (putK ks os ρ))
    (k:∀ d ρ' v G' H',q d ρ' → Same G G' → Kp ow ρ ρ' → (if fr = true then R C ow G' ρ' σ H' ((d,v) :: pd) else R C ow G' ρ' σ H' pd ∧ Rep G' d v) → Q v H'):spOf (ks.map AK.isM) fr sd vs H Q E:=by
  obtain ⟨O,ro⟩:=r
  have pn:=ro.pn
  obtain ⟨l1,l2,hat⟩:=args_at (O:=O) (H:=H) (r:=pd.length) ha hf (fun j x e => pend_at pn e) (fun i hi d e => by
    obtain ⟨v,h1,h2⟩:=ro.sl i d e; rw [if_pos (hw i hi)] at h2; exact ⟨v,h1,h2⟩)
  let lb:=lbs ks pd.length
  let fin:Nat → Option Nat:=fun l => (fnd l lb 0).map (2 * ·)
  let fbk:Nat → Option Nat:=fun l => if l = 1 then some (2 * pd.length + 1) else if l % 2 = 0 then (match lb[l / 2]? with | some o => o | none => none) else none
  have uq:=lbs_uniq (ks:=ks) (r:=pd.length) nd
  have fin_at:∀ (i l:Nat),lb[i]? = some (some l) → fin l = some (2 * i):=fun i l e => by
    show (fnd l lb 0).map _ = _
    rw [fnd_at uq e]; simp
  have fin_of:∀ l l',fin l = some l' → ∃ i,l' = 2 * i ∧ lb[i]? = some (some l):=fun l l' e => by
    change (fnd l lb 0).map _ = _ at e
    cases z:fnd l lb 0 with
    | none => rw [z] at e; cases e
    | some j => rw [z] at e; cases e; obtain ⟨i,rfl,e2⟩:=fnd_of z; exact ⟨i,by show 2 * (0 + i) = 2 * i; exact zo73,e2⟩
  have fin_none:∀ l,(∀ i:Nat,lb[i]? ≠ some (some l)) → fin l = none:=fun l e => by
    show (fnd l lb 0).map _ = _
    rw [fnd_none e]; rfl
  have ri:=ro.into (mu:=ks.map AK.isM) (fin:=fin) (ds:=ds') (vs:=vs) l1 (fun j d e => by
    obtain ⟨v,h1,h2⟩:=hat j d e
    refine ⟨v,h1,?_⟩
    rcases h2 with ⟨l,h2,h3,h4⟩ | ⟨h2,h3⟩
    · rw [if_pos h3]; exact ⟨l,h4,fin_at j l h2⟩
    · rw [if_neg (by rw [h2]; decide)]; exact h3) (fun l l' e => by
    obtain ⟨i,rfl,e2⟩:=fin_of l l' e
    exact ⟨i,rfl,lbs_isM e2,by have:=(List.getElem?_eq_some_iff.mp (lbs_isM e2)).1; rw [List.length_map] at this; exact zo64 l2 this⟩)
  refine ⟨_,G,ds',fun d os => q d (putK ks os ρ),rfl,rfl,⟨_,ri⟩,h,by rw [List.length_map,l1,l2],?_⟩
  intro d ρ2 σ2 v G2 H2 hq z hl hr
  rw [List.length_map] at hl
  rw [putK_eq hl] at hq
  have out:∀ (pd2 pd3:List (D × V)) (O2:Own),RO ⟨G,H,ownM fin O,msV (ks.map AK.isM) vs,0⟩ (ks.map AK.isM) G2 ρ2 σ2 H2 pd2 O2 → C.np ≤ pd3.length →
      (∀ (O3:Own),(∀ a l π,O a = some (l,π) → fin l = none → O3 a = some (l,π) ∧ H2 a = H a) → (∀ a l l' π,O2 a = some (l',π) → fbk l' = some l → O3 a = some (l,π)) → TSame G G2 → Pend G2 H2 O3 pd3) →
      RO C ow G2 (putR ks ρ2 ρ) σ H2 pd3 (ownB fin fbk O O2):=fun pd2 pd3 O2 r2 hn3 hP => by
    refine ro.out (vs:=vs) r2 ?_ (by rw [putR_len]; exact ro.len) hn3 ?_ ?_ hP
    · intro l0 l' l e1 e2
      obtain ⟨i,rfl,e3⟩:=fin_of l0 l' e1
      change (if 2 * i = 1 then _ else if 2 * i % 2 = 0 then _ else _) = _ at e2
      rw [if_neg (by exact zo37),if_pos (by exact zo3),show 2 * i / 2 = i by exact zo2,e3] at e2
      exact (Option.some.inj e2).symm
    · intro i d c e
      rcases putR_at e hl with ⟨_,h2⟩ | ⟨k,h1,_⟩
      · exact h2
      · exact absurd (hw i (slot_of h1)) c
    · intro i d c e
      rcases putR_at e hl with ⟨h1,h2⟩ | ⟨j,h1,h2⟩
      · refine .inl ⟨fin_none _ fun j e => ?_,h2⟩
        rcases lbs_odd e with ⟨z,h3,h4⟩ | ⟨z,h3,h4⟩
        · exact h1 (by rw [show i = z by exact zo16 h4]; exact h3)
        · exact zo65 h4
      · obtain ⟨u,g1,g2⟩:=args_slot ha h1
        have im:(ks.map AK.isM)[j]? = some true:=by rw [List.getElem?_map,h1]; rfl
        refine .inr ⟨j,u,?_,im,h2,g2,r2.mp j u (msV_at im g1)⟩
        show (if 2 * j = 1 then _ else if 2 * j % 2 = 0 then _ else _) = _
        rw [if_neg (by exact zo37),if_pos (by exact zo3),show 2 * j / 2 = j by exact zo2,lbs_m h1]
  have pdk:∀ (O3:Own),(∀ a l π,O a = some (l,π) → fin l = none → O3 a = some (l,π) ∧ H2 a = H a) → TSame G G2 → Pend G2 H2 O3 pd:=fun O3 h1 ts =>
    Pend.keep ts (fun a j π hj e => h1 a _ _ e (fin_none _ fun i e => by
      rcases lbs_odd e with ⟨z,h3,h4⟩ | ⟨z,h3,h4⟩ <;> (first|lia|omega))) (pend_tail (T:=T.reverse) pn)
  have kp:Kp ow ρ (putR ks ρ2 ρ):=fun j hj => putR_off fun hs => hj (hw j hs)
  refine k d (putR ks ρ2 ρ) v G2 H2 hq z kp ?_
  unfold Ret at hr
  split at hr
  · rename_i c
    rw [if_pos c]
    obtain ⟨O2,r2⟩:=hr
    refine ⟨_,out _ ((d,v) :: pd) O2 r2 (Nat.le_succ_of_le hn) fun O3 h1 h2 ts => ⟨?_,pdk O3 h1 ts⟩⟩
    exact r2.pn.1.keep (fun _ _ z => z) fun a τ e => ⟨h2 a _ _ _ e (by show (if 2 * 0 + 1 = 1 then _ else _) = _; rw [if_pos rfl]),rfl⟩
  · rename_i c
    rw [if_neg c]
    obtain ⟨⟨O2,r2⟩,p⟩:=hr
    exact ⟨⟨_,out _ pd O2 r2 hn fun O3 h1 h2 ts => pdk O3 h1 ts⟩,p⟩
section
variable {X:Cx} {ow:List Bool} {a b c e tg:Expr} {ma mb mc:ME} {pos p':Pos} {mr:MA} {es:List Expr} {ks:List AK} {x:Str}
def mCall (ks:List AK) (sd:SpD) (m:MA):ME:=fun ρ q => m ρ fun ds ρ1 => match fillA ks ds ρ1 with
  | some ds' => sd ds' fun d os => q d (putK ks os ρ1)
  | none => False
theorem qe_call {k:Nat} {f:Addr} {fd:FuncData} {ps:List Str} {mu:List Bool} {sd:SpD} (F:FnOk X.prog X.w X.K X.mg X.base CX0 k f fd ps (spOf mu false sd)) (hr:Room k X.A) (hg:Gl X x) (hm:X.mg x = some (.ref f)) (hk:PySem.W.keepIn X.K (.ref f) = true) (hb:Binds X.K fd ps [])
    (ha:QAk X ow ks (e :: es) mr) (hmu:mu = ks.map AK.isM:=by rfl) (nd:(slotsOf ks).Nodup:=by decide) (hw:∀ i ∈ slotsOf ks,ow[i]? = some true:=by decide) (hdb:(x == ("__debug__":Str)) = false:=by decide)
    (he:starEach (e :: es) X.env = (false,eval e X.env) :: starEach es X.env:=by rfl) (hpl:(backTo pos (starEach es X.env)).any (·.1) = false:=by rfl):QE X ow (.Call (.Name x p') (e :: es) [] pos) (mCall ks sd mr):=by
  obtain ⟨t,p,s⟩:=ha
  subst hmu
  refine ⟨_,pe_call F hr hg hm hk hb .nil pass0 p hdb he hpl,fun C G ρ σ H pd q Q r hm k => s C G ρ σ H pd _ _ r hm fun ds ρ' vs T G' H' hq z kp r' p => ?_⟩
  rw [List.append_nil]
  split at hq
  · rename_i ds' ef
    exact run_call (fr:=false) r.np r' p ef nd hw hq fun d ρ2 v G2 H2 hq2 z2 kp2 h2 => by
      rw [if_neg (by decide)] at h2
      exact k d ρ2 v G2 H2 hq2 (z.trans z2) (kp.trans kp2) h2.1 h2.2
  · exact hq.elim
theorem qf_call {k:Nat} {f:Addr} {fd:FuncData} {ps:List Str} {mu:List Bool} {sd:SpD} (F:FnOk X.prog X.w X.K X.mg X.base CX0 k f fd ps (spOf mu true sd)) (hr:Room k X.A) (hg:Gl X x) (hm:X.mg x = some (.ref f)) (hk:PySem.W.keepIn X.K (.ref f) = true) (hb:Binds X.K fd ps [])
    (ha:QAk X ow ks (e :: es) mr) (hmu:mu = ks.map AK.isM:=by rfl) (nd:(slotsOf ks).Nodup:=by decide) (hw:∀ i ∈ slotsOf ks,ow[i]? = some true:=by decide) (hdb:(x == ("__debug__":Str)) = false:=by decide)
    (he:starEach (e :: es) X.env = (false,eval e X.env) :: starEach es X.env:=by rfl) (hpl:(backTo pos (starEach es X.env)).any (·.1) = false:=by rfl):QF X ow (.Call (.Name x p') (e :: es) [] pos) (mCall ks sd mr):=by
  obtain ⟨t,p,s⟩:=ha
  subst hmu
  refine ⟨_,pe_call F hr hg hm hk hb .nil pass0 p hdb he hpl,fun C G ρ σ H pd q Q r hm k => s C G ρ σ H pd _ _ r hm fun ds ρ' vs T G' H' hq z kp r' p => ?_⟩
  rw [List.append_nil]
  split at hq
  · rename_i ds' ef
    exact run_call (fr:=true) r.np r' p ef nd hw hq fun d ρ2 v G2 H2 hq2 z2 kp2 h2 => by
      rw [if_pos rfl] at h2
      exact k d ρ2 v G2 H2 hq2 (z.trans z2) (kp.trans kp2) h2
  · exact hq.elim
end
theorem RO.grow {C:Ctx} {mu ow:List Bool} {G:Hp} {ds:List D} {vs:List V} {H:Hp} {O:Own} (n:Nat) (h:RO C mu G (ds.map some) (vs.map some) H [] O) (ho:∀ i:Nat,i < ds.length → ow[i]? = mu[i]?) :
    RO C ow G (ds.map some ++ List.replicate n none) (vs.map some ++ List.replicate n none) H [] O:=by
  have hl:ds.length = vs.length:=by simpa using h.len
  have up:∀ {α:Type} {l:List α} {i:Nat} {d : α},(l.map some ++ List.replicate n none)[i]? = some (some d) → i < l.length ∧ (l.map some)[i]? = some (some d):=fun {α l i d} e => by
    by_cases c:i < l.length
    · rw [List.getElem?_append_left (by simpa using c)] at e; exact ⟨c,e⟩
    · rw [List.getElem?_append_right (by simpa using c)] at e
      rw [List.getElem?_replicate] at e
      split at e <;> cases e
  refine ⟨by simp [hl],h.gh,h.g0,h.gn,h.og,h.cok,h.fr,h.al,?_,?_,h.pn,h.np⟩
  · intro i v e
    have:=h.mp i v e
    rw [List.getElem?_append_left (lt_of_slot this)]; exact this
  · intro i d e
    obtain ⟨c,e1⟩:=up e
    obtain ⟨v,h1,h2⟩:=h.sl i d e1
    exact ⟨v,by rw [List.getElem?_append_left (lt_of_slot h1)]; exact h1,by rw [ho i c]; exact h2⟩
theorem RO.trim {C:Ctx} {mu ow:List Bool} {G:Hp} {ρ:DSt} {σ:St} {H:Hp} {pd:List (D × V)} {O:Own} (h:RO C ow G ρ σ H pd O) (hm:MuOk C mu) (ho:∀ i:Nat,i < mu.length → ow[i]? = mu[i]?) :
    RO C mu G (padS mu.length ρ) (padS mu.length σ) H pd O:=by
  refine ⟨by rw [padS_len,padS_len],h.gh,h.g0,h.gn,h.og,h.cok,h.fr,h.al,?_,?_,h.pn,h.np⟩
  · intro i v e
    exact padS_at (lt_of_slot' (hm i v e)) (h.mp i v e)
  · intro i d e
    obtain ⟨c,e1⟩:=padS_of e
    obtain ⟨v,h1,h2⟩:=h.sl i d e1
    exact ⟨v,padS_at c h1,by rw [← ho i c]; exact h2⟩
where
  lt_of_slot' {l:List Bool} {i:Nat} {x:Bool} (h:l[i]? = some x):i < l.length:=(List.getElem?_eq_some_iff.mp h).1
def endsOf (mu:List Bool) (q:D → DSt → Prop):EndsD:=⟨fun ρ => q .non (mus mu ρ),fun d ρ => q d (mus mu ρ),fun _ => False,fun _ => False⟩
theorem fnD {P:Program} {w:World} {K:PySem.W.Frag} {mg:Str → Option Value} {base:Heap} {x qual:Str} {st:Stmt} {f:Addr} {fd:FuncData} {N ps:List Str} {k:Nat} (F:Fun K x qual st f fd) (S:FnScope N ps (defScope st)) (M:Md) (sd:SpD)
    (hl:∀ ds q,sd ds q → ds.length = ps.length) (ho:M.ow.take ps.length = M.mu) (hml:M.mu.length = ps.length)
    (hbody:∀ (cdv:Value) (A:Around) (outer:List Env) (s:Shared) (H:Hp) (E:XK),Room k (A.deeper (envOfC qual (defScope st) s.heap.objs.size f cdv)) →
      ∃ m,QSs (cxOf CX0 P w K mg base N qual (defScope st) f cdv A outer s H E).nox M (defBody st) m ∧ ∀ ds q,sd ds q → m (endsOf M.mu q) (ds.map some ++ List.replicate (N.length - ps.length) none)) :
    FnOk P w K mg base CX0 (k + 1) f fd ps (spOf M.mu M.fr sd):=by
  have hov:∀ i:Nat,i < M.mu.length → M.ow[i]? = M.mu[i]?:=fun i hi => by rw [← ho,List.getElem?_take_of_lt (by exact zo51 hml hi)]
  have hlen:∀ vs H Q E,spOf M.mu M.fr sd vs H Q E → vs.length = ps.length:=fun vs H Q E ⟨C,G,ds,q,_,_,⟨O,ro⟩,h1,_,_⟩ => by
    have:=ro.len; simp at this; rw [← this]; exact hl ds q h1
  refine F.ok S hlen fun cdv A outer s H vs Q E hr hsp => ?_
  obtain ⟨m,⟨t,p,ss⟩,hm⟩:=hbody cdv A outer s H E hr
  have hvl:=hlen vs H Q E hsp
  obtain ⟨C,G,ds,q,hnp,hmu,⟨O,ro⟩,hsd,hml2,kk⟩:=hsp
  refine ⟨t,p,?_⟩
  have hmo:MuOk C M.mu:=fun i v e => by rw [hmu] at e; exact (msV_of e).1
  have r0:R C M.ow G (ds.map some ++ List.replicate (N.length - ps.length) none) (start N vs) H []:=by
    unfold start; rw [hvl]
    exact ⟨O,ro.grow _ fun i hi => hov i (by exact zo28 hml hvl hml2 hi)⟩
  refine ss C G _ _ H (endsOf M.mu q) _ hmo hnp r0 (hm ds q hsd) ⟨?_,fun _ _ _ _ h => h.elim,fun _ _ _ _ h => h.elim,?_⟩
  · intro ρ σ G' H' h z ⟨O',r'⟩
    refine kk .non (padS M.mu.length ρ) (padS M.mu.length σ) .non G' H' (by rw [padS_mus]; exact h) z (padS_len _ _) (R.non ⟨O',r'.trim hmo hov⟩)
  · intro d ρ σ v G' H' h z hr'
    refine kk d (padS M.mu.length ρ) (padS M.mu.length σ) v G' H' (by rw [padS_mus]; exact h) z (padS_len _ _) ?_
    unfold Ret at hr' ⊢
    split at hr'
    · rename_i c; rw [if_pos c]; obtain ⟨O',r'⟩:=hr'; exact ⟨O',r'.trim hmo hov⟩
    · rename_i c; rw [if_neg c]; obtain ⟨⟨O',r'⟩,p⟩:=hr'; exact ⟨⟨O',r'.trim hmo hov⟩,p⟩
theorem Seps.mk {G H:Hp} {O:Own} {i:Nat}:∀ {T:List (D × V)} {k:Nat} {π:List Nat},(∀ (j:Nat) x,T[j]? = some x → Sep G H O i x.1 ((k + j) :: π) x.2) → Seps G H O i (T.map (·.1)) k π (T.map (·.2))
  | [],_,_,_ => by simp; rw [Seps]
  | x :: T,k,π,h => by
    simp only [List.map]; rw [Seps]
    exact ⟨x.2,_,rfl,by simpa using h 0 x rfl,Seps.mk fun j y e => by rw [show k + 1 + j = k + (j + 1) by exact zo9]; exact h (j + 1) y (by simpa using e)⟩
section
variable {C:Ctx} {ow:List Bool} {G:Hp} {ρ:DSt} {σ:St} {H:Hp} {pd T:List (D × V)} {O:Own}
theorem RO.gather (h:RO C ow G ρ σ H (T.reverse ++ pd) O) (hn:C.np ≤ pd.length):∃ O',RO C ow G ρ σ H pd O' ∧ Seps G H O' (2 * pd.length + 1) (T.map (·.1)) 0 [] (T.map (·.2)):=by
  refine ⟨lab (fun l π => if l % 2 = 1 ∧ pd.length ≤ l / 2 then (2 * pd.length + 1,π ++ [l / 2 - pd.length]) else (l,π)) O,⟨h.len,h.gh,h.g0,h.gn,?_,h.cok,h.fr,h.al,h.mp,?_,?_,hn⟩,?_⟩
  · intro a m e
    obtain ⟨l,π,e1,rfl⟩:=lab_of e
    obtain ⟨q1,q2,q3⟩:=h.og a _ e1
    refine ⟨q1,q2,?_⟩
    split
    · rename_i z
      rcases q3 with q3 | ⟨_,q3⟩
      · exact .inl q3
      · rcases h.cok _ _ _ q3 with ⟨k,_,q4,_⟩ | ⟨k,q4,q5⟩
        · (first|lia|omega)
        · (first|lia|omega)
    · exact q3
  · intro j e q
    obtain ⟨u,h1,h2⟩:=h.sl j e q
    refine ⟨u,h1,?_⟩
    split at h2
    · rename_i c; rw [if_pos c]; exact h2.keep (fun _ _ z => z) fun a τ q => ⟨by rw [lab_at q,if_neg (by exact zo213)],rfl⟩
    · rename_i c; rw [if_neg c]; exact h2
  · exact Pend.keep (fun _ _ z => z) (fun a j π hj q => ⟨by rw [lab_at q,if_neg (by exact zo126 hj)],rfl⟩) (pend_tail (T:=T.reverse) h.pn)
  · refine Seps.mk fun j x e => ?_
    have:=pend_at h.pn e
    refine Sep.map (f:=fun π => π ++ [0 + j]) (fun _ _ z => z) (fun _ _ => rfl) x.1 [] x.2 (fun a τ q => ⟨?_,rfl⟩) this
    rw [lab_at q,if_pos (by exact zo30)]
    rw [show (2 * (pd.length + j) + 1) / 2 - pd.length = 0 + j by exact zo13]
theorem RO.newT (h:RO C ow G ρ σ H pd O) {p:Addr} (hp:H p = none) {ds:List D} {vs:List V} (hs:Seps G H O (2 * pd.length + 1) ds 0 [] vs):R C ow (upd G p (.tup vs)) ρ σ (upd H p (.tup vs)) ((.tup ds,.ref p) :: pd) ∧ Same G (upd G p (.tup vs)):=by
  obtain ⟨r,z⟩:=h.new hp (.tup vs)
  refine ⟨⟨O,r.len,r.gh,r.g0,r.gn,r.og,r.cok,r.fr,r.al,r.mp,r.sl,⟨?_,r.pn⟩,Nat.le_succ_of_le r.np⟩,z⟩
  rw [Sep]
  exact ⟨p,vs,rfl,upd_same,hs.keep z.ts fun a τ _ q => ⟨q,upd_ne (fun e => by obtain ⟨_,⟨xs,w⟩,_⟩:=h.og a _ q; rw [e,hp] at w; cases w)⟩⟩
end
def SFm (M:Md) (t:TE) (m:ME):Prop:=∀ (C:Ctx) (G:Hp) (ρ:DSt) (σ:St) (H:Hp) (pd:List (D × V)) (q:D → DSt → Prop) (Q:VK),MuOk C M.mu → R C M.ow G ρ σ H pd → m ρ q →
  (∀ d ρ' v G' H',q d ρ' → Same G G' → R C M.ow G' ρ' σ H' ((d,v) :: pd) → Q v H') → t σ H Q
structure QM (X:Cx) (M:Md) (e:Expr) (m:ME):Prop where
  ex:∃ t,PE X e t ∧ SFm M t m
def SAm (M:Md) (n:Nat) (t:TA) (m:MA):Prop:=∀ (C:Ctx) (G:Hp) (ρ:DSt) (σ:St) (H:Hp) (pd:List (D × V)) (q:List D → DSt → Prop) (Q:List V → Hp → Prop),MuOk C M.mu → R C M.ow G ρ σ H pd → m ρ q →
  (∀ (T:List (D × V)) ρ' G' H',q (T.map (·.1)) ρ' → Same G G' → R C M.ow G' ρ' σ H' (T.reverse ++ pd) → T.length = n → Q (T.map (·.2)) H') → t σ H Q
structure QMs (X:Cx) (M:Md) (es:List Expr) (m:MA):Prop where
  ex:∃ t,PA X es t ∧ SAm M es.length t m
section
variable {X:Cx} {M:Md} {a b c e:Expr} {ma mb mc:ME} {pos pos':Pos} {mr:MA} {es:List Expr}
theorem QF.qm (h:QF X M.ow e ma):QM X M e ma:=by
  obtain ⟨t,p,s⟩:=h
  exact ⟨_,p,fun C G ρ σ H pd q Q hm r h k => s C G ρ σ H pd q Q r h fun d ρ' v G' H' hq z kp r' => k d ρ' v G' H' hq z r'⟩
theorem qm_move (i:Nat) {x:Str} (ho:M.ow[i]? = some true:=by decide) (hu:M.mu[i]? ≠ some true:=by decide) (hN:X.N[i]? = some x:=by rfl) (hv:Vis X.env.scope x:=by first | exact Or.inl rfl | exact Or.inr (Or.inl rfl) | exact Or.inr (Or.inr rfl)) (hd:(x == ("__debug__":Str)) = false:=by decide)
    (hcd:(x == ("__classdict__":Str)) = false:=by decide):QM X M (.Name x pos) (mMove i):=⟨_,pe_var hN hv hd hcd,fun C G ρ σ H pd q Q hm r h k => by
  unfold mMove at h
  split at h
  · rename_i d e
    obtain ⟨O,ro⟩:=r
    obtain ⟨v,h1,h2⟩:=ro.move e ho (hm.no hu)
    exact ⟨v,h1,k d _ v G H h (Same.refl _) h2⟩
  · exact h.elim⟩
theorem qms_nil:QMs X M [] mNil:=⟨_,pa_nil,fun C G ρ σ H pd q Q hm r h k => k [] ρ G H h (Same.refl _) r rfl⟩
theorem qms_cons (ha:QM X M e ma) (hr:QMs X M es mr) (hs:starEach (e :: es) X.env = (false,eval e X.env) :: starEach es X.env:=by rfl):QMs X M (e :: es) (mCons ma mr):=by
  obtain ⟨t,p,s⟩:=ha; obtain ⟨t2,p2,s2⟩:=hr
  refine ⟨_,pa_cons p p2 hs,fun C G ρ σ H pd q Q hm r h k => s C G ρ σ H pd _ _ hm r h fun d ρ' v G' H' hq z r' => ?_⟩
  exact s2 C G' ρ' σ H' _ _ _ hm r' hq fun T ρ2 G2 H2 hq2 z2 r2 hn => k ((d,v) :: T) ρ2 G2 H2 hq2 (z.trans z2) (by simpa using r2) (by simp [hn])
theorem qm_tup {x1} (h:QMs X M es mr) (hl:es.length ≤ 1000:=by decide):QM X M (.Tuple es x1 pos) (mTup mr):=by
  obtain ⟨t,p,s⟩:=h
  refine ⟨_,pe_tup p,fun C G ρ σ H pd q Q hm r h k => s C G ρ σ H pd _ _ hm r h fun T ρ' G' H' hq z r' hn => ⟨le_line (by simp; exact zo21 hl hn),fun a ha => ?_⟩⟩
  obtain ⟨O,r'⟩:=r'
  obtain ⟨O2,r2,s2⟩:=r'.gather r.np
  obtain ⟨r3,z3⟩:=r2.newT ha s2
  exact k _ ρ' _ _ _ hq (z.trans z3) r3
theorem qs_retM (h:QM X M e ma) (hf:M.fr = true:=by rfl):QS X M (.Return (some e) pos) (mRet ma):=by
  obtain ⟨t,p,s⟩:=h
  refine ⟨_,ps_ret p,fun C G ρ σ H n D hm hn r h k => s C G ρ σ H [] _ _ hm r h fun d ρ' v G' H' hq z r' => k.rt d ρ' σ v G' H' hq z (by unfold Ret; rw [if_pos hf]; exact r')⟩
end
def compD (g:MG) (mt:MT) (me:ME) (ρ0:DSt) (ds:List D) (K:List D → Prop):Prop:=∃ I:Nat → List D → Prop,I 0 [] ∧
  (∀ i d es,ds[i]? = some d → I i es → g d ρ0 fun ρ2 => mt ρ2 fun b ρ3 => if b = true then me ρ3 fun x _ => I (i + 1) (es ++ [x]) else I (i + 1) es) ∧ ∀ es,I ds.length es → K es
def rho0 (k:Nat) (js:List Nat) (ρ:DSt):DSt:=List.replicate k none ++ js.map fun j => (ρ[j]?).getD none
def mComp (mi:MA) (g:MG) (mt:MT) (me:ME) (k:Nat) (js:List Nat):ME:=fun ρ q => mi ρ fun ds ρ1 => ds.length ≤ 1000 ∧ compD g mt me (rho0 k js ρ1) ds fun es => imms es = true ∧ q (.lst es) ρ1
def mCompS (mi:MA) (g:MG) (mt:MT) (me:ME) (k:Nat) (js:List Nat):ME:=fun ρ q => mi ρ fun ds ρ1 => ds.length ≤ 1000 ∧ compD g mt me (rho0 k js ρ1) ds fun es => q (.lst es) ρ1
structure QIf (X:Cx) (ow:List Bool) (ifs:List Expr) (m:MT):Prop where
  ex:∃ t,PIf X ifs t ∧ STe ow t m
theorem qif_nil {X:Cx} {ow:List Bool}:QIf X ow [] (mYes true):=⟨_,pif_nil,st_yes true⟩
section
variable {C:Ctx} {ow:List Bool} {G:Hp} {ρ:DSt} {σ:St} {H:Hp} {pd:List (D × V)} {O:Own}
theorem RO.inner (h:RO C ow G ρ σ H pd O) (own:List Str) (js:List Nat) (hj:∀ j ∈ js,ow[j]? ≠ some true) :
    RO ⟨G,H,ownM (fun _ => none) O,[],0⟩ [] G (rho0 own.length js ρ) (sig0 own js σ) H [] (ownM (fun _ => none) O):=by
  have no:∀ a,ownM (fun _ => none) O a = none:=fun a => by unfold ownM; cases O a <;> rfl
  refine ⟨by simp [rho0,sig0],h.gh,fun _ _ e => e,fun _ _ e => .inl e,fun a l e => ?_,fun a l π e => ?_,fun _ _ e _ => e,fun _ e => e,fun i v e => by simp at e,?_,trivial,Nat.le_refl _⟩
  · rw [no] at e; cases e
  · exact absurd (e.symm.trans (no a)) (by simp)
  · intro i d e
    unfold rho0 at e
    by_cases c:i < own.length
    · rw [List.getElem?_append_left (by simpa using c),List.getElem?_replicate] at e
      split at e <;> cases e
    · rw [List.getElem?_append_right (by simpa using c),List.getElem?_map] at e
      simp only [List.length_replicate] at e
      cases z:js[i - own.length]? with
      | none => rw [z] at e; cases e
      | some j =>
        rw [z] at e
        have e':(ρ[j]?).getD none = some d:=Option.some.inj e
        have e2 : ρ[j]? = some (some d):=by
          cases w : ρ[j]? with
          | none => rw [w] at e'; cases e'
          | some o => rw [w] at e'; exact congrArg some e'
        obtain ⟨v,h1,h2⟩:=h.sl j d e2
        rw [if_neg (hj j (List.mem_of_getElem? z))] at h2
        refine ⟨v,?_,by simpa using h2⟩
        unfold sig0
        rw [List.getElem?_append_right (by simpa using c),List.getElem?_map]
        simp only [List.length_map]
        rw [z,show (some j).map _ = some ((σ[j]?).getD none) from rfl,h1]; rfl
end
theorem RO.back {C:Ctx} {ow:List Bool} {G G':Hp} {ρ0 ρ2:DSt} {σ0 σ2:St} {H H':Hp} {pd:List (D × V)} {O O':Own} (h0:RO C ow G ρ0 σ0 H pd O) (hn:∀ i:Nat,ow[i]? ≠ some true) (h:RO C ow G' ρ2 σ2 H' pd O') (z:Same G G'):RO C ow G' ρ0 σ0 H' pd O' :=
  ⟨h0.len,h.gh,h.g0,h.gn,h.og,h.cok,h.fr,h.al,h0.mp,fun i d e => by
    obtain ⟨v,h1,h2⟩:=h0.sl i d e
    rw [if_neg (hn i)] at h2
    exact ⟨v,h1,by rw [if_neg (hn i)]; exact h2.mono z⟩,h.pn,h.np⟩
theorem comp_sound {ow:List Bool} {J:It} {g:TG} {mg:MG} {tt:TT} {mt:MT} {te:TE} {me:ME} {C:Ctx} {G:Hp} {ρ:DSt} {σ:St} {H:Hp} {pd:List (D × V)} {ds:List D} {own:List Str} {js:List Nat} {K:List D → Prop} {Z:List V → Hp → Prop}
    (r:R C ow G ρ σ H pd) (hj:∀ j ∈ js,ow[j]? ≠ some true) (jo:ItOk J G ds) (sg:SG ⟨[],[],false⟩ g mg) (st:STe [] tt mt) (se:SE [] te me) (hk:∀ x H k,g x (sig0 own js σ) H k → g x (sig0 own js σ) H fun σ2 H2 => kept (sig0 own js σ) σ2 ∧ k σ2 H2)
    (hl:ds.length ≤ 1000) (h:compD mg mt me (rho0 own.length js ρ) ds K)
    (k:∀ es vs G' H',K es → Same G G' → R C ow G' ρ σ H' pd → Reps G' es vs → vs.length ≤ 1000 → Z vs H'):CompW J g tt te (sig0 own js σ) H Z:=by
  obtain ⟨O,ro⟩:=r
  have ri:=ro.inner own js hj
  obtain ⟨I,i0,turn,fin⟩:=h
  have nt:∀ i:Nat,([]:List Bool)[i]? ≠ some true:=fun i => by simp
  let C1:Ctx:=⟨G,H,ownM (fun _ => none) O,[],0⟩
  have fnone:ownM (fun _ => none) O = fun _ => none:=by funext a; unfold ownM; cases O a <;> rfl
  refine ⟨fun i m acc H' => m = ds.length - i ∧ i ≤ ds.length ∧ acc.length ≤ i ∧ ∃ G' es,Same G G' ∧ R C1 [] G' (rho0 own.length js ρ) (sig0 own js σ) H' [] ∧ Reps G' es acc ∧ I i es,⟨_,rfl,Nat.zero_le _,Nat.le_refl _,G,[],Same.refl _,⟨_,ri⟩,reps_nil,i0⟩,?_⟩
  rintro i m acc H' ⟨rfl,hi,ha,G',es,z,r',pa,w⟩
  obtain ⟨sp,go⟩:=jo C1 [] G' _ _ H' [] i z r'
  by_cases hlt:i < ds.length
  · obtain ⟨g1,g2⟩:=go ds[i] (List.getElem?_eq_getElem hlt)
    refine .inr ⟨g1,small1000 (by exact zo44 hl ha hlt),fun acc' H2 => acc'.length ≤ i + 1 ∧ ∃ G2 es2,Same G G2 ∧ R C1 [] G2 (rho0 own.length js ρ) (sig0 own js σ) H2 [] ∧ Reps G2 es2 acc' ∧ I (i + 1) es2,fun acc' H2 h => ⟨ds.length - (i + 1),by exact zo4 hlt,rfl,hlt,h.1,h.2⟩,fun x H1 hy => hk _ _ _ ?_⟩
    obtain ⟨G1,z1,r1,p1⟩:=g2 x H1 hy
    refine sg C1 G1 _ _ H1 [] ds[i] x _ _ (fun i v e => by simp [C1] at e) r1 p1 (turn i ds[i] es (List.getElem?_eq_getElem hlt) w) fun ρ2 σ2 h2 r2 => ?_
    refine st C1 G1 ρ2 σ2 H1 [] _ _ r2 h2 fun b ρ3 G3 H3 h3 z3 kp3 r3 => ?_
    have bk:∀ {G4:Hp} {ρ4:DSt} {H4:Hp},Same G3 G4 → R C1 [] G4 ρ4 σ2 H4 [] → R C1 [] G4 (rho0 own.length js ρ) (sig0 own js σ) H4 []:=fun z4 ⟨O4,r4⟩ => by
      obtain ⟨O1,r1'⟩:=r1
      exact ⟨_,r1'.back nt r4 (z3.trans z4)⟩
    cases b with
    | true =>
      rw [if_pos rfl] at h3 ⊢
      refine se C1 G3 ρ3 σ2 H3 [] _ _ r3 h3 fun d ρ4 v G4 H4 h4 z4 kp4 r4 p4 => ?_
      exact ⟨by simp; exact zo301 ha,G4,es ++ [d],z.trans (z1.trans (z3.trans z4)),bk z4 r4,reps_app (Reps.mono (z1.trans (z3.trans z4)) _ _ pa) (reps_cons p4 reps_nil),h4⟩
    | false =>
      rw [if_neg (by decide)] at h3 ⊢
      exact ⟨by exact zo100 ha,G3,es,z.trans (z1.trans z3),bk (Same.refl _) r3,Reps.mono (z1.trans z3) _ _ pa,h3⟩
  · have e:i = ds.length:=by exact zo11 hi hlt
    subst e
    refine .inl ⟨sp (Nat.le_refl _),le_line (by exact zo25 hl ha),?_⟩
    obtain ⟨O2,r2⟩:=r'
    refine k es acc G' H' (fin es w) z ⟨ownB (fun _ => none) (fun _ => none) O O2,?_⟩ pa (by exact zo25 hl ha)
    refine ro.out (vs:=[]) r2 (fun _ _ _ e => by cases e) ro.len ro.np (fun i d _ e => e) (fun i d _ e => .inl ⟨rfl,e⟩) fun O3 h1 h2 ts => ?_
    exact Pend.keep ts (fun a j π hj e => h1 a _ _ e rfl) ro.pn
section
variable {X:Cx} {ow:List Bool} {elt tg iter:Expr} {ifs:List Expr} {pos:Pos} {mi:MA} {mg:MG} {mt:MT} {me:ME} {scope:Scope} {cl:List (Str × Addr)}
def KeepG (n:Nat) (g:TG):Prop:=∀ (σ0:St),(∀ i,i < n → σ0[i]? = some none) → ∀ σ x H k,kept σ0 σ → g x σ H k → g x σ H fun σ2 H2 => kept σ0 σ2 ∧ k σ2 H2
def KeepGs (n:Nat) (g:TGs):Prop:=∀ (σ0:St),(∀ i,i < n → σ0[i]? = some none) → ∀ σ x H k,kept σ0 σ → g x σ H k → g x σ H fun σ2 H2 => kept σ0 σ2 ∧ k σ2 H2
theorem kept_set:∀ {a b:St} {i:Nat} {v:V},kept a b → a[i]? = some none → kept a (b.set i (some v))
  | [],[],i,v,h,e => by simp at e
  | none :: r,y :: r',0,v,h,e => h
  | none :: r,y :: r',i + 1,v,h,e => by simp only [List.set_cons_succ]; exact kept_set (a:=r) (b:=r') h (by simpa using e)
  | some w :: r,y :: r',0,v,h,e => by simp at e
  | some w :: r,y :: r',i + 1,v,h,e => by simp only [List.set_cons_succ]; exact ⟨h.1,kept_set (a:=r) (b:=r') h.2 (by simpa using e)⟩
  | [],_ :: _,_,_,h,_ => h.elim
  | none :: _,[],_,_,h,_ => h.elim
  | some _ :: _,[],_,_,h,_ => h.elim
theorem kept_refl:∀ (a:St),kept a a
  | [] => trivial
  | none :: r => kept_refl r
  | some v :: r => ⟨rfl,kept_refl r⟩
def MonG (g:TG):Prop:=∀ x σ H (k k':St → Hp → Prop),(∀ σ2 H2,k σ2 H2 → k' σ2 H2) → g x σ H k → g x σ H k'
def MonGs (g:TGs):Prop:=∀ x σ H (k k':St → Hp → Prop),(∀ σ2 H2,k σ2 H2 → k' σ2 H2) → g x σ H k → g x σ H k'
structure CG (n:Nat) (g:TG) (m:MG):Prop where
  sg:SG ⟨[],[],false⟩ g m
  kp:KeepG n g
  mn:MonG g
structure CGs (n:Nat) (g:TGs) (m:MGs):Prop where
  sg:SGs ⟨[],[],false⟩ g m
  kp:KeepGs n g
  mn:MonGs g
theorem cg_name {n:Nat} (i:Nat) (h:i < n:=by decide):CG n (gName i) (gmName i) :=
  ⟨fun C G ρ σ H pd d v k K hm r p h kk => by obtain ⟨O,r⟩:=r; exact kk _ _ h ⟨O,r.setS (by simp) (fun v e => by have:=hm i v e; simp at this) p⟩,
   fun σ0 h0 σ x H k hk hg => ⟨kept_set hk (h0 i h),hg⟩,fun x σ H k k' hk h => hk _ _ h⟩
theorem cgs_nil {n:Nat}:CGs n gNil gmNil :=
  ⟨fun C G ρ σ H pd d v k K hm r p h kk => by
    cases d with
    | nil => rw [Reps] at p; exact ⟨p,kk _ _ h r⟩
    | cons _ _ => exact h.elim,fun σ0 h0 σ x H k hk hg => ⟨hg.1,hk,hg.2⟩,fun x σ H k k' hk h => ⟨h.1,hk _ _ h.2⟩⟩
theorem cgs_cons {n:Nat} {g:TG} {gs:TGs} {mg:MG} {mgs:MGs} (h1:CG n g mg) (h2:CGs n gs mgs):CGs n (gCons g gs) (gmCons mg mgs) :=
  ⟨fun C G ρ σ H pd d v k K hm r p h kk => by
    cases d with
    | nil => exact h.elim
    | cons d ds =>
      rw [Reps] at p
      obtain ⟨v,vs,rfl,p1,p3⟩:=p
      exact ⟨v,vs,rfl,h1.sg C G ρ σ H pd d v _ _ hm r p1 h fun ρ' σ' h' r' => h2.sg C G ρ' σ' H pd ds vs k K hm r' p3 h' kk⟩,
   fun σ0 h0 σ x H k hk hg => by
    obtain ⟨v,r,e,q⟩:=hg
    exact ⟨v,r,e,h1.mn _ _ _ _ _ (fun σ2 H2 z => h2.kp σ0 h0 σ2 r H2 k z.1 z.2) (h1.kp σ0 h0 σ v H _ hk q)⟩,
   fun x σ H k k' hk h => by
    obtain ⟨v,r,e,q⟩:=h
    exact ⟨v,r,e,h1.mn _ _ _ _ _ (fun σ2 H2 z => h2.mn _ _ _ _ _ hk z) q⟩⟩
theorem cg_tup {n j:Nat} {K:PySem.W.Frag} {gs:TGs} {mgs:MGs} (h:CGs n gs mgs) (ht:takes j mgs):CG n (gTup K j gs) (gmTup mgs) :=
  ⟨fun C G ρ σ H pd d v k K hm r p h' kk => by
    cases d with
    | tup ds =>
      obtain ⟨a,xs,rfl,h1,h2⟩:=rep_tup_of p
      exact ⟨a,xs,rfl,SqT.of (r.gh _ _ h1),by rw [h2.length]; exact ht _ _ _ h',h.sg C G ρ σ H pd ds xs k K hm r h2 h' kk⟩
    | _ => exact h'.elim,
   fun σ0 h0 σ x H k hk hg => by obtain ⟨a,xs,e,e1,e2,q⟩:=hg; exact ⟨a,xs,e,e1,e2,h.kp σ0 h0 σ xs H k hk q⟩,
   fun x σ H k k' hk hg => by obtain ⟨a,xs,e,e1,e2,q⟩:=hg; exact ⟨a,xs,e,e1,e2,h.mn _ _ _ _ _ hk q⟩⟩
def canE (ow:List Bool) (m:ME):TE:=fun σ H Q => ∃ (C:Ctx) (G:Hp) (ρ:DSt) (pd:List (D × V)) (q:D → DSt → Prop),R C ow G ρ σ H pd ∧ m ρ q ∧ ∀ d ρ' v G' H',q d ρ' → Same G G' → Kp ow ρ ρ' → R C ow G' ρ' σ H' pd → Rep G' d v → Q v H'
def canT (ow:List Bool) (m:MT):TT:=fun σ H Q => ∃ (C:Ctx) (G:Hp) (ρ:DSt) (pd:List (D × V)) (q:Bool → DSt → Prop),R C ow G ρ σ H pd ∧ m ρ q ∧ ∀ d ρ' G' H',q d ρ' → Same G G' → Kp ow ρ ρ' → R C ow G' ρ' σ H' pd → Q d H'
theorem can_se {ow:List Bool} {m:ME}:SE ow (canE ow m) m:=fun C G ρ σ H pd q Q r h k => ⟨C,G,ρ,pd,q,r,h,k⟩
theorem can_st {ow:List Bool} {m:MT}:STe ow (canT ow m) m:=fun C G ρ σ H pd q Q r h k => ⟨C,G,ρ,pd,q,r,h,k⟩
theorem QE.can {X:Cx} {ow:List Bool} {e:Expr} {m:ME} (h:QE X ow e m):PE X e (canE ow m):=by
  obtain ⟨t,p,s⟩:=h
  exact ⟨fun pins s' σ H Q I ⟨C,G,ρ,pd,q,r,h,k⟩ => p.go pins s' σ H Q I (s C G ρ σ H pd q Q r h k)⟩
theorem QIf.can {X:Cx} {ow:List Bool} {e:List Expr} {m:MT} (h:QIf X ow e m):PIf X e (canT ow m):=by
  obtain ⟨t,p,s⟩:=h
  exact ⟨fun pins s' σ H Q I ⟨C,G,ρ,pd,q,r,h,k⟩ => p.go pins s' σ H Q I (s C G ρ σ H pd q Q r h k)⟩
theorem sig0_none {own:List Str} {js:List Nat} {σ:St}:∀ i,i < own.length → (sig0 own js σ)[i]? = some none:=fun i h => by
  unfold sig0
  rw [List.getElem?_append_left (by simpa using h),List.getElem?_map,List.getElem?_eq_getElem h]; rfl
theorem comp_sf {ow:List Bool} {wi:TI} {g:TG} {own:List Str} {js:List Nat} (si:SI ow wi mi) (cg:CG own.length g mg) (hj:∀ j ∈ js,ow[j]? ≠ some true):SF ow (tComp wi g (canT [] mt) (canE [] me) own js) (mComp mi mg mt me own.length js):=fun C G ρ σ H pd q Q r h k =>
  si C G ρ σ H pd _ _ r h fun ds ρ' G' H' J hq z kp r' jo => by
    refine comp_sound r' hj jo cg.sg can_st can_se (fun x H k hg => cg.kp _ sig0_none _ x H k (kept_refl _) hg) hq.1 hq.2 fun es vs G2 H2 hK z2 r2 p2 hl p hp => ?_
    obtain ⟨O2,r2⟩:=r2
    exact k _ ρ' _ _ _ hK.2 (z.trans z2) kp (r2.newL hp hK.1 p2)
theorem comp_se {ow:List Bool} {wi:TI} {g:TG} {own:List Str} {js:List Nat} (si:SI ow wi mi) (cg:CG own.length g mg) (hj:∀ j ∈ js,ow[j]? ≠ some true):SE ow (tComp wi g (canT [] mt) (canE [] me) own js) (mCompS mi mg mt me own.length js):=fun C G ρ σ H pd q Q r h k =>
  si C G ρ σ H pd _ _ r h fun ds ρ' G' H' J hq z kp r' jo => by
    refine comp_sound r' hj jo cg.sg can_st can_se (fun x H k hg => cg.kp _ sig0_none _ x H k (kept_refl _) hg) hq.1 hq.2 fun es vs G2 H2 hK z2 r2 p2 hl p hp => ?_
    obtain ⟨O2,r2⟩:=r2
    obtain ⟨r3,z3⟩:=r2.new hp (.lst vs)
    exact k _ ρ' _ _ _ hK (z.trans (z2.trans z3)) kp ⟨O2,r3⟩ (rep_lst upd_same (Reps.mono z3 _ _ p2))
structure CInn (X:Cx) (tg:Expr) (ifs:List Expr) (elt:Expr) (g:TG) (mt:MT) (me:ME):Prop where
  pg:PG X tg g
  qi:QIf X [] ifs mt
  qe:QE X [] elt me
theorem qf_comp {g:TG} (own:List Str) (js:List Nat) (c:CompOk X scope cl own js) (hc:X.calm = true) (hi:QI X ow tg iter mi) (cg:CG own.length g mg)
    (inner:∀ (C:Addr) (s₀:Shared) (H₀:Hp) (ex:List Addr),CInn (compCx X scope cl (nam0 X own js) C s₀ H₀ ex) tg ifs elt g mt me) (hj:∀ j ∈ js,ow[j]? ≠ some true:=by decide)
    (hs:∀ x,foldedSetIterable iter X.env x = pure x:=by intro _; rfl):QF X ow (.ListComp elt [⟨tg,iter,ifs,0⟩] scope pos) (mComp mi mg mt me own.length js):=by
  obtain ⟨wi,pi,si⟩:=hi
  exact ⟨_,pe_comp own js c hc pi (fun C s₀ H₀ ex => ⟨(inner C s₀ H₀ ex).pg,(inner C s₀ H₀ ex).qi.can,(inner C s₀ H₀ ex).qe.can⟩) hs,comp_sf si cg hj⟩
theorem qe_comp {g:TG} (own:List Str) (js:List Nat) (c:CompOk X scope cl own js) (hc:X.calm = true) (hi:QI X ow tg iter mi) (cg:CG own.length g mg)
    (inner:∀ (C:Addr) (s₀:Shared) (H₀:Hp) (ex:List Addr),CInn (compCx X scope cl (nam0 X own js) C s₀ H₀ ex) tg ifs elt g mt me) (hj:∀ j ∈ js,ow[j]? ≠ some true:=by decide)
    (hs:∀ x,foldedSetIterable iter X.env x = pure x:=by intro _; rfl):QE X ow (.ListComp elt [⟨tg,iter,ifs,0⟩] scope pos) (mCompS mi mg mt me own.length js):=by
  obtain ⟨wi,pi,si⟩:=hi
  exact ⟨_,pe_comp own js c hc pi (fun C s₀ H₀ ex => ⟨(inner C s₀ H₀ ex).pg,(inner C s₀ H₀ ex).qi.can,(inner C s₀ H₀ ex).qe.can⟩) hs,comp_se si cg hj⟩
theorem qs_setComp {M:Md} {g:TG} {i:Nat} {y:Str} {spos py:Pos} (own:List Str) (js:List Nat) (c:CompOk X scope cl own js) (hc:X.calm = true) (hN:X.N.Nodup) (hy:X.N[i]? = some y) (hx:Loc X.env.scope y) (hi:QI X M.ow tg iter mi) (cg:CG own.length g mg)
    (inner:∀ (C:Addr) (s₀:Shared) (H₀:Hp) (ex:List Addr),CInn (compCx X scope cl (nam0 X own js) C s₀ H₀ ex) tg ifs elt g mt me) (hj:∀ j ∈ js,M.ow[j]? ≠ some true:=by decide) (ho:M.ow[i]? ≠ some true:=by decide) (hu:M.mu[i]? ≠ some true:=by decide)
    (hsw:swapsWith (.ListComp elt [⟨tg,iter,ifs,0⟩] scope pos) (some (.Name y py)) spos.line X.env = pure true:=by rfl)
    (hs:∀ x,foldedSetIterable iter X.env x = pure x:=by intro _; rfl) (hf:X.fn y = true ∨ X.env.scope.names.lookup y = some .local:=by first | exact .inl rfl | exact .inr rfl | assumption) :
    QS X M (.Assign [.Name y py] (.ListComp elt [⟨tg,iter,ifs,0⟩] scope pos) spos) (mSet i (mCompS mi mg mt me own.length js)):=by
  obtain ⟨wi,pi,si⟩:=hi
  exact ⟨_,ps_setComp own js c hc hN hy hx pi (fun C s₀ H₀ ex => ⟨(inner C s₀ H₀ ex).pg,(inner C s₀ H₀ ex).qi.can,(inner C s₀ H₀ ex).qe.can⟩) hsw hs hf,ss_set (comp_se si cg hj) ho hu⟩
end
theorem compD_map {g:MG} {me:ME} {ρ0:DSt} {ds:List D} {K:List D → Prop} (f:D → D)
    (step:∀ (d:D),d ∈ ds → ∀ k:D → Prop,k (f d) → g d ρ0 fun ρ2 => me ρ2 fun x _ => k x) (h:K (ds.map f)):compD g (mYes true) me ρ0 ds K:=by
  refine ⟨fun i es => es = (ds.take i).map f,rfl,?_,fun es e => by rw [e,List.take_length]; exact h⟩
  rintro i d es hd rfl
  have:=step d (List.mem_of_getElem? hd) (fun x => (ds.take i).map f ++ [x] = (ds.take (i + 1)).map f) (by
    rw [List.take_add_one,hd]; simp)
  exact this
def insZ (x:Int):List Int → List Int
  | [] => [x]
  | y :: r => if x ≤ y then x :: y :: r else y :: insZ x r
def sortZ:List Int → List Int
  | [] => []
  | x :: r => insZ x (sortZ r)
theorem insZ_perm (x:Int):∀ l:List Int,(insZ x l).Perm (x :: l)
  | [] => List.Perm.refl _
  | y :: r => by
    unfold insZ
    split
    · exact List.Perm.refl _
    · exact ((insZ_perm x r).cons y).trans (List.Perm.swap x y r)
theorem sortZ_perm:∀ l:List Int,(sortZ l).Perm l
  | [] => List.Perm.refl _
  | x :: r => (insZ_perm x (sortZ r)).trans ((sortZ_perm r).cons x)
theorem insZ_sorted (x:Int):∀ {l:List Int},l.Pairwise (· ≤ ·) → (insZ x l).Pairwise (· ≤ ·)
  | [],_ => by simp [insZ]
  | y :: r,h => by
    unfold insZ
    rw [List.pairwise_cons] at h
    split
    · rename_i c
      refine List.pairwise_cons.mpr ⟨fun z hz => ?_,List.pairwise_cons.mpr h⟩
      rcases List.mem_cons.mp hz with rfl | hz
      · exact c
      · exact Int.le_trans c (h.1 z hz)
    · rename_i c
      refine List.pairwise_cons.mpr ⟨fun z hz => ?_,insZ_sorted x h.2⟩
      rcases List.mem_cons.mp ((insZ_perm x r).mem_iff.mp hz) with rfl | hz
      · exact zo275 c
      · exact h.1 z hz
theorem sortZ_sorted:∀ l:List Int,(sortZ l).Pairwise (· ≤ ·)
  | [] => List.Pairwise.nil
  | x :: r => insZ_sorted x (sortZ_sorted r)
theorem sorted_one:∀ {a b:List Int},a.Perm b → a.Pairwise (· ≤ ·) → b.Pairwise (· ≤ ·) → a = b
  | [],b,p,_,_ => (List.Perm.nil_eq p)
  | x :: a,[],p,_,_ => by have:=p.length_eq; simp at this
  | x :: a,y :: b,p,ha,hb => by
    have hx:x = y:=by
      rw [List.pairwise_cons] at ha hb
      have h1:x ∈ y :: b:=p.mem_iff.mp (.head _)
      have h2:y ∈ x :: a:=p.mem_iff.mpr (.head _)
      rcases List.mem_cons.mp h1 with rfl | h1
      · rfl
      rcases List.mem_cons.mp h2 with h2 | h2
      · exact h2.symm
      have:=ha.1 y h2
      have:=hb.1 x h1
      (first|lia|omega)
    subst hx
    rw [sorted_one ((List.perm_cons x).mp p) (List.pairwise_cons.mp ha).2 (List.pairwise_cons.mp hb).2]
theorem sortZ_of {a b:List Int} (p:a.Perm b) (h:a.Pairwise (· ≤ ·)):a = sortZ b:=sorted_one (p.trans (sortZ_perm b).symm) h (sortZ_sorted b)
theorem sortZ_len (l:List Int):(sortZ l).length = l.length:=(sortZ_perm l).length_eq
section
variable {X:Cx}
def rSortI (K:PySem.W.Frag):List V → Hp → VK → Prop:=fun xs H Q => ∃ (p:Addr) (ns:List Int),xs = [.ref p] ∧ SqL K H p (ns.map V.int) ∧ ns.length < 64 ∧ ∀ l,H l = none → Q (.ref l) (upd H l (.lst ((sortZ ns).map V.int)))
theorem call_sortedI:CallR X (.builtin "sorted") (rSortI X.K):=by
  intro pins s σ H xs us Q I r h
  obtain ⟨p,ns,rfl,hS,h64,q⟩:=h
  obtain ⟨u,rfl,ru⟩:=vals1 r
  cases ru
  obtain ⟨its,rv,pl,_⟩:=I.list hS
  have hI:IntsAre its ns:=intsAre_of rv
  have hlen:its.length = ns.length:=by have:=rv.length; simp at this; exact this.symm
  refine sorted_ints (l:=p) (vs:=its) (ns:=ns) (isList_of pl) hI (by exact zo218 h64 hlen) fun out ns' a1 a2 a3 => ?_
  obtain ⟨e,he⟩:=sortedAll_at s.heap its out
  have hl:ns' = sortZ ns:=sortZ_of a2 a3
  subst hl
  refine ⟨.ref (s.heap.objs.size + 1),_,I.laid (a:=s.heap.objs.size + 1) (o:=.lst ((sortZ ns).map V.int)) (t':=s.toks) (fun _ _ q => sortedAll_old q) (Nat.le_succ _) ?_,rfl,q _ (I.hok.fresh (Nat.le_succ _))⟩
  refine ⟨Nat.le_of_lt (small1000 (by rw [List.length_map,sortZ_len]; exact zo211 h64 hlen)),out.toList,e,vals_ints a1,?_⟩
  simpa [seqObj] using he
where
  isList_of {h:Heap} {a:Addr} {its:List Value} (pl:PlainL h a its.toArray):h.IsList a its.toArray:=by
    first | exact pl.isList | exact pl.1 | exact pl
theorem sqL_isList {pins:List (Addr × Obj)} {σ:St} {H:Hp} {s:Shared} {p:Addr} {xs:List V} (I:Inv X pins σ H s) (h:SqL X.K H p xs):∃ its:List Value,Vals xs its ∧ s.heap.IsList p its.toArray:=by
  obtain ⟨its,rv,⟨o,n,h1,h2,h3,h4⟩,_⟩:=I.list h
  exact ⟨its,rv,o,h1,h2,n,h4⟩
theorem call_sumI (hc:X.calm = true):CallR X (.builtin "sum") (fun xs H Q => ∃ (p:Addr) (ns:List Int),xs = [.ref p] ∧ SqL X.K H p (ns.map V.int) ∧ Q (.int ns.sum) H):=by
  intro pins s σ H xs us Q I r h
  obtain ⟨p,ns,rfl,hS,q⟩:=h
  obtain ⟨u,rfl,ru⟩:=vals1 r
  cases ru
  obtain ⟨its,rv,hl⟩:=sqL_isList I hS
  have hI₂:IntsAre its ns:=intsAre_of rv
  obtain ⟨ys,hys⟩:=hI₂.allInts.items
  have hlY:s.heap.IsList p (intItems ys):=hys ▸ hl
  refine sum_intListG (I.ok.hd hc) hlY fun hp tk₁ tk₂ kept => ?_
  have eY:ns = ys.toList.map (·.1):=by
    rw [← nums_intItems,← hys]; exact Eq.symm (show numsOf its.toArray.toList = ns from hI₂.numsOf)
  have eS:preSum (numAt ys) ys.size = ns.sum:=by rw [preSum_eq,List.take_of_length_le (by simp),eY]
  rw [eS]
  exact ⟨.int ns.sum,H,I.kept kept,⟨tk₂,rfl⟩,q⟩
end
theorem reps_ints_of {G:Hp}:∀ {ns:List Int} {xs:List V},Reps G (ns.map D.int) xs → xs = ns.map V.int
  | [],xs,h => by rw [List.map_nil,Reps] at h; subst h; rfl
  | n :: r,xs,h => by rw [List.map_cons,Reps] at h; obtain ⟨v,vs,rfl,h1,h2⟩:=h; rw [rep_int_of h1,reps_ints_of h2]; rfl
def fSortI:List D → (List D → Prop) → Prop:=fun ds q => match ds with
  | [.lst xs] => ∃ ns:List Int,xs = ns.map D.int ∧ ns.length < 64 ∧ q ((sortZ ns).map D.int)
  | _ => False
theorem dSortI {K:PySem.W.Frag}:DNew (rSortI K) fSortI:=fun G H xs ds q Q s p hf k => by
  unfold fSortI at hf
  split at hf
  · obtain ⟨v,rfl,p1⟩:=reps_one p
    obtain ⟨a,xs,rfl,h1,h2⟩:=rep_lst_of p1
    obtain ⟨ns,rfl,hl,hq⟩:=hf
    rw [reps_ints_of h2] at h1
    exact ⟨a,ns,rfl,SqL.of (s _ _ h1),hl,fun l hl => k _ _ l hq (reps_ints _) hl⟩
  · exact hf.elim
def fSum:List D → (D → Prop) → Prop:=fun ds q => match ds with
  | [.lst xs] => ∃ ns:List Int,xs = ns.map D.int ∧ q (.int ns.sum)
  | _ => False
theorem dSum {K:PySem.W.Frag}:DCall (fun xs H Q => ∃ (p:Addr) (ns:List Int),xs = [.ref p] ∧ SqL K H p (ns.map V.int) ∧ Q (.int ns.sum) H) fSum:=fun G H xs ds q Q s p hf k => by
  unfold fSum at hf
  split at hf
  · obtain ⟨v,rfl,p1⟩:=reps_one p
    obtain ⟨a,xs,rfl,h1,h2⟩:=rep_lst_of p1
    obtain ⟨ns,rfl,hq⟩:=hf
    rw [reps_ints_of h2] at h1
    exact ⟨a,ns,rfl,SqL.of (s _ _ h1),k _ _ hq (rep_int _)⟩
  · exact hf.elim
section
variable {C:Ctx} {ow:List Bool} {G:Hp} {ρ:DSt} {σ:St} {H:Hp} {pd:List (D × V)} {O:Own}
end
section
variable {ow:List Bool} {t:TE} {m:ME}
end
section
variable {X:Cx} {M:Md} {a b c e:Expr} {ma mb mc:ME} {pos pos':Pos} {mr:MA} {es:List Expr}
theorem imms_ints (ns:List Int):imms (ns.map D.int) = true:=by
  induction ns with
  | nil => rfl
  | cons n r ih => simp only [List.map,imms,imm,ih]; rfl
end
def mCut (m:MS):MS:=fun n ρ => ∃ I:DSt → Prop,m { n with nx:=I } ρ ∧ ∀ ρ',I ρ' → n.nx ρ'
theorem qs_cut {X:Cx} {M:Md} {st:Stmt} {m:MS} (h:QS X M st m):QS X M st (mCut m):=by
  obtain ⟨t,p,s⟩:=h
  refine ⟨_,p,fun C G ρ σ H n D hm hn r h k => ?_⟩
  obtain ⟨I,h1,h2⟩:=h
  exact s C G ρ σ H _ D hm hn r h1 ⟨fun ρ' σ' G' H' hi => k.nx ρ' σ' G' H' (h2 ρ' hi),k.bk,k.ct,k.rt⟩
mutual
theorem Sep.strip {G H:Hp} {O O':Own} {i i':Nat} {sfx:List Nat} :
    ∀ (d:D) (π:List Nat) (v:V),(∀ a τ,O a = some (i,(τ ++ π) ++ sfx) → O' a = some (i',τ ++ π)) → Sep G H O i d (π ++ sfx) v → Sep G H O' i' d π v
  | .non,_,_,_,h => by rw [Sep] at *; exact h
  | .bl b,_,_,_,h => by rw [Sep] at *; exact h
  | .int n,_,_,_,h => by rw [Sep] at *; exact h
  | .str x,_,_,_,h => by rw [Sep] at *; exact h
  | .tup ds,π,v,hO,h => by
    rw [Sep] at *
    obtain ⟨a,xs,h1,h2,h3⟩:=h
    exact ⟨a,xs,h1,h2,Seps.strip ds 0 π xs (fun a τ => hO a τ) h3⟩
  | .lst ds,π,v,hO,h => by
    rw [Sep] at *
    obtain ⟨a,xs,h1,h2,h3,h4⟩:=h
    exact ⟨a,xs,h1,hO a [] h2,h3,Seps.strip ds 0 π xs (fun a τ => hO a τ) h4⟩
  | .dct,_,_,_,h => by rw [Sep] at h; exact h.elim
  | .scr _ _,_,_,_,h => by rw [Sep] at h; exact h.elim
  | .ext _,_,_,_,h => by rw [Sep] at h; exact h.elim
theorem Seps.strip {G H:Hp} {O O':Own} {i i':Nat} {sfx:List Nat} :
    ∀ (ds:List D) (k:Nat) (π:List Nat) (xs:List V),(∀ a τ,O a = some (i,(τ ++ π) ++ sfx) → O' a = some (i',τ ++ π)) → Seps G H O i ds k (π ++ sfx) xs → Seps G H O' i' ds k π xs
  | [],_,_,_,_,h => by rw [Seps] at *; exact h
  | d :: ds,k,π,xs,hO,h => by
    rw [Seps] at *
    obtain ⟨v,vs,h1,h2,h3⟩:=h
    refine ⟨v,vs,h1,Sep.strip d (k :: π) v (fun a τ e => ?_) h2,Seps.strip ds (k + 1) π vs hO h3⟩
    have e' : τ ++ k :: π = (τ ++ [k]) ++ π:=by simp
    rw [e'] at e ⊢
    exact hO a (τ ++ [k]) e
end
section
variable {C:Ctx} {ow:List Bool} {G:Hp} {ρ:DSt} {σ:St} {H:Hp} {pd:List (D × V)} {O:Own}
theorem RO.split {ds:List D} {v:V} (h:RO C ow G ρ σ H ((.tup ds,v) :: pd) O) (hn:C.np ≤ pd.length):∃ a xs,v = .ref a ∧ G a = some (.tup xs) ∧ xs.length = ds.length ∧ R C ow G ρ σ H (ds.zip xs ++ pd):=by
  obtain ⟨s,pn⟩:=h.pn
  rw [Sep] at s
  obtain ⟨a,xs,rfl,hG,hs⟩:=s
  have hl:=hs.length
  refine ⟨a,xs,rfl,hG,hl,lab (fun l π => if l = 2 * pd.length + 1 then (2 * (pd.length + (ds.length - 1 - π.getLastD 0)) + 1,π.dropLast) else (l,π)) O,h.len,h.gh,h.g0,h.gn,?_,h.cok,h.fr,h.al,h.mp,?_,?_,by simp; exact zo74 hn hl⟩
  · intro b m e
    obtain ⟨l,π,e1,rfl⟩:=lab_of e
    obtain ⟨q1,q2,q3⟩:=h.og b _ e1
    refine ⟨q1,q2,?_⟩
    split
    · rename_i z
      rcases q3 with q3 | ⟨_,q3⟩
      · exact .inl q3
      · rcases h.cok _ _ _ q3 with ⟨k,_,q4,_⟩ | ⟨k,q4,q5⟩
        · exact absurd (q4.symm.trans z) even_ne
        · (first|lia|omega)
    · exact q3
  · intro j e q
    obtain ⟨u,h1,h2⟩:=h.sl j e q
    refine ⟨u,h1,?_⟩
    split at h2
    · rename_i c; rw [if_pos c]; exact h2.keep (fun _ _ z => z) fun a τ q => ⟨by rw [lab_at q,if_neg even_ne],rfl⟩
    · rename_i c; rw [if_neg c]; exact h2
  · have old:∀ (O':Own),(∀ b j π,j < pd.length → O b = some (2 * j + 1,π) → O' b = some (2 * j + 1,π)) → Pend G H O' pd:=fun O' hO => Pend.keep (fun _ _ z => z) (fun b j π hj q => ⟨hO b j π hj q,rfl⟩) pn
    have key:∀ (ds0:List D) (k:Nat) (xs0:List V) (O':Own),k + ds0.length = ds.length → Seps G H O (2 * pd.length + 1) ds0 k [] xs0 →
        (∀ b j π,j < pd.length → O b = some (2 * j + 1,π) → O' b = some (2 * j + 1,π)) → (∀ b τ k',O b = some (2 * pd.length + 1,τ ++ [k']) → O' b = some (2 * (pd.length + (ds.length - 1 - k')) + 1,τ)) → Pend G H O' (ds0.zip xs0 ++ pd):=by
      intro ds0
      induction ds0 with
      | nil => intro k xs0 O' _ _ ho _; exact old O' ho
      | cons d0 r ih =>
        intro k xs0 O' hk hh ho hnw
        rw [Seps] at hh
        obtain ⟨w,ws,rfl,w1,w2⟩:=hh
        have hwl:=w2.length
        refine ⟨?_,ih (k + 1) ws O' (by simp at hk; exact zo97 hk) w2 ho hnw⟩
        have e:(List.zip r ws ++ pd).length = pd.length + (ds.length - 1 - k):=by simp at hk ⊢; (first|lia|omega)
        show Sep G H O' (2 * (List.zip r ws ++ pd).length + 1) d0 [] w
        rw [e]
        exact Sep.strip (sfx:=[k]) d0 [] w (fun b τ q => by simpa using hnw b τ k (by simpa using q)) w1
    refine key ds 0 xs _ (by exact zo256) hs (fun b j π hj q => by rw [lab_at q,if_neg (by exact zo29 hj)]) (fun b τ k' q => ?_)
    rw [lab_at q,if_pos rfl]
    simp
end
def SGF (M:Md) (g:TGs) (m:MGs):Prop:=∀ (C:Ctx) (G:Hp) (ρ:DSt) (σ:St) (H:Hp) (T pd:List (D × V)) (k:DSt → Prop) (K:St → Hp → Prop),MuOk C M.mu → C.np ≤ pd.length → R C M.ow G ρ σ H (T ++ pd) → m (T.map (·.1)) ρ k →
  (∀ ρ' σ' G',k ρ' → Same G G' → R C M.ow G' ρ' σ' H pd → K σ' H) → g (T.map (·.2)) σ H K
structure QGF (X:Cx) (M:Md) (e:List Expr) (m:MGs):Prop where
  ex:∃ t,PGs X e t ∧ SGF M t m
section
variable {X:Cx} {M:Md} {a b c e:Expr} {ma mb mc:ME} {pos pos':Pos} {mr:MA} {es:List Expr} {mgs:MGs}
theorem qgf_nil:QGF X M [] gmNil:=⟨_,pgs_nil,fun C G ρ σ H T pd k K hm hn r h kk => by
  cases T with
  | nil => exact ⟨rfl,kk _ _ G h (Same.refl _) r⟩
  | cons _ _ => exact h.elim⟩
theorem qgf_own {i:Nat} {x:Str} (hN:X.N.Nodup) (hi:X.N[i]? = some x) (hx:Loc X.env.scope x) (h2:QGF X M es mgs) (ho:M.ow[i]? = some true:=by decide) (hu:M.mu[i]? ≠ some true:=by decide) (hf:X.fn x = true ∨ X.env.scope.names.lookup x = some .local:=by first | exact .inl rfl | exact .inr rfl | assumption)
    (hs:(assignEach (.Name x pos :: es) X.env).map (·.2) = assign (.Name x pos) X.env :: (assignEach es X.env).map (·.2):=by rfl):QGF X M (.Name x pos :: es) (gmCons (gmName i) mgs):=by
  obtain ⟨t2,p2,s2⟩:=h2
  refine ⟨_,pgs_cons (pg_name hN hi hx hf) p2 hs,fun C G ρ σ H T pd k K hm hn r h kk => ?_⟩
  cases T with
  | nil => exact h.elim
  | cons x T =>
    obtain ⟨O,r⟩:=r
    exact ⟨_,_,rfl,s2 C G _ _ H T pd k K hm hn (r.setO ho (hm.no hu) (by simp; exact zo85 hn)) h kk⟩
theorem qgf_sh {i:Nat} {x:Str} (hN:X.N.Nodup) (hi:X.N[i]? = some x) (hx:Loc X.env.scope x) (h2:QGF X M es mgs) (ho:M.ow[i]? ≠ some true:=by decide) (hu:M.mu[i]? ≠ some true:=by decide) (hf:X.fn x = true ∨ X.env.scope.names.lookup x = some .local:=by first | exact .inl rfl | exact .inr rfl | assumption)
    (hs:(assignEach (.Name x pos :: es) X.env).map (·.2) = assign (.Name x pos) X.env :: (assignEach es X.env).map (·.2):=by rfl):QGF X M (.Name x pos :: es) (gmCons (gmName i) mgs):=by
  obtain ⟨t2,p2,s2⟩:=h2
  refine ⟨_,pgs_cons (pg_name hN hi hx hf) p2 hs,fun C G ρ σ H T pd k K hm hn r h kk => ?_⟩
  cases T with
  | nil => exact h.elim
  | cons x T =>
    obtain ⟨O,r⟩:=r
    obtain ⟨G2,z2,⟨O2,r2⟩,p⟩:=r.share (by simp; exact zo85 hn)
    exact ⟨_,_,rfl,s2 C G2 _ _ H T pd k K hm hn ⟨O2,r2.setS ho (hm.no hu) p⟩ h fun ρ' σ' G' hk z r' => kk ρ' σ' G' hk (z2.trans z) r'⟩
theorem qs_asgF {kk:Nat} {n:Nat} {tpos:Pos} (hc:X.calm = true) (he:QM X M e ma) (hg:QGF X M es mgs) (ht:takes n mgs)
    (hn:(assignEach es X.env).length = n:=by rfl) (hst:(assignEach es X.env).findIdx? (·.1) = none:=by rfl)
    (hs:swapsWithSole [.Tuple es kk tpos] e pos.line X.env = pure false:=by rfl) (hw:swappedStores [.Tuple es kk tpos] e X.env = pure none:=by rfl)
    (h1:(assignEach [.Tuple es kk tpos] X.env).map (·.2) = [assign (.Tuple es kk tpos) X.env]:=by rfl):QS X M (.Assign [.Tuple es kk tpos] e pos) (mAsg ma (gmTup mgs)):=by
  obtain ⟨t,p,s⟩:=he; obtain ⟨t2,p2,s2⟩:=hg
  refine ⟨_,ps_asg p (pg_tup hc p2 hn hst) hs hw h1,fun C G ρ σ H n D hm hn r h k => s C G ρ σ H [] _ _ hm r h fun d ρ' v G' H' hq z r' => ?_⟩
  cases d with
  | tup ds =>
    obtain ⟨O,r'⟩:=r'
    obtain ⟨a,xs,rfl,h1,h2,r2⟩:=r'.split (by rw [hn]; exact Nat.zero_le _)
    have hl:=ht _ _ _ hq
    have e1:(ds.zip xs).map (·.1) = ds:=List.map_fst_zip (by exact zo233 h2)
    have e2:(ds.zip xs).map (·.2) = xs:=List.map_snd_zip (by exact zo136 h2)
    refine ⟨a,xs,rfl,SqT.of (r2.gh _ _ h1),by exact zo135 h2 hl,?_⟩
    have:=s2 C G' ρ' σ H' (ds.zip xs) [] n.nx D.nx hm (by rw [hn]; exact Nat.zero_le _) r2 (by rw [e1]; exact hq) fun ρ3 σ3 G3 h3 z3 r3 => k.nx ρ3 σ3 G3 H' h3 (z.trans z3) r3
    rw [e2] at this
    exact this
  | _ => exact hq.elim
end
def rGetL (K:PySem.W.Frag):V → V → Hp → VK → Prop:=fun x y H Q => ∃ p xs i v,x = .ref p ∧ y = .int i ∧ SqL K H p xs ∧ 0 ≤ i ∧ atI xs i = some v ∧ Q v H
theorem get_list {X:Cx}:PGet X (rGetL X.K):=fun pins s σ H o i ov iv Q I ro ri h => by
  obtain ⟨p,xs,k,v,rfl,rfl,hS,h0,ha,q⟩:=h
  cases ro
  obtain ⟨t,rfl⟩:=ri
  obtain ⟨its,r,pl,hz⟩:=I.list hS
  obtain ⟨j,h1,h2,h3,h4,h5⟩:=atI_get ha
  obtain ⟨w,ew,rw'⟩:=r.get h2
  have hn:=line63
  have hj:k.toNat = j:=by
    rw [seqIndex_of h0 h5] at h1
    exact Option.some.inj h1
  exact wpAny_getItem_list pl.isList h0 (by exact zo159 hz h5 hn) (by rw [hj]; simpa using ew) ⟨v,H,I,rw',q⟩
section
variable {X:Cx} {M:Md} {a b c e:Expr} {ma mb mc:ME} {pos pos':Pos}
def mAugI (i:Nat) (mk m:ME):MS:=fun n ρ => match ρ[i]? with
  | some (some (.lst _)) => mk ρ fun k ρ1 => match k with
    | .int j => match ρ1[i]? with
      | some (some (.lst ds)) => 0 ≤ j ∧ match atI ds j with
        | some (.int x) => m ρ1 fun d ρ2 => match d with
          | .int y => match ρ2[i]? with
            | some (some (.lst ds2)) => match ixN ds2.length j with
              | some p => n.nx (ρ2.set i (some (.lst (ds2.set p (.int (x + y))))))
              | none => False
            | _ => False
          | _ => False
        | _ => False
      | _ => False
    | _ => False
  | _ => False
theorem qs_augI {i:Nat} {x:Str} {npos spos:Pos} (hN:X.N[i]? = some x) (he:QE X M.ow e ma) (hk:QE X M.ow b mb) (ho:M.ow[i]? = some true:=by decide)
    (hv:Vis X.env.scope x:=by first | exact Or.inl rfl | exact Or.inr (Or.inl rfl) | exact Or.inr (Or.inr rfl)) (hd:(x == ("__debug__":Str)) = false:=by decide) (hcd:(x == ("__classdict__":Str)) = false:=by decide)
    (ha:∀ ov iv new,augStore b ov iv new = (do holding [new,ov,iv] (setItem ov iv new); release [new,ov,iv] []; pure .next):=by intros; rfl) :
    QS X M (.AugAssign (.Subscript (.Name x npos) b spos) .Add e pos) (mAugI i mb ma):=by
  obtain ⟨t,p,s⟩:=he; obtain ⟨t2,p2,s2⟩:=hk
  refine ⟨_,ps_augS (pe_var hN hv hd hcd) p2 get_list p ip_add set_list ha,fun C G ρ σ H n D hm hn r h k => ?_⟩
  unfold mAugI at h
  split at h
  · rename_i ds0 e0
    obtain ⟨O0,ro⟩:=r
    obtain ⟨a,xs0,hu,g0,_,_⟩:=ro.write e0 ho
    refine ⟨.ref a,hu,?_⟩
    refine s2 C G ρ σ H [] _ _ ⟨O0,ro⟩ h fun dk ρ1 jv G1 H1 hq1 z1 kp1 r1 pj => ?_
    cases dk with
    | int j =>
      dsimp only at hq1
      split at hq1
      · rename_i ds1 e1
        obtain ⟨j0,hq1⟩:=hq1
        obtain ⟨O1,r1⟩:=r1
        obtain ⟨a1,xs1,hu1,g1,g2,_⟩:=r1.write e1 ho
        rw [hu] at hu1; cases hu1
        split at hq1
        · rename_i x ex
          have exx:=ex
          obtain ⟨jj,q1,q2,q3,q4,q5⟩:=atI_get ex
          obtain ⟨v,w1,w2⟩:=g2.at q2
          have hv:atI xs1 j = some v:=by
            unfold atI at ex ⊢
            rw [g2.length]
            cases z:ixN ds1.length j with
            | none => rw [z] at ex; cases ex
            | some j' =>
              have:j' = jj:=by
                have:=(ixN_seq z).1; rw [this] at q1; exact Option.some.inj q1
              subst this; exact w1
          have hv2:v = .int x:=by rw [Sep] at w2; exact w2
          subst hv2
          refine ⟨a,xs1,j,.int x,rfl,rep_int_of pj,SqL.of g1,j0,hv,?_⟩
          refine s C G1 ρ1 σ H1 [] _ _ ⟨O1,r1⟩ hq1 fun dy ρ2 yv G2 H2 hq2 z2 kp2 r2 py => ?_
          cases dy with
          | int y =>
            dsimp only at hq2
            split at hq2
            · rename_i ds2 e2
              split at hq2
              · rename_i pl e3
                obtain ⟨O2,r2⟩:=r2
                obtain ⟨a2,xs2,f1,f2,f3,f4⟩:=r2.write e2 ho
                rw [hu] at f1; cases f1
                refine ⟨x,y,rfl,rep_int_of py,a,xs2,j,pl,rfl,rep_int_of pj,f2,by rw [f3.length]; exact e3,?_⟩
                exact k.nx _ _ G2 _ hq2 (z1.trans z2) ⟨O2,f4 _ _ (f3.set (by rw [Sep]))⟩
              · exact hq2.elim
            · exact hq2.elim
          | _ => exact hq2.elim
        · exact hq1.elim
      · exact hq1.elim
    | _ => exact hq1.elim
  · exact h.elim
end
def compM (g:MG) (mt:MT) (me:ME) (ρ0:DSt) (k0:Nat) (ds:List D) (d0:D) (K:List D → D → Prop):Prop:=∃ I:Nat → List D → D → Prop,I 0 [] d0 ∧
  (∀ i x es d,ds[i]? = some x → I i es d → g x (ρ0.set k0 (some d)) fun ρ2 => mt ρ2 fun b ρ3 => if b = true then me ρ3 fun y ρ4 => (match ρ4[k0]? with | some (some d') => I (i + 1) (es ++ [y]) d' | _ => False) else match ρ3[k0]? with | some (some d') => I (i + 1) es d' | _ => False) ∧
  ∀ es d,I ds.length es d → K es d
def mCompM (mi:MA) (g:MG) (mt:MT) (me:ME) (k:Nat) (js:List Nat) (j0 k0:Nat):ME:=fun ρ q => mi ρ fun ds ρ1 => ds.length ≤ 1000 ∧ match ρ1[j0]? with
  | some (some d0) => compM g mt me (rho0 k js ρ1) k0 ds d0 fun es d => imms es = true ∧ q (.lst es) (ρ1.set j0 (some d))
  | _ => False
def owM (k0:Nat):List Bool:=List.replicate k0 false ++ [true]
theorem owM_iff {k0 i:Nat}:(owM k0)[i]? = some true ↔ i = k0:=by
  unfold owM
  by_cases h:i < k0
  · rw [List.getElem?_append_left (by simpa using h),List.getElem?_replicate,if_pos h]
    constructor
    · intro z; cases z
    · intro z; (first|lia|omega)
  · rw [List.getElem?_append_right (by simpa using h),List.length_replicate]
    cases e:i - k0 with
    | zero => simp; exact zo15 h e
    | succ m => simp; exact zo148 e
def muM (k0:Nat) (v:V):List (Option V):=List.replicate k0 none ++ [some v]
theorem muM_iff {k0 i:Nat} {v w:V} (h:(muM k0 v)[i]? = some (some w)):i = k0 ∧ w = v:=by
  unfold muM at h
  by_cases c:i < k0
  · rw [List.getElem?_append_left (by simpa using c),List.getElem?_replicate,if_pos c] at h; cases h
  · rw [List.getElem?_append_right (by simpa using c),List.length_replicate] at h
    cases e:i - k0 with
    | zero => rw [e] at h; simp at h; exact ⟨by exact zo15 c e,h.symm⟩
    | succ m => rw [e] at h; simp at h
theorem muM_at (k0:Nat) (v:V):(muM k0 v)[k0]? = some (some v):=by unfold muM; rw [List.getElem?_append_right (by simp)]; simp
theorem rho0_of {k:Nat} {js:List Nat} {ρ:DSt} {i:Nat} {d:D} (e:(rho0 k js ρ)[i]? = some (some d)):k ≤ i ∧ ∃ j,js[i - k]? = some j ∧ ρ[j]? = some (some d):=by
  unfold rho0 at e
  by_cases c:i < k
  · rw [List.getElem?_append_left (by simpa using c),List.getElem?_replicate] at e
    split at e <;> cases e
  · rw [List.getElem?_append_right (by simpa using c),List.getElem?_map] at e
    simp only [List.length_replicate] at e
    refine ⟨by exact zo106 c,?_⟩
    cases z:js[i - k]? with
    | none => rw [z] at e; cases e
    | some j =>
      rw [z] at e
      have e':(ρ[j]?).getD none = some d:=Option.some.inj e
      refine ⟨j,rfl,?_⟩
      cases w : ρ[j]? with
      | none => rw [w] at e'; cases e'
      | some o => rw [w] at e'; exact congrArg some e'
theorem sig0_at {own:List Str} {js:List Nat} {σ:St} {i j:Nat} {v:V} (hi:own.length ≤ i) (hj:js[i - own.length]? = some j) (hv : σ[j]? = some (some v)):(sig0 own js σ)[i]? = some (some v):=by
  unfold sig0
  rw [List.getElem?_append_right (by simpa using hi),List.getElem?_map]
  simp only [List.length_map]
  rw [hj,show (some j).map _ = some ((σ[j]?).getD none) from rfl,hv]; rfl
structure CGM (k0 n:Nat) (g:TG) (m:MG):Prop where
  sg:SG ⟨owM k0,owM k0,false⟩ g m
  kp:KeepG n g
  mn:MonG g
theorem cgm_name {k0 n:Nat} (i:Nat) (h:i < n:=by decide) (hk:n ≤ k0:=by decide):CGM k0 n (gName i) (gmName i) :=
  ⟨fun C G ρ σ H pd d v k K hm r p hh kk => by
    have hn:(owM k0)[i]? ≠ some true:=fun z => by have:=owM_iff.mp z; exact zo240 h hk this
    obtain ⟨O,r⟩:=r; exact kk _ _ hh ⟨O,r.setS hn (hm.no hn) p⟩,
   fun σ0 h0 σ x H k hk hg => ⟨kept_set hk (h0 i h),hg⟩,fun x σ H k k' hk h => hk _ _ h⟩
theorem comp_soundM {ow:List Bool} {J:It} {g:TG} {mg:MG} {tt:TT} {mt:MT} {te:TE} {me:ME} {C:Ctx} {G:Hp} {ρ:DSt} {σ:St} {H:Hp} {pd:List (D × V)} {ds:List D} {own:List Str} {js:List Nat} {j0 k0:Nat} {d0:D} {K:List D → D → Prop} {Z:List V → Hp → Prop}
    (r:R C ow G ρ σ H pd) (ho:ow[j0]? = some true) (hk0:own.length ≤ k0) (hjk:js[k0 - own.length]? = some j0) (hj:∀ (i j:Nat),js[i]? = some j → i ≠ k0 - own.length → ow[j]? ≠ some true) (he : ρ[j0]? = some (some d0)) (jo:ItOk J G ds) (cg:CGM k0 own.length g mg) (st:STe (owM k0) tt mt) (se:SE (owM k0) te me)
    (hl:ds.length ≤ 1000) (h:compM mg mt me (rho0 own.length js ρ) k0 ds d0 K)
    (k:∀ es d vs G' H',K es d → Same G G' → R C ow G' (ρ.set j0 (some d)) σ H' pd → Reps G' es vs → vs.length ≤ 1000 → Z vs H'):CompW J g tt te (sig0 own js σ) H Z:=by
  obtain ⟨O,ro⟩:=r
  obtain ⟨v0,hv0,sv0⟩:=ro.sl j0 d0 he
  rw [if_pos ho] at sv0
  let fin:Nat → Option Nat:=fun l => if l = 2 * j0 then some (2 * k0) else none
  let fbk:Nat → Option Nat:=fun l => if l = 2 * k0 then some (2 * j0) else none
  let C1:Ctx:=⟨G,H,ownM fin O,muM k0 v0,0⟩
  let ρ0:=rho0 own.length js ρ
  have s0k:(sig0 own js σ)[k0]? = some (some v0):=sig0_at hk0 hjk hv0
  have r0l:k0 < ρ0.length:=by
    have:k0 - own.length < js.length:=(List.getElem?_eq_some_iff.mp hjk).1
    show k0 < (rho0 own.length js ρ).length
    unfold rho0; simp; exact zo121 hk0 this
  have fino:∀ l l',fin l = some l' → l = 2 * j0 ∧ l' = 2 * k0:=fun l l' e => by
    change (if l = 2 * j0 then _ else _) = _ at e
    split at e
    · rename_i c; exact ⟨c,(Option.some.inj e).symm⟩
    · cases e
  have finj:fin (2 * j0) = some (2 * k0):=by show (if _ then _ else _) = _; rw [if_pos rfl]
  -- the inner state,by the owned slot's value
  have inner:∀ {G':Hp} {H':Hp} {O':Own} {d:D},Same G G' → Same G' H' → (∀ a o,G' a = some o → G a = some o ∨ H a = none) → (∀ a l,O' a = some l → G' a = none ∧ (∃ xs,H' a = some (.lst xs)) ∧ Nw C1 a l.1) →
      (∀ a o,H a = some o → ownM fin O a = none → H' a = some o) → (∀ a,H' a = none → H a = none) → Sep G' H' O' (2 * k0) d [] v0 → RO C1 (owM k0) G' (ρ0.set k0 (some d)) (sig0 own js σ) H' [] O':=by
    intro G' H' O' d z gh gn og fr al sp
    refine ⟨by rw [List.length_set]; show (rho0 own.length js ρ).length = _; unfold rho0 sig0; simp,gh,z,gn,og,?_,fr,al,?_,?_,trivial,Nat.le_refl _⟩
    · intro a l π e
      obtain ⟨l0,e1,e2⟩:=ownM_of e
      obtain ⟨_,rfl⟩:=fino _ _ e2
      exact .inl ⟨k0,v0,rfl,muM_at k0 v0⟩
    · intro i w e
      obtain ⟨rfl,rfl⟩:=muM_iff e
      exact s0k
    · intro i d' e
      rcases set_at e with ⟨rfl,e'⟩ | ⟨hne,e'⟩
      · cases e'
        exact ⟨v0,s0k,by rw [if_pos (owM_iff.mpr rfl)]; exact sp⟩
      · obtain ⟨hi,j,h1,h2⟩:=rho0_of e'
        obtain ⟨v,g1,g2⟩:=ro.sl j d' h2
        rw [if_neg (hj _ j h1 (by exact zo36 hk0 hne hi))] at g2
        exact ⟨v,sig0_at hi h1 g1,by rw [if_neg (fun zz => hne (owM_iff.mp zz))]; exact g2.mono z⟩
  have og1:∀ a l,ownM fin O a = some l → G a = none ∧ (∃ xs,H a = some (.lst xs)) ∧ Nw C1 a l.1:=fun a l e => by
    obtain ⟨l',π⟩:=l
    obtain ⟨l0,e1,e2⟩:=ownM_of e
    obtain ⟨q1,q2,_⟩:=ro.og a _ e1
    exact ⟨q1,q2,.inr ⟨π,e⟩⟩
  have start:R C1 (owM k0) G (ρ0.set k0 (some d0)) (sig0 own js σ) H []:=⟨_,inner (Same.refl _) ro.gh (fun _ _ e => .inl e) og1 (fun _ _ e _ => e) (fun _ e => e) (sv0.keep (fun _ _ z => z) fun a τ q => ⟨ownM_at q finj,rfl⟩)⟩
  obtain ⟨I,i0,turn,fini⟩:=h
  have hmu:MuOk C1 (owM k0):=fun i v e => by obtain ⟨rfl,_⟩:=muM_iff e; exact owM_iff.mpr rfl
  refine ⟨fun i m acc H' => m = ds.length - i ∧ i ≤ ds.length ∧ acc.length ≤ i ∧ ∃ G' es d,Same G G' ∧ R C1 (owM k0) G' (ρ0.set k0 (some d)) (sig0 own js σ) H' [] ∧ Reps G' es acc ∧ I i es d,⟨_,rfl,Nat.zero_le _,Nat.le_refl _,G,[],d0,Same.refl _,start,reps_nil,i0⟩,?_⟩
  rintro i m acc H' ⟨rfl,hi,ha,G',es,d,z,r',pa,w⟩
  obtain ⟨sp,go⟩:=jo C1 (owM k0) G' _ _ H' [] i z r'
  by_cases hlt:i < ds.length
  · obtain ⟨g1,g2⟩:=go ds[i] (List.getElem?_eq_getElem hlt)
    refine .inr ⟨g1,small1000 (by exact zo44 hl ha hlt),fun acc' H2 => acc'.length ≤ i + 1 ∧ ∃ G2 es2 d2,Same G G2 ∧ R C1 (owM k0) G2 (ρ0.set k0 (some d2)) (sig0 own js σ) H2 [] ∧ Reps G2 es2 acc' ∧ I (i + 1) es2 d2,fun acc' H2 h => ⟨ds.length - (i + 1),by exact zo4 hlt,rfl,hlt,h.1,h.2⟩,fun x H1 hy => ?_⟩
    obtain ⟨G1,z1,r1,p1⟩:=g2 x H1 hy
    have step1:=cg.sg C1 G1 _ _ H1 [] ds[i] x _ (fun σ2 H2 => ∃ ρ2,(mt ρ2 fun b ρ3 => if b = true then me ρ3 fun y ρ4 => (match ρ4[k0]? with | some (some d') => I (i + 1) (es ++ [y]) d' | _ => False) else match ρ3[k0]? with | some (some d') => I (i + 1) es d' | _ => False) ∧ R C1 (owM k0) G1 ρ2 σ2 H2 []) hmu r1 p1 (turn i ds[i] es d (List.getElem?_eq_getElem hlt) w) (fun ρ2 σ2 h2 r2 => ⟨ρ2,h2,r2⟩)
    refine cg.mn _ _ _ _ _ ?_ (cg.kp (sig0 own js σ) sig0_none (sig0 own js σ) x H1 _ (kept_refl _) step1)
    rintro σ2 H2 ⟨hkp,ρ2,h2,r2⟩
    refine ⟨hkp,st C1 G1 ρ2 σ2 H2 [] _ _ r2 h2 fun b ρ3 G3 H3 h3 z3 kp3 r3 => ?_⟩
    have bk:∀ {G4:Hp} {ρ4:DSt} {H4:Hp} {d':D},ρ4[k0]? = some (some d') → R C1 (owM k0) G4 ρ4 σ2 H4 [] → R C1 (owM k0) G4 (ρ0.set k0 (some d')) (sig0 own js σ) H4 []:=fun e4 ⟨O4,r4⟩ => by
      obtain ⟨v,q1,q2⟩:=r4.sl k0 _ e4
      rw [if_pos (owM_iff.mpr rfl)] at q2
      rw [kept_get hkp k0 v0 s0k] at q1
      cases q1
      exact ⟨O4,inner r4.g0 r4.gh r4.gn r4.og r4.fr r4.al q2⟩
    cases b with
    | true =>
      rw [if_pos rfl] at h3 ⊢
      refine se C1 G3 ρ3 σ2 H3 [] _ _ r3 h3 fun y ρ4 v G4 H4 h4 z4 kp4 r4 p4 => ?_
      split at h4
      · rename_i d' e4
        exact ⟨by simp; exact zo301 ha,G4,es ++ [y],d',z.trans (z1.trans (z3.trans z4)),bk e4 r4,reps_app (Reps.mono (z1.trans (z3.trans z4)) _ _ pa) (reps_cons p4 reps_nil),h4⟩
      · exact h4.elim
    | false =>
      rw [if_neg (by decide)] at h3 ⊢
      split at h3
      · rename_i d' e4
        exact ⟨by exact zo100 ha,G3,es,d',z.trans (z1.trans z3),bk e4 r3,Reps.mono (z1.trans z3) _ _ pa,h3⟩
      · exact h3.elim
  · have e:i = ds.length:=by exact zo11 hi hlt
    subst e
    refine .inl ⟨sp (Nat.le_refl _),le_line (by exact zo25 hl ha),?_⟩
    obtain ⟨O2,r2⟩:=r'
    refine k es d acc G' H' (fini es d w) z ⟨ownB fin fbk O O2,?_⟩ pa (by exact zo25 hl ha)
    refine ro.out (vs:=[]) r2 ?_ (by rw [List.length_set]; exact ro.len) ro.np ?_ ?_ fun O3 h1 h2 ts => ?_
    · intro l0 l' l e1 e2
      obtain ⟨rfl,rfl⟩:=fino _ _ e1
      change (if 2 * k0 = 2 * k0 then _ else _) = _ at e2
      rw [if_pos rfl] at e2
      exact (Option.some.inj e2).symm
    · intro i d' c e
      rcases set_at e with ⟨rfl,_⟩ | ⟨_,e'⟩
      · exact absurd ho c
      · exact e'
    · intro i d' c e
      rcases set_at e with ⟨rfl,e'⟩ | ⟨hne,e'⟩
      · cases e'
        exact .inr ⟨k0,v0,by show (if _ then _ else _) = _; rw [if_pos rfl],owM_iff.mpr rfl,by rw [List.getElem?_set_self r0l],hv0,s0k⟩
      · exact .inl ⟨by show (if _ then _ else _) = _; rw [if_neg (by exact zo43 hne)],e'⟩
    · exact Pend.keep ts (fun a j π hj e => h1 a _ _ e (by show (if _ then _ else _) = _; rw [if_neg (by exact zo191)])) ro.pn
section
variable {X:Cx} {ow:List Bool} {elt tg iter:Expr} {ifs:List Expr} {pos:Pos} {mi:MA} {mg:MG} {mt:MT} {me:ME} {scope:Scope} {cl:List (Str × Addr)}
theorem comp_sfM {wi:TI} {g:TG} {own:List Str} {js:List Nat} {j0 k0:Nat} (si:SI ow wi mi) (cg:CGM k0 own.length g mg) (ho:ow[j0]? = some true) (hk0:own.length ≤ k0) (hjk:js[k0 - own.length]? = some j0) (hj:∀ (i j:Nat),js[i]? = some j → i ≠ k0 - own.length → ow[j]? ≠ some true) :
    SF ow (tComp wi g (canT (owM k0) mt) (canE (owM k0) me) own js) (mCompM mi mg mt me own.length js j0 k0):=fun C G ρ σ H pd q Q r h k =>
  si C G ρ σ H pd _ _ r h fun ds ρ' G' H' J hq z kp r' jo => by
    obtain ⟨hl,hq⟩:=hq
    split at hq
    · rename_i d0 e0
      refine comp_soundM r' ho hk0 hjk hj e0 jo cg can_st can_se hl hq fun es d vs G2 H2 hK z2 r2 p2 hl p hp => ?_
      obtain ⟨O2,r2⟩:=r2
      exact k _ _ _ _ _ hK.2 (z.trans z2) (kp.trans fun j hj => List.getElem?_set_ne (fun (zz:j0 = j) => hj (zz ▸ ho))) (r2.newL hp hK.1 p2)
    · exact hq.elim
structure CInnM (X:Cx) (k0:Nat) (tg:Expr) (ifs:List Expr) (elt:Expr) (g:TG) (mt:MT) (me:ME):Prop where
  pg:PG X tg g
  qi:QIf X (owM k0) ifs mt
  qe:QE X (owM k0) elt me
theorem qf_compM {g:TG} (own:List Str) (js:List Nat) (j0 k0:Nat) (c:CompOk X scope cl own js) (hc:X.calm = true) (hi:QI X ow tg iter mi) (cg:CGM k0 own.length g mg)
    (inner:∀ (C:Addr) (s₀:Shared) (H₀:Hp) (ex:List Addr),CInnM (compCx X scope cl (nam0 X own js) C s₀ H₀ ex) k0 tg ifs elt g mt me) (ho:ow[j0]? = some true:=by decide) (hk0:own.length ≤ k0:=by decide) (hjk:js[k0 - own.length]? = some j0:=by rfl)
    (hj:(js.mapIdx fun i j => decide (i = k0 - own.length) || !decide (ow[j]? = some true)).all id = true:=by decide)
    (hs:∀ x,foldedSetIterable iter X.env x = pure x:=by intro _; rfl):QF X ow (.ListComp elt [⟨tg,iter,ifs,0⟩] scope pos) (mCompM mi mg mt me own.length js j0 k0):=by
  obtain ⟨wi,pi,si⟩:=hi
  have hj':∀ (i j:Nat),js[i]? = some j → i ≠ k0 - own.length → ow[j]? ≠ some true:=fun i j e hne z => by
    rw [List.all_eq_true] at hj
    have:=hj (decide (i = k0 - own.length) || !decide (ow[j]? = some true)) (List.mem_of_getElem? (i:=i) (by rw [List.getElem?_mapIdx,e]; rfl))
    simp [hne,z] at this
  exact ⟨_,pe_comp own js c hc pi (fun C s₀ H₀ ex => ⟨(inner C s₀ H₀ ex).pg,(inner C s₀ H₀ ex).qi.can,(inner C s₀ H₀ ex).qe.can⟩) hs,comp_sfM si cg ho hk0 hjk hj'⟩
end
section
variable {X:Cx} {M:Md} {a b c e:Expr} {ma mb mc:ME} {pos pos' p1 p2 p3:Pos} {te:TE} {j1:Nat} {ow:List Bool}
end
def isW:D → Bool
  | .int _ => true
  | _ => false
def btw (lo hi:Int):D → Bool
  | .int i => decide (lo ≤ i) && decide (i ≤ hi)
  | _ => false
def twoL:D → Bool
  | .tup [.lst ps,.lst rs] => decide (ps.length = rs.length) && (decide (1 ≤ ps.length) && decide (ps.length ≤ 23))
  | _ => false
structure Tree (ps rs:List Int):Prop where
  len:ps.length = rs.length
  lo : 1 ≤ ps.length
  hi:ps.length ≤ 23
  par:∀ (i:Nat) (x:Int),ps[i]? = some x → 0 ≤ x ∧ x ≤ i
  room:∀ (i:Nat) (x:Int),rs[i]? = some x → 1 ≤ x ∧ x ≤ 1000000
def sdWhole:SpD:=fun ds q => ∃ d,ds = [d] ∧ d.isS = false ∧ q (.bl (isW d)) []
def sdBetween:SpD:=fun ds q => ∃ d lo hi,ds = [d,.int lo,.int hi] ∧ d.isS = false ∧ q (.bl (btw lo hi d)) []
def sdLook:SpD:=fun ds q => ∃ ps rs,ds = [dPair ps rs] ∧ Tree ps rs ∧ q .non []
def cellZ (ns:List Int) (k:Int):Int:=ns.getD k.toNat 0
def ScrOk (K:PySem.W.Frag) (φ:Addr → Prop) (ns:List Int):Prop:=∀ a H,φ a → SqL K H a (ns.map V.int)
def sdCell (K:PySem.W.Frag):SpD:=fun ds q => ∃ φ ns k,ds = [.scr φ ns,.int k] ∧ ScrOk K φ ns ∧ 0 ≤ k ∧ q (.int (cellZ ns k)) []
def sdTake:SpD:=fun ds q => ∃ c m many,ds = [dInts [c,m],.int many] ∧ 0 ≤ c ∧ 0 < many ∧ Sm many ∧ ∀ r c' m',0 ≤ r → r < many → 0 ≤ c' → q (.int r) [some (dInts [c',m'])]
def sdLaw (K:PySem.W.Frag):SpD:=fun ds q => ∃ φ ns,ds = [.scr φ ns] ∧ ScrOk K φ ns ∧ ns.length ≤ 63 ∧ q (.bl true) []
def spLaw (K:PySem.W.Frag):Sp:=fun vs H Q _ => ∃ (a:Addr) (ns:List Int),vs = [.ref a] ∧ Only H ∧ SqL K H a (ns.map V.int) ∧ ns.length ≤ 63 ∧ ∀ H',Q (.bl true) H'
theorem spLaw_of {K:PySem.W.Frag} {vs:List V} {H:Hp} {Q:VK} {E:XK} (h:spLaw K vs H Q E):spOf [false] false (sdLaw K) vs H Q E:=by
  obtain ⟨a,ns,rfl,hO,hS,hl,hq⟩:=h
  have main:∀ φ:Addr → Prop,ScrOk K φ ns → Rep H (.scr φ ns) (.ref a) → spOf [false] false (sdLaw K) [.ref a] H Q E:=fun φ hφ r => by
    refine ⟨⟨H,H,fun _ => none,[none],0⟩,H,[.scr φ ns],fun d _ => d = .bl true,rfl,rfl,⟨fun _ => none,rfl,Same.refl _,Same.refl _,fun _ _ e => .inl e,fun a l e => by (first | cases e),fun a l π e => by (first | cases e),fun _ _ e _ => e,fun _ e => e,fun i v e => ?_,?_,trivial,Nat.le_refl _⟩,⟨φ,ns,rfl,hφ,hl,rfl⟩,rfl,?_⟩
    · cases i with
      | zero => simp at e
      | succ i => simp at e
    · intro i d e
      cases i with
      | zero => simp at e; subst e; exact ⟨_,rfl,by simpa using r⟩
      | succ i => simp at e
    · intro d ρ' σ' v G' H' hd _ _ hr
      subst hd
      unfold Ret at hr
      rw [if_neg (by decide)] at hr
      rw [rep_bl_of hr.2]
      exact hq H'
  rcases hS with (h1 | ⟨o,h1⟩) | h1
  · rcases hO a with z | ⟨o,xs,z⟩
    · rw [h1] at z; cases z
    · rw [h1] at z; cases z
  · exact main (fun _ => False) (fun _ _ z => z.elim) (by rw [Rep]; exact ⟨a,rfl,.inl ⟨o,h1⟩⟩)
  · exact main (fun b => b = a) (fun b H' z => by subst z; exact .inr h1) (by rw [Rep]; exact ⟨a,rfl,.inr rfl⟩)
theorem atI_ints {ns:List Int} {k:Int} (h0 : 0 ≤ k) (h1:k < ns.length):atI (ns.map D.int) k = some (.int (ns.getD k.toNat 0)):=by
  have ek:k = ((k.toNat:Nat):Int):=by exact zo7 h0
  have hl:k.toNat < ns.length:=by exact zo47 h1 ek
  have:atI (ns.map D.int) ((k.toNat:Nat):Int) = some (.int (ns.getD k.toNat 0)):=atI_nat (by rw [List.getElem?_map,List.getD_eq_getElem?_getD,List.getElem?_eq_getElem hl]; rfl)
  rw [← ek] at this
  exact this
theorem atI_ns {ns:List Int} {k:Int} (h0 : 0 ≤ k) (h1:k < ns.length):atI ns k = some (ns.getD k.toNat 0):=by
  have ek:k = ((k.toNat:Nat):Int):=by exact zo7 h0
  have hl:k.toNat < ns.length:=by exact zo47 h1 ek
  have:atI ns ((k.toNat:Nat):Int) = some (ns.getD k.toNat 0):=atI_nat (by rw [List.getD_eq_getElem?_getD,List.getElem?_eq_getElem hl]; rfl)
  rw [← ek] at this
  exact this
theorem atD_of {ds:List D} {k:Int} {d:D} {q:D → Prop} (h:atI ds k = some d) (hq:q d):atD ds k q:=by unfold atD; rw [h]; exact hq
theorem map_at {ns:List Int} {i:Nat} {d:D} (h:(ns.map D.int)[i]? = some d):∃ z,ns[i]? = some z ∧ d = .int z:=by
  rw [List.getElem?_map] at h
  cases e:ns[i]? with
  | none => rw [e] at h; cases h
  | some z => rw [e] at h; exact ⟨z,rfl,(Option.some.inj h).symm⟩
theorem twoL_pair {ps rs:List Int} (hT:Tree ps rs):twoL (dPair ps rs) = true:=by
  show (decide ((ps.map D.int).length = (rs.map D.int).length) && (decide (1 ≤ (ps.map D.int).length) && decide ((ps.map D.int).length ≤ 23))) = true
  rw [List.length_map,List.length_map,decide_eq_true hT.len,decide_eq_true hT.lo,decide_eq_true hT.hi]; rfl
theorem btw_int {lo hi z:Int} (h1:lo ≤ z) (h2:z ≤ hi):btw lo hi (.int z) = true:=by show (decide (lo ≤ z) && decide (z ≤ hi)) = true; rw [decide_eq_true h1,decide_eq_true h2]; rfl
abbrev parZ (ps:List Int) (k:Int):Int:=ps.getD (k - 1).toNat 0
theorem Tree.up {ps rs:List Int} (hT:Tree ps rs) {k:Int} (h0 : 0 < k) (h1:k ≤ ps.length) : 0 ≤ parZ ps k ∧ parZ ps k < k:=by
  have hl:(k - 1).toNat < ps.length:=by exact zo131 h0 h1
  have e:ps[(k - 1).toNat]? = some (parZ ps k):=by unfold parZ; rw [List.getD_eq_getElem?_getD,List.getElem?_eq_getElem hl]; rfl
  have:=hT.par _ _ e
  exact zo77 h0 this
inductive Up (ps:List Int):Int → List Int → Prop
  | zero:Up ps 0 [0]
  | step {k:Int} {u:List Int} (h : 0 < k):Up ps (parZ ps k) u → Up ps k (k :: u)
theorem Up.det {ps:List Int} {k:Int} {u:List Int} (h:Up ps k u):∀ {v:List Int},Up ps k v → u = v:=by
  induction h with
  | zero => intro v h; cases h with | zero => rfl | step h0 _ => (first|lia|omega)
  | step h0 _ ih => intro v h; cases h with | zero => (first|lia|omega) | step _ h => rw [ih h]
theorem Up.le {ps rs:List Int} (hT:Tree ps rs) {k:Int} {u:List Int} (h:Up ps k u):k ≤ ps.length → ∀ x ∈ u,0 ≤ x ∧ x ≤ k:=by
  induction h with
  | zero => intro _ x hx; simp at hx; exact zo243 hx
  | step h0 _ ih =>
    intro h1 x hx
    have hp:=hT.up h0 h1
    rcases List.mem_cons.mp hx with rfl | hx
    · exact zo257 h0
    · have:=ih (by exact zo5 h1 hp) x hx; exact zo141 hp this
theorem Up.head {ps:List Int} {k:Int} {u:List Int} (h:Up ps k u):k ∈ u:=by cases h <;> simp
inductive Climb (ps:List Int):Int → Int → List Int → Int → Prop
  | same (a:Int):Climb ps a a [] a
  | left {a b:Int} {w:List Int} {m:Int} (h:b < a):Climb ps b (parZ ps a) w m → Climb ps a b (a :: w) m
  | right {a b:Int} {w:List Int} {m:Int} (h:a < b):Climb ps a (parZ ps b) w m → Climb ps a b (b :: w) m
theorem Climb.meet {ps rs:List Int} (hT:Tree ps rs) {a b m:Int} {w:List Int} (h:Climb ps a b w m) : 0 ≤ a → 0 ≤ b → a ≤ ps.length → b ≤ ps.length → ∀ {ua ub:List Int},Up ps a ua → Up ps b ub → m ∈ ua ∧ m ∈ ub ∧ ∀ x ∈ ua,x ∈ ub → x ≤ m:=by
  induction h with
  | same a => intro a0 _ a1 _ ua ub ha hb; have:=ha.det hb; subst this; exact ⟨ha.head,ha.head,fun x hx _ => (ha.le hT a1 x hx).2⟩
  | left hlt hc ih =>
    intro a0 b0 a1 b1 ua ub ha hb
    cases ha with
    | zero => (first|lia|omega)
    | step h0 hu =>
      have hp:=hT.up h0 a1
      obtain ⟨m1,m2,m3⟩:=ih b0 hp.1 b1 (by exact zo5 a1 hp) hb hu
      refine ⟨List.mem_cons_of_mem _ m2,m1,fun x hx hxb => ?_⟩
      rcases List.mem_cons.mp hx with rfl | hx
      · have:=(hb.le hT b1 _ hxb).2; exact zo176 hlt this
      · exact m3 x hxb hx
  | right hlt hc ih =>
    intro a0 b0 a1 b1 ua ub ha hb
    cases hb with
    | zero => (first|lia|omega)
    | step h0 hu =>
      have hp:=hT.up h0 b1
      obtain ⟨m1,m2,m3⟩:=ih a0 hp.1 a1 (by exact zo5 b1 hp) ha hu
      refine ⟨m1,List.mem_cons_of_mem _ m2,fun x hx hxb => ?_⟩
      rcases List.mem_cons.mp hxb with rfl | hxb
      · have:=(ha.le hT a1 _ hx).2; exact zo176 hlt this
      · exact m3 x hx hxb
theorem Climb.low {ps rs:List Int} (hT:Tree ps rs) {a b m:Int} {w:List Int} (h:Climb ps a b w m) : 0 ≤ a → 0 ≤ b → a ≤ ps.length → b ≤ ps.length → 0 ≤ m ∧ m ≤ a ∧ m ≤ b:=by
  induction h with
  | same a => intro a0 _ _ _; exact zo264 a0
  | left hlt hc ih => intro a0 b0 a1 b1; have hp:=hT.up (show 0 < _ by exact zo67 hlt a0 b0) a1; have:=ih b0 hp.1 b1 (by exact zo5 a1 hp); exact zo91 hlt this
  | right hlt hc ih => intro a0 b0 a1 b1; have hp:=hT.up (show 0 < _ by exact zo68 hlt a0 b0) b1; have:=ih a0 hp.1 a1 (by exact zo5 b1 hp); exact zo92 hlt this
theorem Climb.mem {ps rs:List Int} (hT:Tree ps rs) {a b m:Int} {w:List Int} (h:Climb ps a b w m) : 0 ≤ a → 0 ≤ b → a ≤ ps.length → b ≤ ps.length → ∀ x ∈ w,0 < x ∧ x ≤ ps.length:=by
  induction h with
  | same a => intro _ _ _ _ x hx; cases hx
  | left hlt hc ih =>
    intro a0 b0 a1 b1 x hx
    have hp:=hT.up (show 0 < _ by exact zo67 hlt a0 b0) a1
    rcases List.mem_cons.mp hx with rfl | hx
    · exact zo42 a0 a1 hp
    · exact ih b0 hp.1 b1 (by exact zo5 a1 hp) x hx
  | right hlt hc ih =>
    intro a0 b0 a1 b1 x hx
    have hp:=hT.up (show 0 < _ by exact zo68 hlt a0 b0) b1
    rcases List.mem_cons.mp hx with rfl | hx
    · exact zo42 b0 b1 hp
    · exact ih a0 hp.1 a1 (by exact zo5 b1 hp) x hx
theorem Climb.len {ps rs:List Int} (hT:Tree ps rs) {a b m:Int} {w:List Int} (h:Climb ps a b w m) : 0 ≤ a → 0 ≤ b → a ≤ ps.length → b ≤ ps.length → (w.length:Int) ≤ a + b:=by
  induction h with
  | same a => intro _ _ _ _; simp; (first|lia|omega)
  | left hlt hc ih => intro a0 b0 a1 b1; have hp:=hT.up (show 0 < _ by exact zo67 hlt a0 b0) a1; have:=ih b0 hp.1 b1 (by exact zo5 a1 hp); simp; exact zo142 hp this
  | right hlt hc ih => intro a0 b0 a1 b1; have hp:=hT.up (show 0 < _ by exact zo68 hlt a0 b0) b1; have:=ih a0 hp.1 a1 (by exact zo5 b1 hp); simp; exact zo143 hp this
theorem Climb.det {ps:List Int} {a b m:Int} {w:List Int} (h:Climb ps a b w m):∀ {m':Int} {w':List Int},Climb ps a b w' m' → w = w' ∧ m = m':=by
  induction h with
  | same a => intro m' w' h; cases h with | same => exact ⟨rfl,rfl⟩ | left h _ => (first|lia|omega) | right h _ => (first|lia|omega)
  | left hlt hc ih => intro m' w' h; cases h with | same => (first|lia|omega) | left _ h => have:=ih h; exact ⟨by rw [this.1],this.2⟩ | right h _ => (first|lia|omega)
  | right hlt hc ih => intro m' w' h; cases h with | same => (first|lia|omega) | right _ h => have:=ih h; exact ⟨by rw [this.1],this.2⟩ | left h _ => (first|lia|omega)
structure Ends2 (ps:List Int) (a b:Int):Prop where
  a0 : 0 ≤ a
  a1:a ≤ ps.length
  b0 : 0 ≤ b
  b1:b ≤ ps.length
  ne:a ≠ b
def sdPlace:SpD:=fun ds q => ∃ ps rs d,ds = [dPair ps rs,d] ∧ d.isS = false ∧ q (.bl (btw 0 ps.length d)) []
def sdLookEnds:SpD:=fun ds q => ∃ ps rs a b,ds = [dPair ps rs,.int a,.int b] ∧ Tree ps rs ∧ Ends2 ps a b ∧ q .non []
def sdClimb:SpD:=fun ds q => ∃ ps rs a b,ds = [dPair ps rs,.int a,.int b] ∧ Tree ps rs ∧ 0 ≤ a ∧ a ≤ ps.length ∧ 0 ≤ b ∧ b ≤ ps.length ∧ ∀ w m,Climb ps a b w m → q (.tup [dInts (sortZ w),.int m]) []
def sdWay:SpD:=fun ds q => ∃ ps rs a b,ds = [dPair ps rs,.int a,.int b] ∧ Tree ps rs ∧ Ends2 ps a b ∧ ∀ w m,Climb ps a b w m → q (dInts (sortZ w)) []
theorem ints_snoc (ps:List Int) (y:Int):D.lst (ps.map D.int ++ [D.int y]) = dInts (ps ++ [y]):=by unfold dInts; rw [List.map_append]; rfl
theorem len_ints (ps:List Int):(ps.map D.int).length = ps.length:=List.length_map _
theorem getD_mem {ns:List Int} {k:Nat} (h:k < ns.length):ns.getD k 0 ∈ ns:=by rw [List.getD_eq_getElem?_getD,List.getElem?_eq_getElem h]; exact List.getElem_mem h
theorem snoc_at {P:Nat → Int → Prop} {ps:List Int} {y:Int} (h:∀ (j:Nat) (x:Int),ps[j]? = some x → P j x) (hy:P ps.length y):∀ (j:Nat) (x:Int),(ps ++ [y])[j]? = some x → P j x:=by
  intro j x hj
  by_cases hjl:j < ps.length
  · rw [List.getElem?_append_left hjl] at hj; exact h j x hj
  · rw [List.getElem?_append_right (by exact zo106 hjl)] at hj
    cases e:j - ps.length with
    | zero => rw [e] at hj; have:y = x:=by simpa using hj
              subst this; rw [show j = ps.length by exact zo15 hjl e]; exact hy
    | succ q => rw [e] at hj; simp at hj
theorem mem_ints {ns:List Int} {d:D} (h:d ∈ ns.map D.int):∃ x ∈ ns,d = .int x:=by
  obtain ⟨x,h1,h2⟩:=List.mem_map.mp h
  exact ⟨x,h1,h2.symm⟩
theorem okD_ints (ns:List Int):okD (dInts ns) = true:=shaped_ints ns
def lay:Nat → D → Bool
  | _,.int _ => true
  | _,.bl _ => true
  | _,.non => true
  | n + 1,.tup ds => ds.all (lay n)
  | n + 1,.lst ds => ds.all (lay n)
  | _,_ => false
theorem lay_all {n:Nat} (ih:∀ d,lay n d = true → (toP d).canLay0 = true ∧ (toP d).depth ≤ n + 1):∀ ds:List D,ds.all (lay n) = true → PyData.canLayAll0 (toPs ds) = true ∧ PyData.depthAll (toPs ds) ≤ n + 1
  | [],_ => by rw [toPs]; simp [PyData.canLayAll0,PyData.depthAll]
  | d :: ds,h => by
    rw [List.all_cons,Bool.and_eq_true] at h
    have h1:=ih d h.1
    have h2:=lay_all ih ds h.2
    rw [toPs]
    simp only [PyData.canLayAll0,PyData.depthAll,h1.1,h2.1,Bool.and_self,true_and]
    (first|lia|omega)
theorem lay_ok:∀ (n:Nat) (d:D),lay n d = true → (toP d).canLay0 = true ∧ (toP d).depth ≤ n + 1
  | n,.int _,_ => by rw [toP]; simp [PyData.canLay0,PyData.depth]
  | n,.bl _,_ => by rw [toP]; simp [PyData.canLay0,PyData.depth]
  | n,.non,_ => by rw [toP]; simp [PyData.canLay0,PyData.depth]
  | n + 1,.tup ds,h => by
    have:=lay_all (lay_ok n) ds (by simpa [lay] using h)
    rw [toP]; simp only [PyData.canLay0,PyData.depth,this.1,true_and]; (first|lia|omega)
  | n + 1,.lst ds,h => by
    have:=lay_all (lay_ok n) ds (by simpa [lay] using h)
    rw [toP]; simp only [PyData.canLay0,PyData.depth,this.1,true_and]; (first|lia|omega)
  | 0,.tup _,h => by simp [lay] at h
  | 0,.lst _,h => by simp [lay] at h
  | n,.str _,h => by cases n <;> simp [lay] at h
  | n,.dct,h => by cases n <;> simp [lay] at h
  | n,.scr _ _,h => by cases n <;> simp [lay] at h
  | n,.ext _,h => by cases n <;> simp [lay] at h
theorem okD_lay {n:Nat} {d:D} (h:lay n d = true) (hn:n ≤ 60):okD d = true:=by
  have:=lay_ok n d h
  unfold okD SeqAt.shaped
  rw [this.1,Bool.true_and]
  exact decide_eq_true (by (first|lia|omega))
theorem lay_ints0 (n:Nat) (ns:List Int):(ns.map D.int).all (lay n) = true:=by
  rw [List.all_eq_true]; intro d hd; obtain ⟨x,_,rfl⟩:=mem_ints hd; cases n <;> rfl
structure Ask where
  one:Int
  other:Int
  size:Int
  worth:Int
def dAsk (a:Ask):D:=.tup [.int a.one,.int a.other,.int a.size,.int a.worth]
def dAsks (as:List Ask):D:=.lst (as.map dAsk)
structure AskOk (ps:List Int) (a:Ask):Prop where
  ends:Ends2 ps a.one a.other
  s0 : 1 ≤ a.size
  s1:a.size ≤ 1000000
  w0 : 1 ≤ a.worth
  w1:a.worth ≤ 1000000000000
structure AsksOk (ps:List Int) (as:List Ask):Prop where
  len:as.length ≤ 30
  ok:∀ a ∈ as,AskOk ps a
theorem lay_dAsks (n:Nat) (as:List Ask):lay (n + 2) (dAsks as) = true:=by
  unfold dAsks; rw [lay,List.all_eq_true]; intro d hd
  obtain ⟨a,_,rfl⟩:=List.mem_map.mp hd
  rw [dAsk,lay]
  exact lay_ints0 n [a.one,a.other,a.size,a.worth]
theorem asks_at {as:List Ask} {i:Nat} {d:D} (h:(as.map dAsk)[i]? = some d):∃ a,as[i]? = some a ∧ d = dAsk a:=by
  rw [List.getElem?_map] at h
  cases e:as[i]? with
  | none => rw [e] at h; cases h
  | some z => rw [e] at h; exact ⟨z,rfl,(Option.some.inj h).symm⟩
def ask0:Ask:=⟨0,0,0,0⟩
theorem atI_asks {as:List Ask} {k:Int} (h0 : 0 ≤ k) (h1:k < as.length):atI (as.map dAsk) k = some (dAsk (as.getD k.toNat ask0)):=by
  have ek:k = ((k.toNat:Nat):Int):=by exact zo7 h0
  have hl:k.toNat < as.length:=by exact zo47 h1 ek
  have:atI (as.map dAsk) ((k.toNat:Nat):Int) = some (dAsk (as.getD k.toNat ask0)):=atI_nat (by rw [List.getElem?_map,List.getD_eq_getElem?_getD,List.getElem?_eq_getElem hl]; rfl)
  rw [← ek] at this
  exact this
theorem getD_ask {as:List Ask} {k:Nat} (h:k < as.length):as.getD k ask0 ∈ as:=by rw [List.getD_eq_getElem?_getD,List.getElem?_eq_getElem h]; exact List.getElem_mem h
theorem len_asks (as:List Ask):(as.map dAsk).length = as.length:=List.length_map _
def sdLookAsks:SpD:=fun ds q => ∃ ps rs as,ds = [dPair ps rs,dAsks as] ∧ Tree ps rs ∧ AsksOk ps as ∧ q .non []
def climbW (ps:List Int):Nat → Int → Int → List Int
  | 0,_,_ => []
  | f + 1,a,b => if b < a then a :: climbW ps f b (parZ ps a) else if a < b then b :: climbW ps f a (parZ ps b) else []
def climbM (ps:List Int):Nat → Int → Int → Int
  | 0,a,_ => a
  | f + 1,a,b => if b < a then climbM ps f b (parZ ps a) else if a < b then climbM ps f a (parZ ps b) else a
theorem climb_is {ps rs:List Int} (hT:Tree ps rs):∀ (f:Nat) (a b:Int),(a + b).toNat ≤ f → 0 ≤ a → 0 ≤ b → a ≤ ps.length → b ≤ ps.length → Climb ps a b (climbW ps f a b) (climbM ps f a b)
  | 0,a,b,hf,a0,b0,_,_ => by
    have:a = b:=by exact zo84 hf a0 b0
    subst this
    exact .same a
  | f + 1,a,b,hf,a0,b0,a1,b1 => by
    unfold climbW climbM
    by_cases h1:b < a
    · rw [if_pos h1,if_pos h1]
      have hp:=hT.up (show 0 < a by exact zo82 a0 b0 h1) a1
      exact .left h1 (climb_is hT f b _ (by exact zo23 hf b0 h1 hp) b0 hp.1 b1 (by exact zo5 a1 hp))
    · rw [if_neg h1,if_neg h1]
      by_cases h2:a < b
      · rw [if_pos h2,if_pos h2]
        have hp:=hT.up (show 0 < b by exact zo204 a0 b0 h2) b1
        exact .right h2 (climb_is hT f a _ (by exact zo20 hf a0 h2 hp) a0 hp.1 a1 (by exact zo5 b1 hp))
      · rw [if_neg h2,if_neg h2]
        have:a = b:=by exact zo168 h1 h2
        subst this
        exact .same a
def wayZ (ps:List Int) (a b:Int):List Int:=sortZ (climbW ps 100 a b)
def meetZ (ps:List Int) (a b:Int):Int:=climbM ps 100 a b
theorem Climb.way {ps rs:List Int} (hT:Tree ps rs) {a b m:Int} {w:List Int} (h:Climb ps a b w m) (a0 : 0 ≤ a) (b0 : 0 ≤ b) (a1:a ≤ ps.length) (b1:b ≤ ps.length):sortZ w = wayZ ps a b ∧ m = meetZ ps a b:=by
  have hi:=hT.hi
  have:=h.det (climb_is hT 100 a b (by exact zo22 a1 b1 hi) a0 b0 a1 b1)
  exact ⟨by rw [this.1]; rfl,this.2⟩
theorem way_q40 {ps rs:List Int} (hT:Tree ps rs) {a b:Int} (a0 : 0 ≤ a) (b0 : 0 ≤ b) (a1:a ≤ ps.length) (b1:b ≤ ps.length):∃ w,Climb ps a b w (meetZ ps a b) ∧ wayZ ps a b = sortZ w:=by
  have hi:=hT.hi
  exact ⟨_,climb_is hT 100 a b (by exact zo22 a1 b1 hi) a0 b0 a1 b1,rfl⟩
theorem way_mem {ps rs:List Int} (hT:Tree ps rs) {a b:Int} (he:Ends2 ps a b) {x:Int} (hx:x ∈ wayZ ps a b) : 0 < x ∧ x ≤ ps.length:=by
  obtain ⟨w,hw,e⟩:=way_q40 hT he.a0 he.b0 he.a1 he.b1
  rw [e] at hx
  exact hw.mem hT he.a0 he.b0 he.a1 he.b1 x ((sortZ_perm w).mem_iff.mp hx)
def askWay (ps:List Int) (a:Ask):List Int:=wayZ ps a.one a.other
def sdWayOf:SpD:=fun ds q => ∃ ps rs a,ds = [dPair ps rs,dAsk a] ∧ Tree ps rs ∧ Ends2 ps a.one a.other ∧ q (dInts (askWay ps a)) []
structure KeepOk (n:Nat) (ks:List Int):Prop where
  up:ks.Pairwise (· < ·)
  lo:∀ k ∈ ks,0 ≤ k ∧ k < n
theorem KeepOk.len {n:Nat} {ks:List Int} (h:KeepOk n ks):ks.length ≤ n:=by
  have:∀ (l:List Int) (a:Int),l.Pairwise (· < ·) → (∀ k ∈ l,a ≤ k ∧ k < n) → 0 ≤ a → (l.length:Int) ≤ max 0 (n - a):=by
    intro l
    induction l with
    | nil => intro a _ _ _; simp; (first|lia|omega)
    | cons x r ih =>
      intro a hp hb ha
      rw [List.pairwise_cons] at hp
      have hx:=hb x (.head _)
      have:=ih (x + 1) hp.2 (fun k hk => by have h1:=hp.1 k hk; have h2:=hb k (List.mem_cons_of_mem _ hk); exact zo161 h1 h2) (by exact zo238 ha hx)
      simp; (first|lia|omega)
  have:=this ks 0 h.up (fun k hk => h.lo k hk) (Int.le_refl 0)
  (first|lia|omega)
def addT (s:Int) (l:List Int) (t:Int):List Int:=l.set (t - 1).toNat (l.getD (t - 1).toNat 0 + s)
def addW (l:List Int) (ts:List Int) (s:Int):List Int:=ts.foldl (addT s) l
theorem addT_len (s:Int) (l:List Int) (t:Int):(addT s l t).length = l.length:=by unfold addT; simp
theorem addW_len (s:Int):∀ (ts l:List Int),(addW l ts s).length = l.length
  | [],l => rfl
  | t :: ts,l => by show (addW (addT s l t) ts s).length = _; rw [addW_len s ts,addT_len]
theorem addW_snoc (l ts:List Int) (t s:Int):addW l (ts ++ [t]) s = addT s (addW l ts s) t:=by unfold addW; rw [List.foldl_append]; rfl
def loadA (ps:List Int) (as:List Ask) (l:List Int) (k:Int):List Int:=addW l (askWay ps (as.getD k.toNat ask0)) (as.getD k.toNat ask0).size
def loadsZ (ps:List Int) (as:List Ask) (ks:List Int):List Int:=ks.foldl (loadA ps as) (List.replicate ps.length 0)
theorem loadsZ_len (ps:List Int) (as:List Ask) (ks:List Int):(loadsZ ps as ks).length = ps.length:=by
  have:∀ (ks l:List Int),(ks.foldl (loadA ps as) l).length = l.length:=by
    intro ks
    induction ks with
    | nil => intro l; rfl
    | cons k r ih => intro l; rw [List.foldl_cons,ih]; unfold loadA; rw [addW_len]
  unfold loadsZ; rw [this]; simp
theorem loadsZ_snoc (ps:List Int) (as:List Ask) (ks:List Int) (k:Int):loadsZ ps as (ks ++ [k]) = loadA ps as (loadsZ ps as ks) k:=by unfold loadsZ; rw [List.foldl_append]; rfl
def sdLoadWith:SpD:=fun ds q => ∃ ps rs a l,ds = [dPair ps rs,dAsk a,dInts l] ∧ Tree ps rs ∧ Ends2 ps a.one a.other ∧ l.length = ps.length ∧ q (dInts (addW l (askWay ps a) a.size)) []
def overZ (ld rs:List Int):List Int:=((List.range ld.length).filter fun k => decide (ld.getD k 0 > rs.getD k 0)).map fun (k:Nat) => (k:Int) + 1
def firstD (ld rs:List Int):D:=match overZ ld rs with
  | [] => .non
  | x :: _ => .int x
theorem first_over_at {ld rs:List Int} {i:Nat} (hi:i < ld.length) (h:ld.getD i 0 > rs.getD i 0) (hj:∀ j:Nat,j < i → ¬ ld.getD j 0 > rs.getD j 0):∃ r,overZ ld rs = ((i:Int) + 1) :: r:=by
  obtain ⟨m,hm⟩:∃ m,ld.length = i + (m + 1):=⟨ld.length - i - 1,by exact zo93 hi⟩
  unfold overZ
  rw [hm,List.range_add,List.range_succ_eq_map,List.map_cons,List.filter_append,List.filter_eq_nil_iff.mpr (fun k hk => by simpa using hj k (List.mem_range.mp hk)),List.nil_append,Nat.add_zero,List.filter_cons_of_pos (by simpa using h)]
  exact ⟨_,rfl⟩
def worthZ (as:List Ask) (ks:List Int):Int:=(ks.map fun k => (as.getD k.toNat ask0).worth).sum
theorem rep_flat (n:Nat) (d:D):(List.replicate n [d]).flatten = List.replicate n d:=by
  induction n with
  | zero => rfl
  | succ n ih => rw [List.replicate_succ,List.flatten_cons,ih,List.replicate_succ]; rfl
theorem rep_ints0 (n:Nat) (x:Int):List.replicate n (D.int x) = (List.replicate n x).map D.int:=by rw [List.map_replicate]
theorem ixN_nat {n:Nat} {k:Int} (h0 : 0 ≤ k) (h1:k < n):ixN n k = some k.toNat:=by unfold ixN; rw [if_pos h0,if_pos h1]
theorem set_dInts (l:List Int) (i:Nat) (x:Int):D.lst ((l.map D.int).set i (.int x)) = dInts (l.set i x):=by unfold dInts; rw [List.map_set]
theorem other_ends {ps:List Int} {a r:Int} (a0 : 0 ≤ a) (a1:a < 1 + (ps.length:Int)) (r0 : 0 ≤ r) (r1:r < ps.length):Ends2 ps a ((a + 1 + r) % (1 + (ps.length:Int))):=by
  refine ⟨a0,by exact zo116 a1,Int.emod_nonneg _ (by exact zo295),?_,?_⟩
  · have:=Int.emod_lt_of_pos (a + 1 + r) (show 0 < 1 + (ps.length:Int) by exact zo287); exact zo116 this
  · intro he
    by_cases hlt:a + 1 + r < 1 + (ps.length:Int)
    · rw [Int.emod_eq_of_lt (by exact zo177 a0 r0 he) hlt] at he; exact zo278 r0 he
    · have e:(a + 1 + r) % (1 + (ps.length:Int)) = a + 1 + r - (1 + (ps.length:Int)):=by
        rw [← Int.sub_emod_right,Int.emod_eq_of_lt (by exact zo155 he hlt) (by exact zo125 a1 r1 he)]
      exact zo166 r1 he e
section
variable {X:Cx}
end
section
variable {X:Cx} {M:Md} {e:Expr} {ma:ME} {pos:Pos}
end
section
variable {X:Cx}
variable {ow:List Bool} {e:Expr} {ma:ME}
end
section
variable {X:Cx}
variable {ow:List Bool} {e:Expr} {ma:ME} {pos p1 p2 p3:Pos}
end
end L2
namespace L2
open PySem
end L2
namespace L2
open PySem PySem.Spec PyProof.Rows
section
variable {prog:Program} {w:World} {A:Around} {E:Value → Shared → Prop} {s:Shared}
end
section
variable {X:Cx} {M:Md} {e:Expr} {es:List Expr} {mgs:MGs} {pos:Pos}
end
section
variable {X:Cx} {M:Md} {pos:Pos}
end
def Itz (a b:Addr):It :=
  ⟨fun i H => ∃ xs ys x y,H a = some (.lst xs) ∧ H b = some (.lst ys) ∧ xs[i]? = some x ∧ ys[i]? = some y,
   fun i H v H' => ∃ p x y,H p = none ∧ v = .ref p ∧ H' = upd H p (.tup [x,y]) ∧ (∀ xs,H a = some (.lst xs) → xs[i]? = some x) ∧ ∀ ys,H b = some (.lst ys) → ys[i]? = some y,
   fun i H => ∃ xs ys,H a = some (.lst xs) ∧ H b = some (.lst ys) ∧ (xs.length ≤ i ∨ ys.length ≤ i)⟩
theorem mem5 {c a1 a2 a3 a4 a5:Addr} (h:c ∈ [a1,a2,a3,a4,a5]):c = a1 ∨ c = a2 ∨ c = a3 ∨ c = a4 ∨ c = a5:=by simpa using h
theorem mem4 {c a1 a2 a3 a4:Addr} (h:c ∈ [a1,a2,a3,a4]):c = a1 ∨ c = a2 ∨ c = a3 ∨ c = a4:=by simpa using h
theorem nmem4 {c a1 a2 a3 a4:Addr} (h:c ∉ [a1,a2,a3,a4]):c ≠ a1 ∧ c ≠ a2 ∧ c ≠ a3 ∧ c ≠ a4:=by simpa using h
theorem nd5 {z TI TO i1 i2:Addr} (h : [z,TI,TO,i1,i2].Nodup):(z ≠ TI ∧ z ≠ TO ∧ z ≠ i1 ∧ z ≠ i2) ∧ (TI ≠ TO ∧ TI ≠ i1 ∧ TI ≠ i2) ∧ (TO ≠ i1 ∧ TO ≠ i2) ∧ i1 ≠ i2:=by simpa using h
theorem allmem5 {z TI TO i1 i2:Addr}:z ∈ [z,TI,TO,i1,i2] ∧ TI ∈ [z,TI,TO,i1,i2] ∧ TO ∈ [z,TI,TO,i1,i2] ∧ i1 ∈ [z,TI,TO,i1,i2] ∧ i2 ∈ [z,TI,TO,i1,i2]:=by simp
structure ZipSt (z TI TO i1 i2 a b:Addr) (i:Nat) (h:Heap):Prop where
  hz:IsZip h z TI TO .none
  ti:IsPair h TI (.ref i1) (.ref i2)
  to:∃ x y,IsPair h TO x y
  t1:h.IsListIter i1 a i
  t2:h.IsListIter i2 b i
theorem turn_zip {P:Program} {w:World} {K:PySem.W.Frag} {es:List Expr} {k:Nat} {pos:Pos} (a b z TI TO i1 i2:Addr) (nd : [z,TI,TO,i1,i2].Nodup) :
    Turn P w K (.Tuple es k pos) (Itz a b) [z,TI,TO,i1,i2] z (ZipSt z TI TO i1 i2 a b) where
  mem:=allmem5.1
  obj:=fun i h st c hc => by
    obtain ⟨hz,ti,⟨x,y,to⟩,⟨o1,e1,c1,d1⟩,⟨o2,e2,c2,d2⟩⟩:=st
    rcases mem5 hc with rfl | rfl | rfl | rfl | rfl
    · exact ⟨_,hz,fun v q => by cases q⟩
    · exact ⟨_,ti,fun v q => by cases q⟩
    · exact ⟨_,to,fun v q => by cases q⟩
    · exact ⟨o1,e1,fun v q => by rw [d1] at q; cases q⟩
    · exact ⟨o2,e2,fun v q => by rw [d2] at q; cases q⟩
  keep:=fun i h h' st kp => by
    obtain ⟨m1,m2,m3,m4,m5⟩:=allmem5 (z:=z) (TI:=TI) (TO:=TO) (i1:=i1) (i2:=i2)
    obtain ⟨x,y,q⟩:=st.to
    exact ⟨kp z m1 _ st.hz,kp TI m2 _ st.ti,⟨x,y,kp TO m3 _ q⟩,st.t1.at fun o q => kp i1 m4 o q,st.t2.at fun o q => kp i2 m5 o q⟩
  item:=by
    intro X hP hw hK hc i pins s σ H E I hf st hg
    subst hP hw hK
    obtain ⟨xs,ys,x,y,hq1,hq2,hx,hy⟩:=hg
    obtain ⟨hz,ti,⟨ox,oy,to⟩,t1,t2⟩:=st
    obtain ⟨its1,rv1,p1,hz1⟩:=I.list (SqL.of hq1)
    obtain ⟨its2,rv2,p2,hz2⟩:=I.list (SqL.of hq2)
    obtain ⟨u,hu,ru⟩:=rv1.get hx
    obtain ⟨v,hv,rv⟩:=rv2.get hy
    obtain ⟨m1,m2,m3,m4,m5⟩:=allmem5 (z:=z) (TI:=TI) (TO:=TO) (i1:=i1) (i2:=i2)
    have fz:=hf z m1; have fO:=hf TO m3; have f1:=hf i1 m4; have f2:=hf i2 m5
    obtain ⟨⟨n1,n2,n3,n4⟩,⟨n5,n6,n7⟩,⟨n8,n9⟩,n10⟩:=nd5 nd
    have la:∀ {c:Addr},H c = none → a ≠ c:=fun h => ne_of_none hq1 h
    have lb:∀ {c:Addr},H c = none → b ≠ c:=fun h => ne_of_none hq2 h
    have AP:ZipApart z TI TO i1 i2 a b:=⟨Ne.symm n1,Ne.symm n2,Ne.symm n3,Ne.symm n4,n5,n6,n7,n8,n9,n10,la fz.1,la fO.1,la f1.1,la f2.1,lb fz.1,lb fO.1,lb f1.1,lb f2.1⟩
    refine wpAny_pyNext_zip_item AP hz ti to t1 t2 p1.isList p2.isList (x:=u) (y:=v) (by simpa using hu) (by simpa using hv) fun h' zo to' t1' t2' ht hsz hk => ?_
    refine ⟨.ref s.heap.objs.size,rfl,?_⟩
    refine wpAny_letOwnedTupleGo_zip zo fun h2 he2 hs2 => ?_
    have fr:H s.heap.objs.size = none:=I.hok.fresh (Nat.le_refl _)
    have ne2:∀ b,b < s.heap.objs.size → b ≠ s.heap.objs.size:=fun b hb => Nat.ne_of_lt hb
    have ee:z < s.heap.objs.size:=Heap.lt_size hz
    have k2:∀ c o,c ≠ z → c ≠ TO → c ≠ i1 → c ≠ i2 → s.heap.get? c = some o → h2.get? c = some o:=fun c o c1 c2 c3 c4 q => (hs2.2 c c1).trans (hk c o c1 c2 c3 c4 q)
    have ht2:h2.get? s.heap.objs.size = some { cls:=.type "tuple",data:=.seq #[u,v] }:=(hs2.2 _ (Nat.ne_of_gt ee)).trans ht
    have trk:∀ c o,H c = some o → c ≠ z ∧ c ≠ TO ∧ c ≠ i1 ∧ c ≠ i2:=fun c o q => ⟨ne_of_none q fz.1,ne_of_none q fO.1,ne_of_none q f1.1,ne_of_none q f2.1⟩
    have hok0:HOk X.prog X.w H h2:=fun c o q => (I.hok c o q).stay (fun d v' hc q' => by
      rcases hc with rfl | hc
      · obtain ⟨z1,z2,z3,z4⟩:=trk d _ q; exact k2 d v' z1 z2 z3 z4 q'
      · obtain ⟨z1,z2,z3,z4⟩:=trk d _ hc; exact k2 d v' z1 z2 z3 z4 q') (fun _ z => z) fun _ _ z => z
    have I1:Inv X pins σ (upd H s.heap.objs.size (.tup [x,y])) { s with heap:=h2,toks:=s.toks }:=by
      refine I.step (g':=s.gens) (d':=s.drawn) (ch:=[z,TO,i1,i2]) (fun c hc => ?_) (fun c o _ _ hc q _ => by obtain ⟨z1,z2,z3,z4⟩:=nmem4 hc; exact k2 c o z1 z2 z3 z4 q) (fun c o _ _ hc q _ => by obtain ⟨z1,z2,z3,z4⟩:=nmem4 hc; exact ⟨o.slots,k2 c o z1 z2 z3 z4 q⟩)
        (fun c o _ q n => by rw [upd_ne (ne2 c (Heap.lt_size q))]; exact n) (fun c o hc q => by obtain ⟨z1,z2,z3,z4⟩:=nmem4 hc; exact ⟨o,k2 c o z1 z2 z3 z4 q⟩) (fun c ys q => by rw [upd_ne (ne_of_none q fr)]; exact q) (fun c o v q => by rw [upd_ne (ne_of_none q fr)]; exact q)
        (fun c ps q => ⟨#[],by rw [upd_ne (ne_of_none q fr),q]; simp⟩) (fun m hm => ?_) ?_ I.bare
      · rcases mem4 hc with rfl | rfl | rfl | rfl
        · exact ⟨fz.2.2.2.1,fz.2.1,fz.2.2.2.2.1,fz.2.2.2.2.2⟩
        · exact ⟨fO.2.2.2.1,fO.2.1,fO.2.2.2.2.1,fO.2.2.2.2.2⟩
        · exact ⟨f1.2.2.2.1,f1.2.1,f1.2.2.2.2.1,f1.2.2.2.2.2⟩
        · exact ⟨f2.2.2.2.1,f2.2.1,f2.2.2.2.2.1,f2.2.2.2.2.2⟩
      · obtain ⟨o,es',ep,ho,r⟩:=hm
        exact ⟨o,es',ep,k2 _ o (Ne.symm fz.2.1) (Ne.symm fO.2.1) (Ne.symm f1.2.1) (Ne.symm f2.2.1) ho,r⟩
      · exact hok0.adopt fr ⟨by show 2 ≤ sizeLine; decide,[u,v],.cons ru (.cons rv .nil),⟨_,ht2,rfl,_,rfl⟩⟩
    have lt:∀ c ∈ [z,TI,TO,i1,i2],c < s.heap.objs.size:=fun c hc => by
      rcases mem5 hc with rfl | rfl | rfl | rfl | rfl
      · exact ee
      · exact Heap.lt_size ti
      · exact Heap.lt_size to
      · obtain ⟨o,q,_⟩:=t1; exact Heap.lt_size q
      · obtain ⟨o,q,_⟩:=t2; exact Heap.lt_size q
    refine ⟨.ref s.heap.objs.size,_,I1,rfl,⟨_,x,y,fr,rfl,rfl,fun ws hw => by rw [hq1] at hw; cases hw; exact hx,fun ws hw => by rw [hq2] at hw; cases hw; exact hy⟩,⟨he2,(hs2.2 _ (Ne.symm n1)).trans (hk TI _ (Ne.symm n1) n5 n6 n7 ti),⟨_,_,(hs2.2 _ (Ne.symm n2)).trans to'⟩,t1'.extBut hs2.extBut (Ne.symm n3),t2'.extBut hs2.extBut (Ne.symm n4)⟩,fun c hc => ?_⟩
    rw [upd_ne (ne2 c (lt c hc))]
    exact (hf c hc).1
  done:=by
    intro X hP hw hK hc i pins s σ H E I hf st hg
    subst hP hw hK
    obtain ⟨xs,ys,hq1,hq2,hend⟩:=hg
    obtain ⟨hz,ti,⟨ox,oy,to⟩,t1,t2⟩:=st
    obtain ⟨its1,rv1,p1,hz1⟩:=I.list (SqL.of hq1)
    obtain ⟨its2,rv2,p2,hz2⟩:=I.list (SqL.of hq2)
    obtain ⟨m1,m2,m3,m4,m5⟩:=allmem5 (z:=z) (TI:=TI) (TO:=TO) (i1:=i1) (i2:=i2)
    have fz:=hf z m1; have fO:=hf TO m3; have f1:=hf i1 m4; have f2:=hf i2 m5
    obtain ⟨⟨n1,n2,n3,n4⟩,⟨n5,n6,n7⟩,⟨n8,n9⟩,n10⟩:=nd5 nd
    have la:∀ {c:Addr},H c = none → a ≠ c:=fun h => ne_of_none hq1 h
    have lb:∀ {c:Addr},H c = none → b ≠ c:=fun h => ne_of_none hq2 h
    have AP:ZipApart z TI TO i1 i2 a b:=⟨Ne.symm n1,Ne.symm n2,Ne.symm n3,Ne.symm n4,n5,n6,n7,n8,n9,n10,la fz.1,la fO.1,la f1.1,la f2.1,lb fz.1,lb fO.1,lb f1.1,lb f2.1⟩
    have l1:=rv1.length
    have l2:=rv2.length
    refine wpAny_pyNext_zip_end (I.ok.hd hc) AP hz ti to t1 t2 p1.isList p2.isList (by rcases hend with h | h; exact .inl (by simp; exact zo71 l1 h); exact .inr (by simp; exact zo71 l2 h)) fun h' hk => ⟨rfl,?_⟩
    have trk:∀ c o,H c = some o → c ≠ z ∧ c ≠ TO ∧ c ≠ i1 ∧ c ≠ i2:=fun c o q => ⟨ne_of_none q fz.1,ne_of_none q fO.1,ne_of_none q f1.1,ne_of_none q f2.1⟩
    refine I.step (g':=s.gens) (d':=s.drawn) (t':=s.toks) (ch:=[z,TO,i1,i2]) (fun c hc => ?_) (fun c o _ _ hc q _ => by obtain ⟨z1,z2,z3,z4⟩:=nmem4 hc; exact hk c o z1 z2 z3 z4 q) (fun c o _ _ hc q _ => by obtain ⟨z1,z2,z3,z4⟩:=nmem4 hc; exact ⟨o.slots,hk c o z1 z2 z3 z4 q⟩)
      (fun _ _ _ _ n => n) (fun c o hc q => by obtain ⟨z1,z2,z3,z4⟩:=nmem4 hc; exact ⟨o,hk c o z1 z2 z3 z4 q⟩) (fun _ _ e => e) (fun _ _ _ e => e) (fun c ps e => ⟨#[],by rw [e]; simp⟩) (fun m hm => ?_) (fun c o q => ?_) I.bare
    · rcases mem4 hc with rfl | rfl | rfl | rfl
      · exact ⟨fz.2.2.2.1,fz.2.1,fz.2.2.2.2.1,fz.2.2.2.2.2⟩
      · exact ⟨fO.2.2.2.1,fO.2.1,fO.2.2.2.2.1,fO.2.2.2.2.2⟩
      · exact ⟨f1.2.2.2.1,f1.2.1,f1.2.2.2.2.1,f1.2.2.2.2.2⟩
      · exact ⟨f2.2.2.2.1,f2.2.1,f2.2.2.2.2.1,f2.2.2.2.2.2⟩
    · obtain ⟨o,es',ep,ho,r⟩:=hm
      exact ⟨o,es',ep,hk _ o (Ne.symm fz.2.1) (Ne.symm fO.2.1) (Ne.symm f1.2.1) (Ne.symm f2.2.1) ho,r⟩
    · refine (I.hok c o q).stay (fun d v' hc q' => ?_) (fun _ z => z) fun _ _ z => z
      rcases hc with rfl | hc
      · obtain ⟨z1,z2,z3,z4⟩:=trk d _ q; exact hk d v' z1 z2 z3 z4 q'
      · obtain ⟨z1,z2,z3,z4⟩:=trk d _ hc; exact hk d v' z1 z2 z3 z4 q'
  self:=fun _ _ _ _ _ st h => wpAny_pyIter_zip st.hz h
section
variable {X:Cx} {es:List Expr} {k:Nat} {tpos:Pos}
def iZip (ta:TA):TI:=fun σ H R => ta σ H fun vs H1 => ∃ a b,vs = [.ref a,.ref b] ∧ (∃ xs,H1 a = some (.lst xs)) ∧ (∃ ys,H1 b = some (.lst ys)) ∧ R (Itz a b) H1
theorem pi_zip {l m:Expr} {ta:TA} {p pos:Pos} (hg:Gl X "zip") (hm:X.mg "zip" = none) (ha:PA X [l,m] ta) (hs:starEach [l,m] X.env = [(false,eval l X.env),(false,eval m X.env)]:=by rfl) (hs2:(backTo pos (starEach [m] X.env)).any (·.1) = false:=by rfl) (hs3:starEach [l,m] X.env = (false,eval l X.env) :: starEach [m] X.env:=by rfl):PI X (.Tuple es k tpos) (.Call (.Name "zip" p) [l,m] [] pos) (iZip ta):=by
  refine ⟨fun pins s σ H R I h => ?_⟩
  refine wpAny_Call_Name_kw (ld_blt I hg hm bt_zip ?_)
  refine PyProof.Rows.callWith_type1 (thn (ha pos pins s σ H _ I h) fun us s1 ⟨vs,H1,I1,r1,a,b,e,⟨xs,hx⟩,⟨ys,hy⟩,q⟩ => ?_) hs3 hs2
  subst e
  obtain ⟨u,v,rfl,ru,rv⟩:=vals2 r1
  cases ru; cases rv
  obtain ⟨its1,rv1,p1,_⟩:=I1.list (SqL.of hx)
  obtain ⟨its2,rv2,p2,_⟩:=I1.list (SqL.of hy)
  refine call_zip_2 p1.isList p2.isList fun h' hz ti to t1 t2 hsz hk => ?_
  have I2:Inv X pins σ H1 { s1 with heap:=h' }:=I1.kept (t':=s1.toks) hk
  have nd : [s1.heap.objs.size + 4,s1.heap.objs.size + 2,s1.heap.objs.size + 3,s1.heap.objs.size,s1.heap.objs.size + 1].Nodup:=by
    simp only [List.nodup_cons,List.mem_cons,List.not_mem_nil,or_false,not_or,not_false_eq_true,List.nodup_nil,and_true]
    refine ⟨⟨?_,?_,?_,?_⟩,⟨?_,?_,?_⟩,⟨?_,?_⟩,?_⟩ <;> (first|lia|omega)
  refine wpAny_pyIter_zip hz ⟨s1.heap.objs.size + 4,_,_,Itz a b,H1,rfl,I2,turn_zip a b _ _ _ _ _ nd,⟨hz,ti,⟨_,_,to⟩,t1,t2⟩,fun c hc => ?_,q⟩
  have hc':s1.heap.objs.size ≤ c:=by
    rcases mem5 hc with rfl | rfl | rfl | rfl | rfl
    · exact Nat.le_add_right _ 4
    · exact Nat.le_add_right _ 2
    · exact Nat.le_add_right _ 3
    · exact Nat.le_refl _
    · exact Nat.le_add_right _ 1
  exact I1.fpOk (H':=H1) hc' (I1.hok.fresh hc')
variable {ow:List Bool} {a b:Expr} {mr:MA} {pos:Pos}
def zipD (ds es:List D):List D:=List.zipWith (fun a b => .tup [a,b]) ds es
theorem zipD_at {ds es:List D} {i:Nat} {d:D} (h:(zipD ds es)[i]? = some d):∃ x y,ds[i]? = some x ∧ es[i]? = some y ∧ d = .tup [x,y]:=by
  unfold zipD at h
  rw [List.getElem?_zipWith] at h
  cases e1:ds[i]? with
  | none => rw [e1] at h; cases h
  | some x =>
    cases e2:es[i]? with
    | none => rw [e1,e2] at h; cases h
    | some y => rw [e1,e2] at h; exact ⟨x,y,rfl,rfl,(Option.some.inj h).symm⟩
theorem itz_ok {G:Hp} {p q:Addr} {xs ys:List V} {ds es:List D} (h1:G p = some (.lst xs)) (h2:Reps G ds xs) (h3:G q = some (.lst ys)) (h4:Reps G es ys):ItOk (Itz p q) G (zipD ds es):=fun C ow G' ρ σ H pd i z r => by
  have hp:=r.gh _ _ (z _ _ h1)
  have hq:=r.gh _ _ (z _ _ h3)
  refine ⟨fun hl => ⟨xs,ys,hp,hq,?_⟩,fun d e => ?_⟩
  · rw [h2.length,h4.length]
    unfold zipD at hl
    rw [List.length_zipWith] at hl
    (first|lia|omega)
  · obtain ⟨x,y,e1,e2,rfl⟩:=zipD_at e
    obtain ⟨v,g1,g2⟩:=reps_get h2 e1
    obtain ⟨u,g3,g4⟩:=reps_get h4 e2
    refine ⟨⟨xs,ys,v,u,hp,hq,g1,g3⟩,fun w H' hy => ?_⟩
    obtain ⟨t,x',y',ht,rfl,rfl,hy1,hy2⟩:=hy
    have z1:=hy1 xs hp
    rw [g1] at z1; cases z1
    have z2:=hy2 ys hq
    rw [g3] at z2; cases z2
    obtain ⟨O,r⟩:=r
    obtain ⟨r2,s2⟩:=r.new ht (.tup [v,u])
    exact ⟨_,s2,⟨O,r2⟩,rep_tup upd_same (reps_cons (Rep.mono (z.trans s2) _ _ g2) (reps_cons (Rep.mono (z.trans s2) _ _ g4) reps_nil))⟩
def miZip (m:MA):MA:=fun ρ q => m ρ fun ds ρ' => match ds with
  | [.lst ds,.lst es] => q (zipD ds es) ρ'
  | _ => False
theorem qi_zip {p:Pos} (hg:Gl X "zip") (hm:X.mg "zip" = none) (ha:QA X ow [a,b] mr) (hs:starEach [a,b] X.env = [(false,eval a X.env),(false,eval b X.env)]:=by rfl) (hs2:(backTo pos (starEach [b] X.env)).any (·.1) = false:=by rfl) (hs3:starEach [a,b] X.env = (false,eval a X.env) :: starEach [b] X.env:=by rfl):QI X ow (.Tuple es k tpos) (.Call (.Name "zip" p) [a,b] [] pos) (miZip mr):=by
  obtain ⟨t,p,s⟩:=ha
  refine ⟨_,pi_zip hg hm p hs hs2 hs3,fun C G ρ σ H pd q Q r hm k => s C G ρ σ H pd _ _ r hm fun ds ρ' vs G' H' hq z kp r' p hn => ?_⟩
  split at hq
  · obtain ⟨v,u,rfl,p1,p2⟩:=reps_two p
    obtain ⟨a1,xs,rfl,h1,h2⟩:=rep_lst_of p1
    obtain ⟨a2,ys,rfl,h3,h4⟩:=rep_lst_of p2
    exact ⟨a1,a2,rfl,⟨xs,r'.gh _ _ h1⟩,⟨ys,r'.gh _ _ h3⟩,k _ ρ' G' H' _ hq z kp r' (itz_ok h1 h2 h3 h4)⟩
  · exact hq.elim
end
end L2
namespace L2
open PySem
def dQ (r:Rat):D:=.tup [.int r.num,.int r.den]
def dQs (rs:List Rat):D:=.lst (rs.map dQ)
theorem gcdP_eq {t b:Int} (hb : 0 < b):gcdP t b = (b.gcd t:Int):=by
  unfold gcdP; rw [if_neg (by exact zo57 hb),Int.gcd_comm]
theorem quo_num {t b:Int} (hb : 0 < b):t / gcdP t b = (Rat.divInt t b).num:=by
  rw [Rat.num_divInt,Int.sign_eq_one_of_pos hb,Int.one_mul,gcdP_eq hb]
theorem quo_den {t b:Int} (hb : 0 < b):b / gcdP t b = ((Rat.divInt t b).den:Int):=by
  rw [Rat.den_divInt,if_neg (by exact zo57 hb),gcdP_eq hb]
  have:(b.natAbs:Int) = b:=by (first|lia|omega)
  rw [Int.natCast_ediv,this]
theorem den_posI (r:Rat):(0:Int) < r.den:=by have:=r.den_pos; exact zo18 this
theorem div_nd (r:Rat):Rat.divInt r.num r.den = r:=Rat.num_divInt_den r
structure Bt (r:Rat) (n:Nat):Prop where
  num:r.num.natAbs < 2 ^ n
  den:r.den < 2 ^ n
theorem two_le {m n:Nat} (h:m ≤ n):(2:Nat) ^ m ≤ 2 ^ n:=Nat.pow_le_pow_right (by decide) h
theorem Bt.mono {r:Rat} {m n:Nat} (h:Bt r m) (hm:m ≤ n):Bt r n:=⟨Nat.lt_of_lt_of_le h.num (two_le hm),Nat.lt_of_lt_of_le h.den (two_le hm)⟩
theorem Bt.smN {r:Rat} {m:Nat} (h:Bt r m) (hm:m ≤ 8000):Sm r.num:=Nat.lt_of_lt_of_le h.num (two_le hm)
theorem Bt.smD {r:Rat} {m:Nat} (h:Bt r m) (hm:m ≤ 8000):Sm (r.den:Int):=by
  show ((r.den:Int)).natAbs < _
  rw [Int.natAbs_natCast]; exact Nat.lt_of_lt_of_le h.den (two_le hm)
theorem ediv_abs {a b:Int} (hb : 0 < b):(a / b).natAbs ≤ a.natAbs:=by
  have h1:=Int.ediv_mul_le a (show b ≠ 0 by exact zo31 hb)
  have h2:=Int.lt_ediv_add_one_mul_self a hb
  rcases Int.lt_or_le a 0 with h | h
  · have h3:a ≤ a / b:=by
      rcases Int.lt_or_le (a / b) a with z | z
      · exfalso
        have:(a / b + 1) * b ≤ (a / b + 1) * 1:=Int.mul_le_mul_of_nonpos_left (by exact zo196 h z) (by exact zo286 hb)
        exact zo162 h2 z this
      · exact z
    have h4:a / b < 0:=Int.ediv_neg_of_neg_of_pos h hb
    (first|lia|omega)
  · have:=Int.ediv_nonneg h (show 0 ≤ b by exact zo119 hb)
    have:=Int.ediv_le_self b h
    (first|lia|omega)
theorem divInt_bd {t b:Int} (hb : 0 < b):(Rat.divInt t b).num.natAbs ≤ t.natAbs ∧ (Rat.divInt t b).den ≤ b.natAbs:=by
  have g:=gcdP_pos (n:=t) hb
  constructor
  · rw [← quo_num hb]; exact ediv_abs g
  · have e:=quo_den (t:=t) hb
    have:=ediv_abs (a:=b) g
    (first|lia|omega)
theorem Bt.divInt {t b:Int} {n:Nat} (hb : 0 < b) (h1:t.natAbs < 2 ^ n) (h2:b.natAbs < 2 ^ n):Bt (Rat.divInt t b) n:=by
  have:=divInt_bd (t:=t) hb
  exact ⟨by exact zo181 h1 this,by exact zo172 h2 this⟩
theorem add_eq (r s:Rat):r + s = Rat.divInt (r.num * s.den + s.num * r.den) (r.den * s.den):=by
  have h:=Rat.divInt_add_divInt r.num s.num (d₁:=r.den) (d₂:=s.den) (by have:=den_posI r; exact zo58 this) (by have:=den_posI s; exact zo58 this)
  rw [div_nd,div_nd] at h; exact h
theorem sub_eq (r s:Rat):r - s = Rat.divInt (r.num * s.den - s.num * r.den) (r.den * s.den):=by
  have h:=Rat.divInt_sub_divInt r.num s.num (d₁:=r.den) (d₂:=s.den) (by have:=den_posI r; exact zo58 this) (by have:=den_posI s; exact zo58 this)
  rw [div_nd,div_nd] at h; exact h
theorem mul_eq (r s:Rat):r * s = Rat.divInt (r.num * s.num) (r.den * s.den):=by
  have h:=Rat.divInt_mul_divInt r.num s.num (d₁:=r.den) (d₂:=s.den)
  rw [div_nd,div_nd] at h; exact h
theorem abs_mulI (a b:Int):(a * b).natAbs = a.natAbs * b.natAbs:=Int.natAbs_mul a b
theorem lt_mul_pow {a b m n:Nat} (h1:a < 2 ^ m) (h2:b < 2 ^ n):a * b < 2 ^ (m + n):=by
  rw [Nat.pow_add]
  exact Nat.mul_lt_mul_of_lt_of_le h1 (Nat.le_of_lt h2) (Nat.pow_pos (by decide))
theorem den_mul_pos (r s:Rat):(0:Int) < r.den * s.den:=Int.mul_pos (den_posI r) (den_posI s)
theorem Bt.add {r s:Rat} {m n:Nat} (h1:Bt r m) (h2:Bt s n):Bt (r + s) (m + n + 1):=by
  rw [add_eq]
  have e1:(r.num * s.den).natAbs < 2 ^ (m + n):=by rw [abs_mulI,Int.natAbs_natCast]; exact lt_mul_pow h1.num h2.den
  have e2:(s.num * r.den).natAbs < 2 ^ (m + n):=by rw [abs_mulI,Int.natAbs_natCast,Nat.mul_comm]; exact lt_mul_pow h1.den h2.num
  have e3:((r.den:Int) * s.den).natAbs < 2 ^ (m + n):=by rw [abs_mulI,Int.natAbs_natCast,Int.natAbs_natCast]; exact lt_mul_pow h1.den h2.den
  have e4:(2:Nat) ^ (m + n + 1) = 2 ^ (m + n) + 2 ^ (m + n):=by rw [Nat.pow_succ]; exact zo89
  exact Bt.divInt (den_mul_pos r s) (Nat.lt_of_le_of_lt (Int.natAbs_add_le _ _) (by rw [e4]; exact Nat.add_lt_add e1 e2)) (Nat.lt_of_lt_of_le e3 (by rw [e4]; exact Nat.le_add_left _ _))
theorem Bt.sub {r s:Rat} {m n:Nat} (h1:Bt r m) (h2:Bt s n):Bt (r - s) (m + n + 1):=by
  rw [sub_eq]
  have e1:(r.num * s.den).natAbs < 2 ^ (m + n):=by rw [abs_mulI,Int.natAbs_natCast]; exact lt_mul_pow h1.num h2.den
  have e2:(s.num * r.den).natAbs < 2 ^ (m + n):=by rw [abs_mulI,Int.natAbs_natCast,Nat.mul_comm]; exact lt_mul_pow h1.den h2.num
  have e3:((r.den:Int) * s.den).natAbs < 2 ^ (m + n):=by rw [abs_mulI,Int.natAbs_natCast,Int.natAbs_natCast]; exact lt_mul_pow h1.den h2.den
  have e4:(2:Nat) ^ (m + n + 1) = 2 ^ (m + n) + 2 ^ (m + n):=by rw [Nat.pow_succ]; exact zo89
  exact Bt.divInt (den_mul_pos r s) (Nat.lt_of_le_of_lt (Int.natAbs_sub_le _ _) (by rw [e4]; exact Nat.add_lt_add e1 e2)) (Nat.lt_of_lt_of_le e3 (by rw [e4]; exact Nat.le_add_left _ _))
theorem Bt.mul {r s:Rat} {m n:Nat} (h1:Bt r m) (h2:Bt s n):Bt (r * s) (m + n):=by
  rw [mul_eq]
  exact Bt.divInt (den_mul_pos r s) (by rw [abs_mulI]; exact lt_mul_pow h1.num h2.num) (by rw [abs_mulI,Int.natAbs_natCast,Int.natAbs_natCast]; exact lt_mul_pow h1.den h2.den)
theorem bt0 {n:Nat} (h : 0 < n):Bt 0 n:=⟨by show 0 < 2 ^ n; exact Nat.pow_pos (by decide),by show 1 < 2 ^ n; exact Nat.one_lt_two_pow (by exact zo101 h)⟩
theorem bt1 {n:Nat} (h : 0 < n):Bt 1 n:=⟨by show 1 < 2 ^ n; exact Nat.one_lt_two_pow (by exact zo101 h),by show 1 < 2 ^ n; exact Nat.one_lt_two_pow (by exact zo101 h)⟩
theorem btI {i:Int} {n:Nat} (h:i.natAbs < 2 ^ n) (hn : 0 < n):Bt (i:Rat) n:=⟨by rw [Rat.num_intCast]; exact h,by rw [Rat.den_intCast]; exact Nat.one_lt_two_pow (by exact zo101 hn)⟩
theorem dQ_int (i:Int):D.tup [.int i,.int 1] = dQ (i:Rat):=by unfold dQ; rw [Rat.num_intCast,Rat.den_intCast]; rfl
theorem dQ_one:D.tup [.int 1,.int 1] = dQ 1:=rfl
theorem Sm.of {i:Int} {n:Nat} (h:i.natAbs < 2 ^ n) (hn:n ≤ 8000):Sm i:=Nat.lt_of_lt_of_le h (two_le hn)
def sdGcd:SpD:=fun ds q => ∃ n b,ds = [.int n,.int b] ∧ 0 ≤ b ∧ q (.int (gcdP n b)) []
def sdFrac:SpD:=fun ds q => ∃ t b,ds = [.int t,.int b] ∧ b ≠ 0 ∧ Sm b ∧ q (dQ (Rat.divInt t b)) []
def sdMinus:SpD:=fun ds q => ∃ r s,ds = [dQ r,dQ s] ∧ Bt r 3950 ∧ Bt s 3950 ∧ q (dQ (r - s)) []
def sdTimes:SpD:=fun ds q => ∃ r s,ds = [dQ r,dQ s] ∧ Bt r 3950 ∧ Bt s 3950 ∧ q (dQ (r * s)) []
def sdUnder:SpD:=fun ds q => ∃ r s,ds = [dQ r,dQ s] ∧ Bt r 3950 ∧ Bt s 3950 ∧ q (.bl (decide (r < s))) []
def prodD (rs:List Rat):Nat:=(rs.map (·.den)).foldr (· * ·) 1
def sdSumQ:SpD:=fun ds q => ∃ (rs:List Rat) (M:Nat),ds = [dQs rs] ∧ rs.length ≤ 200 ∧ (∀ r ∈ rs,r.num.natAbs < 2 ^ 3900 ∧ r.den ∣ M) ∧ 0 < M ∧ M < 2 ^ 3900 ∧ q (dQ rs.sum) []
theorem prodD_nil:prodD [] = 1:=rfl
theorem prodD_cons (r:Rat) (rs:List Rat):prodD (r :: rs) = r.den * prodD rs:=rfl
theorem prodD_pos (rs:List Rat) : 0 < prodD rs:=by
  induction rs with
  | nil => decide
  | cons r rs ih => rw [prodD_cons]; exact Nat.mul_pos r.den_pos ih
theorem prodD_dvN {rs:List Rat} {r:Rat} (h:r ∈ rs):r.den ∣ prodD rs:=by
  induction rs with
  | nil => cases h
  | cons x rs ih =>
    rw [prodD_cons]
    rcases List.mem_cons.mp h with rfl | h
    · exact Nat.dvd_mul_right _ _
    · exact Nat.dvd_trans (ih h) (Nat.dvd_mul_left _ _)
structure Com (rs:List Rat) (M:Nat) (B:Int):Prop where
  pos : 0 < B
  dv:∀ r ∈ rs,(r.den:Int) ∣ B
  dm:B ∣ (M:Int)
theorem Com.le {rs:List Rat} {M:Nat} {B:Int} (h:Com rs M B) (hM : 0 < M):B ≤ M:=Int.le_of_dvd (by exact zo18 hM) h.dm
theorem com_nil (M:Nat):Com [] M 1:=⟨by decide,(fun r h => by cases h),⟨M,by simp⟩⟩
theorem com_snoc {rs:List Rat} {M:Nat} {B:Int} {r:Rat} (h:Com rs M B) (hr:r.den ∣ M):Com (rs ++ [r]) M (B / gcdP B r.den * r.den):=by
  have hd:=den_posI r
  have g:=gcdP_pos (n:=B) hd
  have g1:=gcdP_dl (n:=B) hd
  have g2:=gcdP_dr (n:=B) hd
  obtain ⟨n,rfl⟩:∃ n:Nat,B = n:=⟨B.toNat,by have:=h.pos; exact zo88 this⟩
  have eg:gcdP (n:Int) r.den = (Nat.gcd n r.den:Int):=by
    unfold gcdP; rw [if_neg (by exact zo293 hd)]
    show ((Int.gcd (n:Int) r.den:Nat):Int) = _
    unfold Int.gcd; rw [Int.natAbs_natCast,Int.natAbs_natCast]
  have el:(n:Int) / gcdP n r.den * r.den = ((Nat.lcm n r.den:Nat):Int):=by
    rw [eg,← Int.natCast_ediv,← Int.natCast_mul]
    congr 1
    unfold Nat.lcm
    exact Nat.div_mul_right_comm (Nat.gcd_dvd_left n r.den) r.den
  rw [el]
  have hn : 0 < n:=by have:=h.pos; exact zo224 this
  refine ⟨by have:=Nat.lcm_pos hn r.den_pos; exact zo18 this,fun x hx => ?_,?_⟩
  · rcases List.mem_append.mp hx with hx | hx
    · exact Int.dvd_trans (h.dv x hx) (Int.natCast_dvd_natCast.mpr (Nat.dvd_lcm_left n r.den))
    · have:x = r:=by simpa using hx
      subst this; exact Int.natCast_dvd_natCast.mpr (Nat.dvd_lcm_right n x.den)
  · exact Int.natCast_dvd_natCast.mpr (Nat.lcm_dvd (Int.natCast_dvd_natCast.mp h.dm) hr)
def sumF (B:Int):D → D
  | .tup [.int n,.int d] => .int (n * (B / d))
  | d => d
theorem sumF_map (B:Int) (rs:List Rat):(rs.map dQ).map (sumF B) = (rs.map fun r => r.num * (B / r.den)).map D.int:=by
  rw [List.map_map,List.map_map]; rfl
theorem sum_over {B:Int} (hB : 0 < B):∀ {rs:List Rat},(∀ r ∈ rs,(r.den:Int) ∣ B) → Rat.divInt (rs.map fun r => r.num * (B / r.den)).sum B = rs.sum
  | [],_ => by rw [List.map_nil,List.sum_nil,List.sum_nil,Rat.zero_divInt]
  | r :: rs,h => by
    have ih:=sum_over hB (rs:=rs) fun x hx => h x (.tail _ hx)
    rw [List.map_cons,List.sum_cons,List.sum_cons,← ih]
    obtain ⟨c,hc⟩:=h r (.head _)
    have hd:=den_posI r
    have e1:B / r.den = c:=by rw [hc]; exact Int.mul_ediv_cancel_left c (by exact zo58 hd)
    have cp:c ≠ 0:=fun z => by rw [z,Int.mul_zero] at hc; exact zo202 hB hc
    have e2:r = Rat.divInt (r.num * c) B:=by rw [hc,Rat.divInt_mul_right cp,div_nd]
    rw [e1]
    conv => rhs; rw [e2]
    rw [Rat.divInt_add_divInt _ _ (by exact zo81 hB hc) (by exact zo81 hB hc)]
    have e3:r.num * c * B + (rs.map fun r => r.num * (B / r.den)).sum * B = (r.num * c + (rs.map fun r => r.num * (B / r.den)).sum) * B:=by rw [Int.add_mul]
    rw [e3,Rat.divInt_mul_right (by exact zo81 hB hc)]
theorem sum_abs_le {n:Nat}:∀ {ns:List Int},(∀ x ∈ ns,x.natAbs < n) → ns.sum.natAbs ≤ ns.length * n
  | [],_ => by simp
  | x :: ns,h => by
    have ih:=sum_abs_le (ns:=ns) fun y hy => h y (.tail _ hy)
    have:=h x (.head _)
    rw [List.sum_cons,List.length_cons,Nat.add_mul,Nat.one_mul,Nat.add_comm]
    exact Nat.le_trans (Int.natAbs_add_le _ _) (Nat.add_le_add (Nat.le_of_lt this) ih)
theorem prodD_le {n:Nat}:∀ {rs:List Rat},(∀ r ∈ rs,r.den ≤ n) → prodD rs ≤ n ^ rs.length
  | [],_ => by rw [prodD_nil]; exact Nat.le_refl _
  | r :: rs,h => by
    rw [prodD_cons,List.length_cons,Nat.pow_succ,Nat.mul_comm]
    exact Nat.mul_le_mul (prodD_le fun x hx => h x (.tail _ hx)) (h r (.head _))
theorem btSum {n:Nat}:∀ {rs:List Rat},(∀ r ∈ rs,Bt r n) → Bt rs.sum ((n + 1) * rs.length + 1)
  | [],_ => by rw [List.sum_nil]; exact bt0 (by exact zo200)
  | r :: rs,h => by
    rw [List.sum_cons,List.length_cons]
    exact ((h r (.head _)).add (btSum fun x hx => h x (.tail _ hx))).mono (by rw [Nat.mul_add]; exact zo205)
theorem atI_any {α:Type} {xs:List α} {i:Int} (h0 : -(xs.length:Int) ≤ i) (h1:i < xs.length):∃ x ∈ xs,atI xs i = some x:=by
  unfold atI ixN
  have h2:∀ j:Nat,j < xs.length → ∃ x ∈ xs,xs[j]? = some x:=fun j hj => ⟨xs[j],List.getElem_mem hj,List.getElem?_eq_getElem hj⟩
  split
  · exact h2 _ (by (first|lia|omega))
  · exact h2 _ (by (first|lia|omega))
theorem atI_dQ {rs:List Rat} {i:Int} (h0 : 0 ≤ i) (h1:i < rs.length):atI (rs.map dQ) i = some (dQ (rs.getD i.toNat 0)):=by
  refine atI_map ?_
  unfold atI ixN
  rw [if_pos h0,if_pos h1]
  show rs[i.toNat]? = _
  rw [List.getD_eq_getElem?_getD,List.getElem?_eq_getElem (by exact zo12 h0 h1)]; rfl
structure PricesOk (ps:List Int) (prs:List Rat):Prop where
  len:prs.length = ps.length
  pos:∀ r ∈ prs,0 ≤ r
  bt:∀ r ∈ prs,Bt r 64
def paidQ (ps:List Int) (a:Ask) (prs:List Rat):Rat:=((askWay ps a).map fun t => prs.getD (t - 1).toNat 0).sum
def posQ (r:Rat):Rat:=if 0 < r then r else 0
def spareQ (ps:List Int) (a:Ask) (w:Int) (prs:List Rat):Rat:=posQ ((a.worth:Rat) - (w:Rat) * paidQ ps a prs)
def sdLookPr:SpD:=fun ds q => ∃ ps rs prs,ds = [dPair ps rs,dQs prs] ∧ Tree ps rs ∧ PricesOk ps prs ∧ q .non []
def sdSpareOf:SpD:=fun ds q => ∃ ps rs a w prs,ds = [dPair ps rs,dAsk a,.int w,dQs prs] ∧ Tree ps rs ∧ AskOk ps a ∧ w.natAbs ≤ 1000000 ∧ PricesOk ps prs ∧ q (dQ (spareQ ps a w prs)) []
def sdSpares:SpD:=fun ds q => ∃ ps rs as prs,ds = [dPair ps rs,dAsks as,dQs prs] ∧ Tree ps rs ∧ AsksOk ps as ∧ PricesOk ps prs ∧ q (dQs (as.map fun a => spareQ ps a a.size prs)) []
theorem gcd_low (r:Rat):gcdP r.num r.den = 1:=by
  rw [gcdP_eq (den_posI r)]
  have:=r.reduced
  unfold Nat.Coprime at this
  rw [Int.gcd_comm]
  have e:Int.gcd r.num r.den = Nat.gcd r.num.natAbs r.den:=by unfold Int.gcd; rw [Int.natAbs_natCast]
  rw [e,this]; rfl
theorem num_nn {r:Rat} (h : 0 ≤ r) : 0 ≤ r.num:=Rat.num_nonneg.mpr h
def priceF (prs:List Rat):D → D
  | .int t => dQ (prs.getD (t - 1).toNat 0)
  | d => d
theorem priceF_map (prs:List Rat) (w:List Int):(w.map D.int).map (priceF prs) = (w.map fun t => prs.getD (t - 1).toNat 0).map dQ:=by
  rw [List.map_map,List.map_map]; rfl
theorem getD_memQ {rs:List Rat} {k:Nat} (h:k < rs.length):rs.getD k 0 ∈ rs:=by
  rw [List.getD_eq_getElem?_getD,List.getElem?_eq_getElem h]; exact List.getElem_mem h
theorem way_len46 {ps rs:List Int} (hT:Tree ps rs) {a b:Int} (he:Ends2 ps a b):(wayZ ps a b).length ≤ 46:=by
  obtain ⟨w,hw,e⟩:=way_q40 hT he.a0 he.b0 he.a1 he.b1
  have h1:=hw.len hT he.a0 he.b0 he.a1 he.b1
  have h2:=hT.hi
  have h3:=he.a1; have h4:=he.b1
  rw [e]
  have:=(sortZ_perm w).length_eq
  exact zo78 h1 h2 h3 h4 this
theorem paid_all {ps rs:List Int} {prs:List Rat} {a:Ask} (hT:Tree ps rs) (he:Ends2 ps a.one a.other) (hp:PricesOk ps prs):∀ r ∈ (askWay ps a).map (fun t => prs.getD (t - 1).toNat 0),r ∈ prs:=fun r hr => by
  obtain ⟨t,ht,rfl⟩:=List.mem_map.mp hr
  have:=way_mem hT he ht
  exact getD_memQ (by rw [hp.len]; exact zo14 this)
theorem paid_bt {ps rs:List Int} {prs:List Rat} {a:Ask} (hT:Tree ps rs) (he:Ends2 ps a.one a.other) (hp:PricesOk ps prs):Bt (paidQ ps a prs) 3000:=by
  have h1:=btSum (n:=64) fun r hr => hp.bt r (paid_all hT he hp r hr)
  refine Bt.mono h1 ?_
  rw [List.length_map]
  have:=way_len46 hT he
  unfold askWay
  (first|lia|omega)
theorem prod_bt {rs:List Rat} {n:Nat} (h:∀ r ∈ rs,Bt r n):prodD rs ≤ 2 ^ (n * rs.length):=by
  have:=prodD_le (n:=2 ^ n) (rs:=rs) fun r hr => Nat.le_of_lt (h r hr).den
  rw [← Nat.pow_mul] at this; exact this
theorem posQ_bt {r:Rat} {n:Nat} (h:Bt r n) (hn : 0 < n):Bt (posQ r) n:=by
  unfold posQ; split
  · exact h
  · exact bt0 hn
theorem intBt {i:Int} {n:Nat} (m:Nat) (h:i.natAbs ≤ m) (hm:m < 2 ^ n) (hn : 0 < n):Bt (i:Rat) n:=btI (by exact zo215 h hm) hn
def spareF (ps:List Int) (prs:List Rat):D → D
  | .tup [.int o,.int p,.int s,.int w] => dQ (spareQ ps ⟨o,p,s,w⟩ s prs)
  | d => d
theorem spareF_map (ps:List Int) (prs:List Rat) (as:List Ask):(as.map dAsk).map (spareF ps prs) = (as.map fun a => spareQ ps a a.size prs).map dQ:=by
  rw [List.map_map,List.map_map]; rfl
theorem imms_dQs:∀ rs:List Rat,imms (rs.map dQ) = true
  | [] => rfl
  | r :: rs => by rw [List.map_cons,imms,imms_dQs rs]; rfl
def sdSource:SpD:=fun ds q => ∃ c k,ds = [.int c,.int k] ∧ 0 ≤ k ∧ k ≤ 1000 ∧ ∀ n s,0 ≤ n → q (dInts [n,s]) []
def sdTree2:SpD:=fun ds q => ∃ c m most,ds = [dInts [c,m],.int most] ∧ 0 ≤ c ∧ 0 < most ∧ most ≤ 23 ∧ ∀ ps rs c' m',Tree ps rs → (ps.length:Int) ≤ most → 0 ≤ c' → q (dPair ps rs) [some (dInts [c',m'])]
def sdAskG:SpD:=fun ds q => ∃ c m ps rs n sizes worths,ds = [dInts [c,m],.int n,dInts sizes,dInts worths] ∧ 0 ≤ c ∧ Tree ps rs ∧ n = ps.length ∧ 1 ≤ sizes.length ∧ sizes.length ≤ 100 ∧ (∀ s ∈ sizes,1 ≤ s ∧ s ≤ 1000000) ∧ 1 ≤ worths.length ∧ worths.length ≤ 100 ∧ (∀ s ∈ worths,1 ≤ s ∧ s ≤ 1000000000000) ∧
  ∀ a c' m',AskOk ps a → 0 ≤ c' → q (dAsk a) [some (dInts [c',m'])]
def topsOf (prs:List Rat):List Int:=prs.map fun r => r.num * ((prodD prs:Int) / r.den)
def spareZ (ps:List Int) (a:Ask) (tops:List Int) (B:Int):Int:=a.worth * B - a.size * ((askWay ps a).map fun t => tops.getD (t - 1).toNat 0).sum
theorem divInt_pos {t b:Int} (hb : 0 < b) : 0 < Rat.divInt t b ↔ 0 < t:=by
  have h1:=Rat.divInt_nonneg_iff_of_pos_right (a:=t) hb
  have h2:Rat.divInt t b = 0 ↔ t = 0:=by
    constructor
    · intro h
      have:=(Rat.divInt_eq_divInt_iff (n₁:=t) (n₂:=0) (d₁:=b) (d₂:=b) (by exact zo31 hb) (by exact zo31 hb)).mp (by rw [h,Rat.zero_divInt])
      rw [Int.zero_mul] at this
      rcases Int.mul_eq_zero.mp this with z | z
      · exact z
      · exact zo297 hb z
    · intro h; rw [h,Rat.zero_divInt]
  constructor
  · intro h
    have a1 : 0 ≤ t:=h1.mp (by grind)
    have a2:t ≠ 0:=fun z => by rw [h2.mpr z] at h; grind
    exact zo99 a1 a2
  · intro h
    have a1:=h1.mpr (by exact zo119 h)
    have a2:Rat.divInt t b ≠ 0:=fun z => by have:=h2.mp z; exact zo202 h this
    grind
theorem prodD_dvd {rs:List Rat} {r:Rat} (h:r ∈ rs):(r.den:Int) ∣ (prodD rs:Int):=by
  have:r.den ∣ prodD rs:=by
    induction rs with
    | nil => cases h
    | cons x rs ih =>
      rw [prodD_cons]
      rcases List.mem_cons.mp h with rfl | h
      · exact Nat.dvd_mul_right _ _
      · exact Nat.dvd_trans (ih h) (Nat.dvd_mul_left _ _)
  exact Int.natCast_dvd_natCast.mpr this
theorem div_lin {B:Int} (hB : 0 < B) (w s S:Int):Rat.divInt (w * B - s * S) B = (w:Rat) - (s:Rat) * Rat.divInt S B:=by
  have h:(B:Rat) ≠ 0:=fun z => by have:=Rat.intCast_eq_zero_iff.mp z; exact zo202 hB this
  rw [Rat.divInt_eq_div,Rat.divInt_eq_div,Rat.intCast_sub,Rat.intCast_mul,Rat.intCast_mul]
  grind
theorem tops_over {prs:List Rat} (w:List Int) (hw:∀ t ∈ w,0 < t ∧ t ≤ (prs.length:Int)):Rat.divInt (w.map fun t => (topsOf prs).getD (t - 1).toNat 0).sum (prodD prs) = (w.map fun t => prs.getD (t - 1).toNat 0).sum:=by
  have hp:(0:Int) < prodD prs:=by have:=prodD_pos prs; exact zo18 this
  have h1:(w.map fun t => (topsOf prs).getD (t - 1).toNat 0) = (w.map fun t => prs.getD (t - 1).toNat 0).map fun r => r.num * ((prodD prs:Int) / r.den):=by
    rw [List.map_map]
    refine List.map_congr_left fun t ht => ?_
    have:=hw t ht
    unfold topsOf
    show _ = (prs.getD (t - 1).toNat 0).num * ((prodD prs:Int) / (prs.getD (t - 1).toNat 0).den)
    rw [List.getD_eq_getElem?_getD,List.getD_eq_getElem?_getD,List.getElem?_map,List.getElem?_eq_getElem (show (t - 1).toNat < prs.length by exact zo14 this)]
    rfl
  rw [h1]
  refine sum_over hp fun r hr => ?_
  obtain ⟨t,ht,rfl⟩:=List.mem_map.mp hr
  have:=hw t ht
  exact prodD_dvd (getD_memQ (by exact zo14 this))
theorem spare_over {ps rs:List Int} {prs:List Rat} {a:Ask} (hT:Tree ps rs) (he:Ends2 ps a.one a.other) (hl:prs.length = ps.length) :
    Rat.divInt (if spareZ ps a (topsOf prs) (prodD prs) > 0 then spareZ ps a (topsOf prs) (prodD prs) else 0) (prodD prs) = spareQ ps a a.size prs:=by
  have hp:(0:Int) < prodD prs:=by have:=prodD_pos prs; exact zo18 this
  have h1:=tops_over (prs:=prs) (askWay ps a) fun t ht => by have:=way_mem hT he ht; exact zo151 hl this
  have h2:Rat.divInt (spareZ ps a (topsOf prs) (prodD prs)) (prodD prs) = (a.worth:Rat) - (a.size:Rat) * paidQ ps a prs:=by
    unfold paidQ
    rw [← h1]
    unfold spareZ
    exact div_lin hp _ _ _
  unfold spareQ posQ
  rw [← h2]
  by_cases h:spareZ ps a (topsOf prs) (prodD prs) > 0
  · rw [if_pos h,if_pos ((divInt_pos hp).mpr h)]
  · rw [if_neg h,if_neg (fun z => h ((divInt_pos hp).mp z)),Rat.zero_divInt]
theorem tops_bd {ps:List Int} {prs:List Rat} (hp:PricesOk ps prs) (hpr:prodD prs < 2 ^ 1500) {k:Nat} (hk:k < prs.length):((topsOf prs).getD k 0).natAbs < 2 ^ 1564:=by
  unfold topsOf
  rw [List.getD_eq_getElem?_getD,List.getElem?_map,List.getElem?_eq_getElem hk]
  show (prs[k].num * ((prodD prs:Int) / prs[k].den)).natAbs < _
  have h1:=(hp.bt _ (List.getElem_mem hk)).num
  have h2:=ediv_abs (a:=(prodD prs:Int)) (den_posI prs[k])
  rw [Int.natAbs_natCast] at h2
  rw [abs_mulI]
  exact lt_mul_pow (m:=64) (n:=1500) h1 (by exact zo167 hpr hk h2)
def paidRooms (rs:List Int) (prs:List Rat):List Rat:=List.zipWith (fun (x:Int) (p:Rat) => (x:Rat) * p) rs prs
def boundQ (ps rs:List Int) (as:List Ask) (prs:List Rat):Rat:=(paidRooms rs prs).sum + (as.map fun a => spareQ ps a a.size prs).sum
def sdBound:SpD:=fun ds q => ∃ ps rs as prs,ds = [dPair ps rs,dAsks as,dQs prs] ∧ Tree ps rs ∧ AsksOk ps as ∧ PricesOk ps prs ∧ q (dQ (boundQ ps rs as prs)) []
def boundF:D → D
  | .tup [.int x,.tup [.int n,.int d]] => dQ ((x:Rat) * Rat.divInt n d)
  | d => d
theorem boundF_dQ (x:Int) (p:Rat):boundF (.tup [.int x,dQ p]) = dQ ((x:Rat) * p):=by
  show dQ ((x:Rat) * Rat.divInt p.num p.den) = _
  rw [div_nd]
theorem boundF_map:∀ (rs:List Int) (prs:List Rat),(zipD (rs.map D.int) (prs.map dQ)).map boundF = (paidRooms rs prs).map dQ
  | [],prs => by cases prs <;> rfl
  | x :: rs,[] => rfl
  | x :: rs,p :: prs => by
    show boundF (.tup [.int x,dQ p]) :: (zipD (rs.map D.int) (prs.map dQ)).map boundF = dQ ((x:Rat) * p) :: (paidRooms rs prs).map dQ
    rw [boundF_dQ,boundF_map rs prs]
theorem den_divInt_dvd (t:Int) {b:Nat} (hb : 0 < b):(Rat.divInt t b).den ∣ b:=by
  rw [Rat.den_divInt,if_neg (by exact zo298 hb),Int.natAbs_natCast]
  exact Nat.div_dvd_of_dvd (by
    have:=Int.gcd_dvd_left (b:Int) t
    exact Int.natCast_dvd_natCast.mp this)
theorem den_int_mul (x:Int) (p:Rat):((x:Rat) * p).den ∣ p.den:=by
  rw [Rat.den_mul,Rat.den_intCast,Nat.one_mul]
  exact Nat.div_dvd_of_dvd (Nat.gcd_dvd_right _ _)
theorem mem_zipW {α β γ:Type} {f : α → β → γ}:∀ {xs:List α} {ys:List β} {z : γ},z ∈ List.zipWith f xs ys → ∃ x ∈ xs,∃ y ∈ ys,z = f x y
  | [],_,_,h => by simp at h
  | _ :: _,[],_,h => by simp at h
  | x :: xs,y :: ys,z,h => by
    rw [List.zipWith_cons_cons] at h
    rcases List.mem_cons.mp h with rfl | h
    · exact ⟨x,.head _,y,.head _,rfl⟩
    · obtain ⟨a,ha,b,hb,e⟩:=mem_zipW h
      exact ⟨a,.tail _ ha,b,.tail _ hb,e⟩
theorem spare_den {ps rs:List Int} {prs:List Rat} {a:Ask} (hT:Tree ps rs) (he:Ends2 ps a.one a.other) (hl:prs.length = ps.length):(spareQ ps a a.size prs).den ∣ prodD prs:=by
  rw [← spare_over hT he hl]; exact den_divInt_dvd _ (prodD_pos prs)
theorem spare_bt {ps rs:List Int} {prs:List Rat} {a:Ask} (hT:Tree ps rs) (ha:AskOk ps a) (hp:PricesOk ps prs):Bt (spareQ ps a a.size prs) 3061:=by
  have s0:=ha.s0; have s1:=ha.s1; have w0:=ha.w0; have w1:=ha.w1
  exact posQ_bt (((intBt (n:=40) 1000000000000 (by (first|lia|omega)) (by decide) (by decide)).sub ((intBt (n:=20) 1000000 (by (first|lia|omega)) (by decide) (by decide)).mul (paid_bt hT ha.ends hp))).mono (by decide)) (by decide)
theorem room_bt {ps rs:List Int} (hT:Tree ps rs) {x:Int} (hx:x ∈ rs):Bt (x:Rat) 20:=by
  obtain ⟨i,hi⟩:=List.getElem?_of_mem hx
  have:=hT.room i x hi
  exact intBt 1000000 (by (first|lia|omega)) (by decide) (by decide)
theorem paidR_len (rs:List Int) (prs:List Rat):(paidRooms rs prs).length = min rs.length prs.length:=by unfold paidRooms; rw [List.length_zipWith]
theorem paidR_all {ps rs:List Int} {prs:List Rat} (hT:Tree ps rs) (hp:PricesOk ps prs):∀ r ∈ paidRooms rs prs,Bt r 84 ∧ r.den ∣ prodD prs:=fun r hr => by
  obtain ⟨x,hx,p,hpm,rfl⟩:=mem_zipW hr
  exact ⟨(room_bt hT hx).mul (hp.bt p hpm),Nat.dvd_trans (den_int_mul x p) (prodD_dvN hpm)⟩
def roomZ (rs tops:List Int):List Int:=List.zipWith (fun x t => x * t) rs tops
def posZ (x:Int):Int:=if x > 0 then x else 0
def boundZ (ps rs:List Int) (as:List Ask) (prs:List Rat):Int:=(roomZ rs (topsOf prs)).sum + (as.map fun a => posZ (spareZ ps a (topsOf prs) (prodD prs))).sum
theorem topsOf_len (prs:List Rat):(topsOf prs).length = prs.length:=by unfold topsOf; rw [List.length_map]
theorem divInt_add_same {B:Int} (hB : 0 < B) (x y:Int):Rat.divInt (x + y) B = Rat.divInt x B + Rat.divInt y B:=by
  rw [Rat.divInt_add_divInt _ _ (by exact zo31 hB) (by exact zo31 hB),← Int.add_mul,Rat.divInt_mul_right (by exact zo31 hB)]
theorem divInt_sum {B:Int} (hB : 0 < B):∀ xs:List Int,Rat.divInt xs.sum B = (xs.map fun x => Rat.divInt x B).sum
  | [] => by rw [List.map_nil,List.sum_nil,List.sum_nil,Rat.zero_divInt]
  | x :: xs => by rw [List.map_cons,List.sum_cons,List.sum_cons,divInt_add_same hB,divInt_sum hB xs]
theorem divInt_mul_int (x t B:Int):Rat.divInt (x * t) B = (x:Rat) * Rat.divInt t B:=by
  rw [Rat.divInt_eq_div,Rat.divInt_eq_div,Rat.intCast_mul]
  grind
theorem top_over {prs:List Rat} {r:Rat} (h:r ∈ prs):Rat.divInt (r.num * ((prodD prs:Int) / r.den)) (prodD prs) = r:=by
  obtain ⟨c,hc⟩:=prodD_dvd h
  have hd:=den_posI r
  have hp:=prodD_pos prs
  have e1:(prodD prs:Int) / r.den = c:=Int.ediv_eq_of_eq_mul_right (by exact zo58 hd) hc
  have cp:c ≠ 0:=fun z => by rw [z,Int.mul_zero] at hc; exact zo294 hc hp
  rw [e1,hc,Rat.divInt_mul_right cp,div_nd]
theorem rooms_over (prs:List Rat):∀ (rs:List Int) (l:List Rat),(∀ r ∈ l,r ∈ prs) → (roomZ rs (l.map fun r => r.num * ((prodD prs:Int) / r.den))).map (fun x => Rat.divInt x (prodD prs)) = paidRooms rs l
  | [],l,_ => by cases l <;> rfl
  | x :: rs,[],_ => rfl
  | x :: rs,r :: l,h => by
    show Rat.divInt (x * (r.num * ((prodD prs:Int) / r.den))) (prodD prs) :: (roomZ rs (l.map fun r => r.num * ((prodD prs:Int) / r.den))).map (fun x => Rat.divInt x (prodD prs)) = (x:Rat) * r :: paidRooms rs l
    rw [rooms_over prs rs l fun y hy => h y (.tail _ hy),divInt_mul_int,top_over (h r (.head _))]
theorem bound_over {ps rs:List Int} {as:List Ask} {prs:List Rat} (hT:Tree ps rs) (ha:AsksOk ps as) (hl:prs.length = ps.length):Rat.divInt (boundZ ps rs as prs) (prodD prs) = boundQ ps rs as prs:=by
  have hp:(0:Int) < prodD prs:=by have:=prodD_pos prs; exact zo18 this
  unfold boundZ boundQ
  rw [divInt_add_same hp,divInt_sum hp,divInt_sum hp,List.map_map]
  have e1:=rooms_over prs rs prs fun r h => h
  have e2:(as.map ((fun x => Rat.divInt x (prodD prs)) ∘ fun a => posZ (spareZ ps a (topsOf prs) (prodD prs)))) = as.map fun a => spareQ ps a a.size prs :=
    List.map_congr_left fun a hm => spare_over hT (ha.ok a hm).ends hl
  rw [e2]
  unfold topsOf at *
  rw [e1]
end L2
namespace L2
open PySem PySem.Spec PyProof.Rows
def ExcAt (h:Heap) (e:Addr) (cls:Value) (dx:Option Addr) (tb:Value):Prop :=
  ∃ (vs:Array Value) (sl:Array (Option Value)),h.get? e = some { cls:=cls,dict:=dx,data:=.fields vs,slots:=sl } ∧ vs[1]? = some tb
def TbAt (h:Heap) (t:Addr) (v:Value):Prop:=∃ o ts,h.get? t = some o ∧ o.data = .fields ts ∧ ts[3]? = some v
def tbV:Option Addr → Value
  | none => .none
  | some t => .ref t
structure FlyO (h:Heap) (e:Addr) (cls:Value) (dx:Option Addr) (T:Option Addr):Prop where
  ex:ExcAt h e cls dx (tbV T)
  tb:∀ t,T = some t → t ≠ e ∧ TbAt h t .none
theorem ExcAt.notFrame {h base:Heap} {l:List Env} {e:Addr} {cls:Value} {dx:Option Addr} {tb:Value} (x:ExcAt h e cls dx tb) (hl:h.FunFrames base l):e ∉ frs l:=fun hm => by
  obtain ⟨vs,sl,he,_⟩:=x
  obtain ⟨_,o,ho,hnf⟩:=hl.mem hm
  rw [he] at ho; cases ho; exact hnf vs rfl
theorem TbAt.notFrame {h base:Heap} {l:List Env} {t:Addr} {v:Value} (x:TbAt h t v) (hl:h.FunFrames base l):t ∉ frs l:=fun hm => by
  obtain ⟨o',ts,he,hd,_⟩:=x
  obtain ⟨_,o,ho,hnf⟩:=hl.mem hm
  rw [he] at ho; cases ho; exact hnf ts hd
section
variable {M:Model} {A:Around} {E:Value → Shared → Prop} {s:Shared}
def KeptBut (l:List Env) (e:Addr) (T:Option Addr) (h h':Heap):Prop:=∀ b o,b ≠ e → T ≠ some b → h.get? b = some o → (b ∉ frs l → h'.get? b = some o) ∧ ∃ sl,h'.get? b = some { o with slots:=sl }
theorem entry_fly {base:Heap} {env:Env} {outer:List Env} {L e:Addr} {cls:Value} {dx:Option Addr} {tb head:Value} {hadNext:Bool} {Q:Unit → Shared → Prop}
    (hfr:A.frames = some (env :: outer)) (hl:s.heap.FunFrames base (env :: outer)) (hf:env.frame = some L) (F:ExcAt s.heap e cls dx tb)
    (h:∀ h',s.heap.objs.size ≤ h'.objs.size → ∀ t',s.heap.objs.size ≤ t' → FlyO h' e cls dx (some t') → KeptBut (env :: outer) e none s.heap h' → Q () { s with heap:=h' }) :
    wpAny M A (do let a ← frameOf env; let pl ← entryPlaceOf L hadNext; let b ← EntryCells.newEntry head a .none (rawInt L) .none pl; setField (.ref e) 1 b) (fun _ s' => wpAny M A (setFlight (.ref e) none) Q E s') E s:=by
  have hene:=F.notFrame hl
  obtain ⟨vs,sl,he,h1⟩:=F
  have hsz : 1 < vs.size:=(Array.getElem?_eq_some_iff.mp h1).1
  refine wpAny_bind (wpAny_frameOf_fun hfr hl hf fun g1 hs1 => ?_)
  refine wpAny_bind (wpAny_entryPlaceOf fun pl hpl => ?_)
  unfold EntryCells.newEntry newFields
  refine wpAny_bind (wpAny_newObj_type ?_ (hpl.sizeOk5 _ _ _ _ _))
  have he1:g1.get? e = some { cls:=cls,dict:=dx,data:=.fields vs,slots:=sl }:=(hs1.2.1 e hene).trans he
  generalize hO:({ cls:=.type "traceback",dict:=none,data:=.fields ([head,.ref L,.none,rawInt L,.none] ++ (if pl.isEmpty then List.replicate 6 Value.none else pl)).toArray }:Obj) = O
  have hOd:∃ ts:Array Value,O.data = .fields ts ∧ 3 < ts.size:=by
    rw [← hO]; exact ⟨_,rfl,by simp only [List.size_toArray,List.length_append,List.length_cons,List.length_nil]; exact zo259⟩
  have hOf:O.isFreed = false:=by rw [← hO]; rfl
  obtain ⟨ts,hts,h3⟩:=hOd
  have he2:=Heap.get?_push_of_some (h:=g1) O he1
  refine wpAny_setField he2 rfl hsz ?_
  have hTe:g1.objs.size ≠ e:=Nat.ne_of_gt (Heap.lt_size he1)
  have he3:=Heap.get?_update_self (Obj.mapFields (·.setIfInBounds 1 (Value.ref g1.objs.size))) he2 (Obj.isFreed_of_fields (Obj.data_mapFields rfl _))
  have hT3:((g1.push O).update e (Obj.mapFields (·.setIfInBounds 1 (Value.ref g1.objs.size)))).get? g1.objs.size = some O:=(Heap.get?_update_other _ _ (Ne.symm hTe)).trans (Heap.get?_push_size g1 hOf)
  unfold setFlight
  refine wpAny_bind (wpAny_field he3 (Obj.data_mapFields rfl _) (x:=.ref g1.objs.size) (by simp [hsz]) ?_)
  rw [if_pos (show (Value.ref g1.objs.size != Value.none) = true from by simp)]
  refine wpAny_setField hT3 hts h3 ?_
  have hsz1:g1.objs.size = s.heap.objs.size:=hs1.1
  refine h _ ?_ g1.objs.size (Nat.le_of_eq hsz1.symm) ⟨⟨_,sl,?_,by show (vs.setIfInBounds 1 (Value.ref g1.objs.size))[1]? = _; simp [hsz]; rfl⟩,fun t ht => ?_⟩ fun b o hbe _ hb => ?_
  · rw [Heap.size_after_update,Heap.size_after_update,Heap.size_push]; exact Nat.le_succ_of_le (Nat.le_of_eq hsz1.symm)
  · rw [Heap.get?_update_other _ _ hTe]; exact he3
  · cases ht
    refine ⟨hTe,_,_,Heap.get?_update_self _ hT3 (Obj.isFreed_of_fields (Obj.data_mapFields hts _)),Obj.data_mapFields hts _,?_⟩
    show (ts.setIfInBounds 3 ((none:Option Addr).elim Value.none fun f => rawInt f))[3]? = _
    simp [h3]
  · have keep:∀ o',g1.get? b = some o' → (((g1.push O).update e (Obj.mapFields (·.setIfInBounds 1 (Value.ref g1.objs.size)))).update g1.objs.size (Obj.mapFields (·.setIfInBounds 3 ((none:Option Addr).elim Value.none fun f => rawInt f)))).get? b = some o':=fun o' ho' => by
      have hbT:g1.objs.size ≠ b:=Nat.ne_of_gt (Heap.lt_size ho')
      rw [Heap.get?_update_other _ _ hbT,Heap.get?_update_other _ _ (Ne.symm hbe)]
      exact Heap.get?_push_of_some _ ho'
    obtain ⟨sl',hb'⟩:=hs1.2.2 b o hb
    exact ⟨fun hn => keep o ((hs1.2.1 b hn).trans hb),sl',keep _ hb'⟩
theorem note_fly {base:Heap} {env:Env} {outer:List Env} {L e:Addr} {cls:Value} {dx:Option Addr} {T:Option Addr} {Q:Unit → Shared → Prop}
    (hfr:A.frames = some (env :: outer)) (hl:s.heap.FunFrames base (env :: outer)) (hf:env.frame = some L) (F:FlyO s.heap e cls dx T)
    (h:∀ h',s.heap.objs.size ≤ h'.objs.size → ∀ t',s.heap.objs.size ≤ t' → FlyO h' e cls dx (some t') → KeptBut (env :: outer) e T s.heap h' → (∀ t,T = some t → ∃ o,h'.get? t = some o) → Q () { s with heap:=h' }) :
    wpAny M A (noteFrame (.ref e) env) (fun _ s' => wpAny M A (setFlight (.ref e) none) Q E s') E s:=by
  obtain ⟨X,tb⟩:=F
  obtain ⟨vs,sl,he,h1⟩:=id X
  unfold noteFrame
  simp only [hf]
  refine wpAny_bind (wpAny_field he rfl h1 ?_)
  cases T with
  | none =>
    rw [if_neg (by decide)]
    exact entry_fly hfr hl hf X fun h' hs t' ht' fl kb => h h' hs t' ht' fl kb fun t z => by cases z
  | some T =>
    obtain ⟨hTe,oT,ts,hT,hdT,h3⟩:=tb T rfl
    show wpAny M A (if (Value.ref T != Value.none) = true then _ else _) _ _ _
    rw [if_pos (show (Value.ref T != Value.none) = true from by simp)]
    refine wpAny_bind (wpAny_field hT hdT h3 ?_)
    rw [if_neg (show ¬ ((Value.none == rawInt L) = true) from by simp [rawInt])]
    refine wpAny_bind (wpAny_setField hT hdT (Array.getElem?_eq_some_iff.mp h3).1 ?_)
    have other:∀ b,b ≠ T → (s.heap.update T (Obj.mapFields (·.setIfInBounds 3 Value.none))).get? b = s.heap.get? b:=fun b hb => Heap.get?_update_other _ _ (Ne.symm hb)
    have hTn:=TbAt.notFrame ⟨oT,ts,hT,hdT,h3⟩ hl
    have hl2:(s.heap.update T (Obj.mapFields (·.setIfInBounds 3 Value.none))).FunFrames base (env :: outer):=hl.of_keeps fun b o hb hnf => ⟨o,(other b fun q => by subst q; rw [hT] at hb; cases hb; exact hnf ts hdT).trans hb,rfl⟩
    have hT2:=Heap.get?_update_self (Obj.mapFields (·.setIfInBounds 3 Value.none)) hT (Obj.isFreed_of_fields (Obj.data_mapFields hdT _))
    refine entry_fly (s:={ s with heap:=s.heap.update T (Obj.mapFields (·.setIfInBounds 3 Value.none)) }) hfr hl2 hf ⟨vs,sl,(other e (Ne.symm hTe)).trans he,h1⟩ fun h' hs t' ht' fl kb => ?_
    have hs':s.heap.objs.size ≤ h'.objs.size:=by rw [Heap.size_after_update] at hs; exact hs
    have ht2:s.heap.objs.size ≤ t':=by rw [Heap.size_after_update] at ht'; exact ht'
    refine h h' hs' t' ht2 fl (fun b o hbe hbT hb => kb b o hbe (by simp) ((other b fun q => hbT (by rw [q])).trans hb)) fun t z => ?_
    cases z
    obtain ⟨_,sl2,q⟩:=kb T _ hTe (by simp) hT2
    exact ⟨_,q⟩
theorem leave_fly {base:Heap} {env:Env} {outer:List Env} {L e:Addr} {cls:Value} {dx:Option Addr} {T:Option Addr} {Q:Unit → Shared → Prop}
    (hfr:A.frames = some (env :: outer)) (hl:s.heap.FunFrames base (env :: outer)) (hf:env.frame = some L) (F:FlyO s.heap e cls dx T)
    (h:∀ h',s.heap.objs.size ≤ h'.objs.size → ∀ t',s.heap.objs.size ≤ t' → FlyO h' e cls dx (some t') → KeptBut (env :: outer) e T s.heap h' → (∀ t,T = some t → ∃ o,h'.get? t = some o) → Q () { s with heap:=h' }):wpAny M A (leaving env (.ref e)) Q E s:=by
  unfold leaving
  exact wpAny_bind (note_fly hfr hl hf F h)
end
abbrev XS:=St → XK
structure Out (X:Cx) (pins:List (Addr × Obj)) (H:Hp) (a:Addr):Prop where
  new:X.s₀.heap.get? a = none
  unt:H a = none
  pin:∀ p ∈ X.pn ++ pins,p.1 ≠ a
structure Fly (X:Cx) (pins:List (Addr × Obj)) (H:Hp) (s:Shared) (e:Addr) (cls:Value) (dx:Option Addr):Prop where
  go:∃ T,FlyO s.heap e cls dx T ∧ Out X pins H e ∧ ∀ t,T = some t → Out X pins H t
structure Acc (X:Cx) (xk:XS):Prop where
  go:∀ (pins:List (Addr × Obj)) (σ:St) (H:Hp) (s:Shared) (e:Addr) (cls:Value) (dx:Option Addr),Inv X pins σ H s → Fly X pins H s e cls dx → xk σ cls dx H → X.xe (.ref e) s
def CX1 (P:Program) (w:World):CXT:=fun outer H s E e s' => ∃ ea H' cls dx T,e = .ref ea ∧ s'.os = s.os ∧ AllBare s'.gens ∧ Un (frs outer) [] H H' s.heap s'.heap ∧ HOk P w H' s'.heap ∧ FlyO s'.heap ea cls dx T ∧
  (s.heap.get? ea = none ∧ H' ea = none) ∧ (∀ t,T = some t → s.heap.get? t = none ∧ H' t = none) ∧ E cls dx H'
section
variable {X:Cx} {pins:List (Addr × Obj)} {σ:St} {H H':Hp} {s s':Shared} {e:Addr} {cls:Value} {dx:Option Addr} {T:Option Addr}
theorem ObjOk.here {P:Program} {w:World} {H:Hp} {h:Heap} {a:Addr} {o:HO} (x:ObjOk P w H h a o):∃ u,h.get? a = some u:=by
  cases o with
  | lst xs => obtain ⟨_,_,_,_,e⟩:=x; exact ⟨_,e⟩
  | tup xs => obtain ⟨_,_,_,_,e,_⟩:=x; exact ⟨_,e⟩
  | dK kvs => obtain ⟨_,_,_,_,o,_,_,e,_⟩:=x; exact ⟨_,e⟩
  | dT kvs => obtain ⟨_,_,_,_,o,_,_,e,_⟩:=x; exact ⟨_,e⟩
  | set S n => obtain ⟨o,_,_,_,e,_⟩:=x; exact ⟨_,e⟩
  | ins C dx fs => obtain ⟨_,_,_,e,_⟩:=x; exact ⟨_,e⟩
  | own y => exact x
  | xd fs => obtain ⟨_,⟨_,_,_,e,_⟩,_⟩:=x; exact ⟨_,e⟩
  | rng lo hi => obtain ⟨_,_,_,e⟩:=x; exact ⟨_,e⟩
  | frz ob u => obtain ⟨e,_⟩:=x; exact ⟨_,e⟩
  | tbl ps => exact ⟨_,(show h.get? a = some _ from x)⟩
  | met f y => exact ⟨_,(show h.get? a = some _ from x)⟩
  | ext φ => obtain ⟨_,e,_⟩:=x; exact e
theorem HOk.no {P:Program} {w:World} {H:Hp} {h:Heap} {a:Addr} (x:HOk P w H h) (e:h.get? a = none):H a = none:=by
  cases q:H a with
  | none => rfl
  | some o => obtain ⟨u,z⟩:=(x a o q).here; rw [e] at z; cases z
theorem Inv.pinNo (I:Inv X pins σ H s) {a:Addr} (h:s.heap.get? a = none):∀ p ∈ X.pn ++ pins,p.1 ≠ a:=fun p hp z => by
  have:=(I.pin p hp).1
  rw [z,h] at this; cases this
theorem Inv.old (I:Inv X pins σ H s) (hex:X.ex = []) {a:Addr} (h:s.heap.get? a = none):X.s₀.heap.get? a = none:=by
  cases q:X.s₀.heap.get? a with
  | none => rfl
  | some o => obtain ⟨u,z⟩:=I.base.there a o q (by rw [hex]; simp); rw [h] at z; cases z
theorem Inv.callN {h':Heap} {g':Array GenState} {t':Nat} {d':Drawn} {ch:List Addr} (I:Inv X pins σ H s) (u:Un (frs X.stack) ch H H' s.heap h') (hok:HOk X.prog X.w H' h') (hg:AllBare g')
    (hch:∀ b ∈ ch,X.s₀.heap.get? b = none ∧ b ≠ X.env.locals ∧ (∀ x c,X.env.cells.lookup x = some c → c ≠ b) ∧ (∀ p ∈ X.pn ++ pins,p.1 ≠ b) ∧ b ∉ X.fs) :
    Inv X pins σ H' { s with heap:=h',gens:=g',drawn:=d',toks:=t' }:=by
  have nin:∀ b o,X.s₀.heap.get? b = some o → b ∉ ch:=fun b o q hb => by rw [(hch b hb).1] at q; cases q
  have sp:∀ {b:Addr},b ∈ ch ++ X.ex → b ∈ ch ∨ b ∈ X.ex:=fun z => List.mem_append.mp z
  have ok1:Cx.Ok { X with ex:=ch ++ X.ex }:={ I.ok with
    exf:=fun b hb => (sp hb).elim (fun z => ⟨(hch b z).2.1,(hch b z).2.2.1⟩) (I.ok.exf b)
    noex:=fun b o q hb => (sp hb).elim (nin b o (I.ok.bs b o q).1) (I.ok.noex b o q)
    exfs:=fun b hb => (sp hb).elim (fun z => (hch b z).2.2.2.2) (I.ok.exfs b) }
  have I1:Inv { X with ex:=ch ++ X.ex } pins σ H s:=⟨ok1,I.os,I.bare,I.base.mono (fun _ z => z) (fun _ z => List.mem_append_right _ z),I.loc,I.cell,I.free,I.freeC,I.pin,I.hok,I.len⟩
  have J:=I1.call (g':=g') (t':=t') (d':=d') u hok hg fun b hb => ⟨.inl (List.mem_append_left _ hb),(hch b hb).2.1,(hch b hb).2.2.1,(hch b hb).2.2.2.1⟩
  have nn:∀ b o,X.s₀.heap.get? b = some o → b ∉ X.ex → b ∉ ch ++ X.ex:=fun b o q hx hb => (sp hb).elim (nin b o q) hx
  exact ⟨I.ok,J.os,J.bare,⟨fun b o q n hb hx => J.base.keep b o q n hb (nn b o q hx),fun b o q n hb hx => J.base.slot b o q n hb (nn b o q hx),fun b o q n hx => J.base.free b o q n (nn b o q hx),fun b o q hx => J.base.there b o q (nn b o q hx),
    J.base.tups,J.base.frzs,J.base.tbls⟩,J.loc,J.cell,J.free,J.freeC,J.pin,J.hok,J.len⟩
theorem Inv.fieldsNot (I:Inv X pins σ H s) {a:Addr} {o:Obj} {vs:Array Value} (h:s.heap.get? a = some o) (hd:o.data = .fields vs):a ≠ X.env.locals ∧ ∀ x c,X.env.cells.lookup x = some c → c ≠ a:=by
  constructor
  · intro z
    obtain ⟨m,⟨o',es,ep,ho,r⟩,_⟩:=I.loc
    rw [z] at h; rw [h] at ho; cases ho
    obtain ⟨r1,r2,_⟩:=r
    rw [hd] at r1; cases r1
  · intro x c hc z
    obtain ⟨v,q⟩:=I.cell x c hc
    subst z
    obtain ⟨o',ho,hd'⟩:=q
    rw [h] at ho; cases ho
    rw [hd] at hd'; cases hd'
theorem Inv.noted {h':Heap} {t':Addr} (I:Inv X pins σ H s) (hst:X.stack = X.env :: X.outer) (fl:FlyO s.heap e cls dx T) (oe:Out X pins H e) (ot:∀ t,T = some t → Out X pins H t) (hs:s.heap.objs.size ≤ h'.objs.size)
    (ht:s.heap.objs.size ≤ t') (fl':FlyO h' e cls dx (some t')) (kb:KeptBut (X.env :: X.outer) e T s.heap h') (there:∀ t,T = some t → ∃ o,h'.get? t = some o) :
    Inv X pins σ H { s with heap:=h' } ∧ Fly X pins H { s with heap:=h' } e cls dx:=by
  have hst':X.env :: X.outer = X.stack:=hst.symm
  rw [hst'] at kb
  have hch:∀ b ∈ e :: T.toList,X.s₀.heap.get? b = none ∧ b ≠ X.env.locals ∧ (∀ x c,X.env.cells.lookup x = some c → c ≠ b) ∧ (∀ p ∈ X.pn ++ pins,p.1 ≠ b) ∧ b ∉ X.fs:=fun b hb => by
    have out:∀ z,z ∈ X.fs → z ∈ frs (X.env :: X.outer):=fun z hz => by unfold frs; rw [List.filterMap_cons]; split; exact hz; exact List.mem_cons_of_mem _ hz
    have stk:s.heap.FunFrames X.base (X.env :: X.outer):=by rw [hst']; exact I.stack
    rcases List.mem_cons.mp hb with rfl | hb
    · obtain ⟨vs,sl,q,_⟩:=fl.ex
      exact ⟨oe.new,(I.fieldsNot q rfl).1,(I.fieldsNot q rfl).2,oe.pin,fun z => fl.ex.notFrame stk (out _ z)⟩
    · have:T = some b:=by cases T with | none => cases hb | some t => simp at hb; rw [hb]
      obtain ⟨_,o,ts,q,hd,h3⟩:=fl.tb b this
      exact ⟨(ot b this).new,(I.fieldsNot q hd).1,(I.fieldsNot q hd).2,(ot b this).pin,fun z => TbAt.notFrame ⟨o,ts,q,hd,h3⟩ stk (out _ z)⟩
  have nb:∀ b,b ∉ e :: T.toList → b ≠ e ∧ T ≠ some b:=fun b hb => ⟨fun z => hb (by simp [z]),fun z => hb (by simp [z])⟩
  have un:Un (frs X.stack) (e :: T.toList) H H s.heap h':={
    keep:=fun b o q _ hn hx => ((kb b o (nb b hx).1 (nb b hx).2 q).1 hn)
    slot:=fun b o q _ _ hx => (kb b o (nb b hx).1 (nb b hx).2 q).2
    free:=fun _ _ _ n _ => n
    there:=fun b o q hx => let ⟨sl,z⟩:=(kb b o (nb b hx).1 (nb b hx).2 q).2; ⟨_,z⟩
    tups:=fun _ _ z => z
    frzs:=fun _ _ _ z => z
    tbls:=fun b ps z => ⟨#[],by rw [z]; simp⟩ }
  have hok:HOk X.prog X.w H h':=fun a o q => (I.hok a o q).stay (fun c v hc z => by
    have hH:∃ u,H c = some u:=by rcases hc with hc | hc; exact ⟨_,hc ▸ q⟩; exact ⟨_,hc⟩
    obtain ⟨u,hu⟩:=hH
    have c1:c ≠ e:=fun y => by rw [y,oe.unt] at hu; cases hu
    have c2:T ≠ some c:=fun y => by rw [(ot c y).unt] at hu; cases hu
    exact (kb c v c1 c2 z).1 fun y => by rw [I.stkFree c y] at hu; cases hu) (fun _ z => z) fun _ _ z => z
  refine ⟨I.callN (h':=h') (g':=s.gens) (d':=s.drawn) (t':=s.toks) un hok I.bare hch,⟨some t',fl',oe,fun t z => ?_⟩⟩
  cases z
  exact ⟨Heap.get?_none_of_le (Nat.le_trans I.sz ht),I.hok.fresh ht,I.pinNo (Heap.get?_none_of_le ht)⟩
end
theorem acc_fn {P:Program} {w:World} {K:PySem.W.Frag} {mg:Str → Option Value} {base:Heap} {N:List Str} {qual:Str} {scope:Scope} {f:Addr} {cd:Value} {A:Around} {outer:List Env} {s:Shared} {H:Hp} {E:XK} :
    Acc (cxOf (CX1 P w) P w K mg base N qual scope f cd A outer s H E) (fun _ => E):=by
  refine ⟨fun pins σ H' s' e cls dx I fl h => ?_⟩
  obtain ⟨T,flo,oe,ot⟩:=fl.go
  show wpAny _ _ (leaving _ (.ref e)) _ _ s'
  refine leave_fly (base:=base) (outer:=outer) (L:=s.heap.objs.size) (T:=T) I.ok.frames I.stack rfl flo fun h' hs t' ht fl' kb there => ?_
  obtain ⟨I2,fl2⟩:=I.noted rfl flo oe ot hs ht fl' kb there
  refine ⟨e,H',cls,dx,some t',rfl,I.os,I.bare,?_,I2.hok,fl',⟨oe.new,oe.unt⟩,fun t z => ?_,h⟩
  · exact I2.base
  · cases z; exact ⟨Heap.get?_none_of_le (Nat.le_trans I.sz ht),I.hok.fresh ht⟩
section
variable {X:Cx} {x:Str} {p pos:Pos} {e:Expr} {es:List Expr} {t:TA} {k:Nat} {f:Addr} {fd:FuncData} {ps:List Str} {sp:Sp} {xk:XS}
theorem Inv.raised {pins:List (Addr × Obj)} {σ:St} {H:Hp} {s s':Shared} {ev:Value} (hex:X.ex = []) (I:Inv X pins σ H s) (ac:Acc X xk) (h:CX1 X.prog X.w X.stack H s (xk σ) ev s'):X.xe ev s':=by
  obtain ⟨ea,H',cls,dx,T,rfl,os,bare,un,hok,fl,oe,ot,q⟩:=h
  have I2:=I.call' os un hok bare (ch:=[]) fun b z => absurd z (by simp)
  exact ac.go pins σ H' s' ea cls dx I2 ⟨T,fl,⟨I.old hex oe.1,oe.2,I.pinNo oe.1⟩,fun t z => ⟨I.old hex (ot t z).1,(ot t z).2,I.pinNo (ot t z).1⟩⟩ q
theorem run_fnX {pins:List (Addr × Obj)} {σ:St} {H:Hp} {s:Shared} {Q:VK} {us:List Value} {vs:List V} (F:FnOk X.prog X.w X.K X.mg X.base (CX1 X.prog X.w) k f fd ps sp) (hr:Room k X.A) (hb:Binds X.K fd ps [])
    (hex:X.ex = []) (ac:Acc X xk) (I:Inv X pins σ H s) (r:Vals vs us) (h:sp vs H Q (xk σ)):wpAny (model X.prog X.w) X.A (call (.ref f) us) (EP X pins σ Q) X.xe s:=by
  have hl:us.length = ps.length:=by rw [← F.len _ _ _ _ h]; exact r.length.symm
  have hb':=hb s us I.kIn (by simpa using hl)
  rw [List.append_nil] at hb'
  refine wpAny_call (codeAny_mono (F.run X.A X.stack s H ⟨us,[]⟩ us vs Q (xk σ) hr I.env0 hb' r h) fun r s' hq => ?_)
  cases r with
  | error e => exact I.raised hex ac hq
  | ok fl =>
    cases fl with
    | ret u => exact I.after hq
    | next => exact False.elim hq
    | brk => exact False.elim hq
    | cont => exact False.elim hq
def tCallX (xk:XS) (sp:Sp) (t:TA):TE:=fun σ H Q => t σ H fun vs H1 => sp vs H1 Q (xk σ)
theorem pe_callX (hex:X.ex = []) (ac:Acc X xk) (F:FnOk X.prog X.w X.K X.mg X.base (CX1 X.prog X.w) k f fd ps sp) (hr:Room k X.A) (hg:Gl X x) (hm:X.mg x = some (.ref f)) (hk:PySem.W.keepIn X.K (.ref f) = true) (hb:Binds X.K fd ps [])
    (ha:PA X (e :: es) t) (hdb:(x == ("__debug__":Str)) = false:=by decide) (he:starEach (e :: es) X.env = (false,eval e X.env) :: starEach es X.env:=by rfl) (hpl:(backTo pos (starEach es X.env)).any (·.1) = false:=by rfl) :
    PE X (.Call (.Name x p) (e :: es) [] pos) (tCallX xk sp t):=by
  (try refine ⟨?_⟩); intro pins s σ H Q I h
  refine wpAny_Call_Name_kw (ld_glob I hg hm ?_ hdb)
  refine PySem.W.callWith_K (h₀:=X.base) I.ok.mod.kin hk (thn (ha pos pins s σ H _ I h) fun us s1 ⟨vs,H1,I1,r,q⟩ => ⟨I1.kIn,?_⟩) he hpl
  exact run_fnX F hr hb hex ac I1 r q
end
abbrev bmV:List Value:=[.type "ValueError",.type "Exception",.type "BaseException",.type "object"]
def xcIn (K:PySem.W.Frag) (C:Addr) (bm:List Value) (ini:Option Value):Bool:=match K.lookup C with
  | some ⟨.type "type",_,.cls cd,sl⟩ => (match cd.mro,sl.toList with
    | .ref C' :: bm',[_,_,_,_,some (.builtin n),_] => C' == C && n == "ValueError.__new__" && !cd.hasDel && bm' == bm && PySem.W.tailIn K bmV bm && PySem.W.nsOkIn K cd.ns && PySem.W.nsIn K cd.ns "__init__" == some ini
    | _,_ => false)
  | _ => false
def XObj (h:Heap) (C:Addr) (bm:List Value) (ini:Option Value):Prop:=∃ N nm q bs hdct sn sub ab col dd k0 k1 k2 k3 k5 mN,h.get? C = some (excClassObj nm q C N bs bm hdct sn sub ab col dd k0 k1 k2 k3 k5 "ValueError.__new__") ∧ h.Ns N mN ∧ mN "__init__" = ini ∧ OwnTail h bmV bm
theorem nsMap_some_of_in {K:PySem.W.Frag} {h:Heap} {N:Addr} {mg:Str → Option Value} {n:Str} {v:Value} (X:K.In h) (G:h.Ns N mg) (e:PySem.W.nsIn K N n = some (some v)):mg n = some v:=by
  obtain ⟨o,es,ep,ho,hd,_,hf⟩:=G
  unfold PySem.W.nsIn at e
  split at e
  · rename_i c d es' n' sl q
    have:=X _ _ q
    rw [ho] at this
    cases this
    cases hd
    split at e
    · rename_i w he
      cases e
      rw [← hf]
      unfold nsFind findBy
      rw [← Array.find?_toList,he]
      rfl
    · split at e <;> cases e
  · cases e
theorem xobj_of {K:PySem.W.Frag} {h:Heap} {C:Addr} {bm:List Value} {ini:Option Value} (X:K.In h) (q:xcIn K C bm ini = true):XObj h C bm ini:=by
  unfold xcIn at q
  split at q
  · rename_i dd cd sl ho
    split at q
    · rename_i C' bm' k0 k1 k2 k3 n k5 hm hs
      simp only [Bool.and_eq_true,beq_iff_eq,Bool.not_eq_true'] at q
      obtain ⟨⟨⟨⟨⟨⟨rfl,rfl⟩,hdel⟩,rfl⟩,ht⟩,hok⟩,hni⟩:=q
      obtain ⟨nm,bs,mro,ns,qn,hd,sn,sub,ab,col,del⟩:=cd
      dsimp only at hm hdel hok hni
      subst hm hdel
      have hsl:sl = #[k0,k1,k2,k3,some (.builtin "ValueError.__new__"),k5]:=by
        obtain ⟨l⟩:=sl
        simp only at hs
        rw [hs]
      subst hsl
      refine ⟨ns,nm,qn,bs,hd,sn,sub,ab,col,dd,k0,k1,k2,k3,k5,_,X _ _ ho,.of_isNs (PySem.W.isNs_of_in X hok),?_,PySem.W.tail_of_in X ht⟩
      cases ini with
      | none => exact PySem.W.nsMap_none_of_in X hok hni
      | some v => exact nsMap_some_of_in X (.of_isNs (PySem.W.isNs_of_in X hok)) hni
    · cases q
  · cases q
theorem tail_base {h:Heap} {bm:List Value} (T:OwnTail h bmV bm):bm.contains (.type "BaseException") = true:=T.hasType (by decide)
section
variable {X:Cx} {pins:List (Addr × Obj)} {σ:St} {H:Hp} {s:Shared} {xk:XS}
variable {x:Str} {C:Addr} {bm:List Value} {e:Expr} {args:List Expr} {np cpos pos:Pos} {t:TA}
end
abbrev Cx.tr (X:Cx) (E:Value → Shared → Prop) (p:List (Addr × Obj)):Cx:={ X with xe:=E,pn:=X.pn ++ p }
abbrev Cx.hand (X:Cx) (v:Value):Cx:={ X with A:=X.A.mark (some v),calm:=false,xe:=fun _ _ => False }
section
variable {X:Cx} {pins p:List (Addr × Obj)} {σ:St} {H:Hp} {s:Shared} {E:Value → Shared → Prop} {v:Value}
theorem Cx.Ok.tr (ok:X.Ok):(X.tr E p).Ok:={ ok with }
theorem Cx.Ok.untr (ok:(X.tr E p).Ok):X.Ok:={ ok with }
theorem Inv.tr (I:Inv X (p ++ pins) σ H s):Inv (X.tr E p) pins σ H s:=⟨I.ok.tr,I.os,I.bare,I.base,I.loc,I.cell,I.free,I.freeC,fun q hq => I.pin q (by simpa using hq),I.hok,I.len⟩
theorem Inv.untr (I:Inv (X.tr E p) pins σ H s):Inv X (p ++ pins) σ H s:=⟨I.ok.untr,I.os,I.bare,I.base,I.loc,I.cell,I.free,I.freeC,fun q hq => I.pin q (by simpa using hq),I.hok,I.len⟩
theorem SP.untr {D:Ends} {f:Flow} {s':Shared} (h:SP (X.tr E p) pins D f s'):SP X (p ++ pins) D f s':=by
  cases f with
  | next => obtain ⟨σ',H',I,q⟩:=h; exact ⟨σ',H',I.untr,q⟩
  | brk => obtain ⟨σ',H',I,q⟩:=h; exact ⟨σ',H',I.untr,q⟩
  | cont => obtain ⟨σ',H',I,q⟩:=h; exact ⟨σ',H',I.untr,q⟩
  | ret u => obtain ⟨v,σ',H',I,r,q⟩:=h; exact ⟨v,σ',H',I.untr,r,q⟩
theorem Inv.drop (I:Inv X (p ++ pins) σ H s):Inv X p σ H s:=I.pins_of fun q hq => I.pin q (by simp [hq])
theorem Cx.Ok.hand (ok:X.Ok):(X.hand v).Ok:={ ok with hd:=(fun z => by cases z),frames:=ok.frames }
theorem Inv.hand (I:Inv X pins σ H s):Inv (X.hand v) pins σ H s:=⟨I.ok.hand,I.os,I.bare,I.base,I.loc,I.cell,I.free,I.freeC,I.pin,I.hok,I.len⟩
theorem Inv.unhand (ok:X.Ok) (I:Inv (X.hand v) pins σ H s):Inv X pins σ H s:=⟨ok,I.os,I.bare,I.base,I.loc,I.cell,I.free,I.freeC,I.pin,I.hok,I.len⟩
theorem PS.any {st:Stmt} {t:TS} (h:PS X.nox st t):PS (X.tr E p) st t:=⟨fun pins s σ H D I hw =>
  wpAny_mono (h (p ++ pins) s σ H D (I.untr.wish _) hw) (fun f s' q => by
    have q:=q.unwish
    cases f with
    | next => obtain ⟨σ',H',I,q⟩:=q; exact ⟨σ',H',I.tr,q⟩
    | brk => obtain ⟨σ',H',I,q⟩:=q; exact ⟨σ',H',I.tr,q⟩
    | cont => obtain ⟨σ',H',I,q⟩:=q; exact ⟨σ',H',I.tr,q⟩
    | ret u => obtain ⟨v,σ',H',I,r,q⟩:=q; exact ⟨v,σ',H',I.tr,r,q⟩) fun _ _ z => False.elim z⟩
theorem PA.any {es:List Expr} {t:TA} (h:PA X.nox es t):PA (X.tr E p) es t:=⟨fun pos pins s σ H D I hw =>
  wpAny_mono (h pos (p ++ pins) s σ H D (I.untr.wish _) hw) (fun f s' ⟨vs,H',I',r,q⟩ => ⟨vs,H',(I'.unwish).tr,r,q⟩) fun _ _ z => False.elim z⟩
theorem PT.any {e:Expr} {t:TT} (h:PT X.nox e t):PT (X.tr E p) e t:=⟨fun pins s σ H D I hw =>
  wpAny_mono (h (p ++ pins) s σ H D (I.untr.wish _) hw) (fun f s' ⟨H',I',q⟩ => ⟨H',(I'.unwish).tr,q⟩) fun _ _ z => False.elim z⟩
theorem PE.any {e:Expr} {t:TE} (h:PE X.nox e t):PE (X.tr E p) e t:=⟨fun pins s σ H D I hw =>
  wpAny_mono (h (p ++ pins) s σ H D (I.untr.wish _) hw) (fun f s' ⟨v,H',I',r,q⟩ => ⟨v,H',(I'.unwish).tr,r,q⟩) fun _ _ z => False.elim z⟩
variable {e:Addr} {cls:Value} {dx T:Option Addr}
theorem flight_fly {M:Model} {A:Around} {t:Addr} {Q:Unit → Shared → Prop} (F:FlyO s.heap e cls dx (some t))
    (h:∀ h',FlyO h' e cls dx (some t) → (∀ b o,b ≠ t → s.heap.get? b = some o → h'.get? b = some o) → Q () { s with heap:=h' }):wpAny M A (setFlight (.ref e) none) Q E s:=by
  obtain ⟨⟨vs,sl,he,h1⟩,tb⟩:=F
  obtain ⟨hte,o,ts,ht,hd,h3⟩:=tb t rfl
  unfold setFlight
  refine wpAny_bind (wpAny_field he rfl h1 ?_)
  show wpAny M A (if (Value.ref t != Value.none) = true then _ else _) _ _ _
  rw [if_pos (show (Value.ref t != Value.none) = true from by simp)]
  refine wpAny_setField ht hd (Array.getElem?_eq_some_iff.mp h3).1 ?_
  have hsz : 3 < ts.size:=(Array.getElem?_eq_some_iff.mp h3).1
  refine h _ ⟨⟨vs,sl,(Heap.get?_update_other _ _ hte).trans he,h1⟩,fun t' z => ?_⟩ fun b ob hb q => (Heap.get?_update_other _ _ (Ne.symm hb)).trans q
  cases z
  refine ⟨hte,_,_,Heap.get?_update_self _ ht (Obj.isFreed_of_fields (Obj.data_mapFields hd _)),Obj.data_mapFields hd _,?_⟩
  show (ts.setIfInBounds 3 ((none:Option Addr).elim Value.none fun f => rawInt f))[3]? = _
  simp [hsz]
theorem excMatches_own {M:Model} {A:Around} {C D0:Addr} {bm bmD:List Value} {ini iniD:Option Value} {oe:Obj} {Q:Bool → Shared → Prop} (hC:XObj s.heap C bm ini) (hD:XObj s.heap D0 bmD iniD) (he:s.heap.get? e = some oe) (hcls:oe.cls = .ref C)
    (hq:Q ((Value.ref C :: bm).contains (.ref D0)) s):wpAny M A (excMatches (.ref e) (.ref D0)) Q E s:=by
  obtain ⟨N,nm,q,bs,hdct,sn,sub,ab,col,dd,k0,k1,k2,k3,k5,mN,hC,hN,hni,T⟩:=hC
  obtain ⟨N',nm',q',bs',hdct',sn',sub',ab',col',dd',k0',k1',k2',k3',k5',mN',hD,hN',hni',T'⟩:=hD
  obtain ⟨h,g,d,t,os⟩:=s
  have hbD:(Value.ref D0 :: bmD).contains (.type "BaseException") = true:=by rw [List.contains_cons,tail_base T',Bool.or_true]
  have f:=tc_notTuple
  generalize hb:(Value.ref C :: bm).contains (.ref D0) = b at hq
  unfold excMatches
  repeat (first | (with_reducible refine wpAny_loadPart_at he ?_; rw [hcls]) | with_reducible refine wpAny_loadPart_at hD ?_ | (with_reducible refine wpAny_isSubtype_exc hD ?_; rw [hbD]) | (with_reducible refine wpAny_isSubtype_exc hC ?_; rw [hb]) | wp_step)
  cases b <;> (wp_walk; exact hq)
variable {x n:Str} {i:Nat} {C D0:Addr} {bm bmD:List Value} {ini iniD:Option Value} {b0:Stmt} {suite:List Stmt} {np npos:Pos} {ts:TS} {D:Ends} {t:Addr}
def Caught (K:PySem.W.Frag) (D0:Addr) (cls:Value):Prop:=∃ C bm ini,cls = .ref C ∧ xcIn K C bm ini = true ∧ (Value.ref C :: bm).contains (.ref D0) = true
end
theorem call_frame {C:Ctx} {ow:List Bool} {G:Hp} {ρ:DSt} {σ:St} {H:Hp} {pd T:List (D × V)} {ks:List AK} {ds ds':List D} {vs:List V}
    (hn:C.np ≤ pd.length) (r:R C ow G ρ σ H (T.reverse ++ pd)) (ha:ArgsK G σ ks ds vs T) (hf:fillA ks ds ρ = some ds') (nd:(slotsOf ks).Nodup) (hw:∀ i ∈ slotsOf ks,ow[i]? = some true) :
    ∃ C':Ctx,C'.np = 0 ∧ C'.mu = msV (ks.map AK.isM) vs ∧ R C' (ks.map AK.isM) G (ds'.map some) (vs.map some) H [] ∧ (ks.map AK.isM).length = ds'.length ∧
      ∀ (fr:Bool) d ρ2 σ2 v G2 H2,Same G G2 → ρ2.length = (ks.map AK.isM).length → Ret fr C' (ks.map AK.isM) G2 ρ2 σ2 H2 d v → Kp ow ρ (putK ks (mus (ks.map AK.isM) ρ2) ρ) ∧
        (if fr = true then R C ow G2 (putK ks (mus (ks.map AK.isM) ρ2) ρ) σ H2 ((d,v) :: pd) else R C ow G2 (putK ks (mus (ks.map AK.isM) ρ2) ρ) σ H2 pd ∧ Rep G2 d v):=by
  obtain ⟨O,ro⟩:=r
  have pn:=ro.pn
  obtain ⟨l1,l2,hat⟩:=args_at (O:=O) (H:=H) (r:=pd.length) ha hf (fun j x e => pend_at pn e) (fun i hi d e => by
    obtain ⟨v,h1,h2⟩:=ro.sl i d e; rw [if_pos (hw i hi)] at h2; exact ⟨v,h1,h2⟩)
  let lb:=lbs ks pd.length
  let fin:Nat → Option Nat:=fun l => (fnd l lb 0).map (2 * ·)
  let fbk:Nat → Option Nat:=fun l => if l = 1 then some (2 * pd.length + 1) else if l % 2 = 0 then (match lb[l / 2]? with | some o => o | none => none) else none
  have uq:=lbs_uniq (ks:=ks) (r:=pd.length) nd
  have fin_at:∀ (i l:Nat),lb[i]? = some (some l) → fin l = some (2 * i):=fun i l e => by
    show (fnd l lb 0).map _ = _
    rw [fnd_at uq e]; simp
  have fin_of:∀ l l',fin l = some l' → ∃ i,l' = 2 * i ∧ lb[i]? = some (some l):=fun l l' e => by
    change (fnd l lb 0).map _ = _ at e
    cases z:fnd l lb 0 with
    | none => rw [z] at e; cases e
    | some j => rw [z] at e; cases e; obtain ⟨i,rfl,e2⟩:=fnd_of z; exact ⟨i,by show 2 * (0 + i) = 2 * i; exact zo73,e2⟩
  have fin_none:∀ l,(∀ i:Nat,lb[i]? ≠ some (some l)) → fin l = none:=fun l e => by
    show (fnd l lb 0).map _ = _
    rw [fnd_none e]; rfl
  have ri:=ro.into (mu:=ks.map AK.isM) (fin:=fin) (ds:=ds') (vs:=vs) l1 (fun j d e => by
    obtain ⟨v,h1,h2⟩:=hat j d e
    refine ⟨v,h1,?_⟩
    rcases h2 with ⟨l,h2,h3,h4⟩ | ⟨h2,h3⟩
    · rw [if_pos h3]; exact ⟨l,h4,fin_at j l h2⟩
    · rw [if_neg (by rw [h2]; decide)]; exact h3) (fun l l' e => by
    obtain ⟨i,rfl,e2⟩:=fin_of l l' e
    exact ⟨i,rfl,lbs_isM e2,by have:=(List.getElem?_eq_some_iff.mp (lbs_isM e2)).1; rw [List.length_map] at this; exact zo64 l2 this⟩)
  refine ⟨_,rfl,rfl,⟨_,ri⟩,by rw [List.length_map,l1,l2],?_⟩
  intro fr d ρ2 σ2 v G2 H2 z hl hr
  rw [List.length_map] at hl
  rw [putK_eq hl]
  have out:∀ (pd2 pd3:List (D × V)) (O2:Own),RO ⟨G,H,ownM fin O,msV (ks.map AK.isM) vs,0⟩ (ks.map AK.isM) G2 ρ2 σ2 H2 pd2 O2 → C.np ≤ pd3.length →
      (∀ (O3:Own),(∀ a l π,O a = some (l,π) → fin l = none → O3 a = some (l,π) ∧ H2 a = H a) → (∀ a l l' π,O2 a = some (l',π) → fbk l' = some l → O3 a = some (l,π)) → TSame G G2 → Pend G2 H2 O3 pd3) →
      RO C ow G2 (putR ks ρ2 ρ) σ H2 pd3 (ownB fin fbk O O2):=fun pd2 pd3 O2 r2 hn3 hP => by
    refine ro.out (vs:=vs) r2 ?_ (by rw [putR_len]; exact ro.len) hn3 ?_ ?_ hP
    · intro l0 l' l e1 e2
      obtain ⟨i,rfl,e3⟩:=fin_of l0 l' e1
      change (if 2 * i = 1 then _ else if 2 * i % 2 = 0 then _ else _) = _ at e2
      rw [if_neg (by exact zo37),if_pos (by exact zo3),show 2 * i / 2 = i by exact zo2,e3] at e2
      exact (Option.some.inj e2).symm
    · intro i d c e
      rcases putR_at e hl with ⟨_,h2⟩ | ⟨k,h1,_⟩
      · exact h2
      · exact absurd (hw i (slot_of h1)) c
    · intro i d c e
      rcases putR_at e hl with ⟨h1,h2⟩ | ⟨j,h1,h2⟩
      · refine .inl ⟨fin_none _ fun j e => ?_,h2⟩
        rcases lbs_odd e with ⟨z,h3,h4⟩ | ⟨z,h3,h4⟩
        · exact h1 (by rw [show i = z by exact zo16 h4]; exact h3)
        · exact zo65 h4
      · obtain ⟨u,g1,g2⟩:=args_slot ha h1
        have im:(ks.map AK.isM)[j]? = some true:=by rw [List.getElem?_map,h1]; rfl
        refine .inr ⟨j,u,?_,im,h2,g2,r2.mp j u (msV_at im g1)⟩
        show (if 2 * j = 1 then _ else if 2 * j % 2 = 0 then _ else _) = _
        rw [if_neg (by exact zo37),if_pos (by exact zo3),show 2 * j / 2 = j by exact zo2,lbs_m h1]
  have pdk:∀ (O3:Own),(∀ a l π,O a = some (l,π) → fin l = none → O3 a = some (l,π) ∧ H2 a = H a) → TSame G G2 → Pend G2 H2 O3 pd:=fun O3 h1 ts =>
    Pend.keep ts (fun a j π hj e => h1 a _ _ e (fin_none _ fun i e => by
      rcases lbs_odd e with ⟨z,h3,h4⟩ | ⟨z,h3,h4⟩ <;> (first|lia|omega))) (pend_tail (T:=T.reverse) pn)
  have kp:Kp ow ρ (putR ks ρ2 ρ):=fun j hj => putR_off fun hs => hj (hw j hs)
  refine ⟨kp,?_⟩
  unfold Ret at hr
  split at hr
  · rename_i c
    rw [if_pos c]
    obtain ⟨O2,r2⟩:=hr
    refine ⟨_,out _ ((d,v) :: pd) O2 r2 (Nat.le_succ_of_le hn) fun O3 h1 h2 ts => ⟨?_,pdk O3 h1 ts⟩⟩
    exact r2.pn.1.keep (fun _ _ z => z) fun a τ e => ⟨h2 a _ _ _ e (by show (if 2 * 0 + 1 = 1 then _ else _) = _; rw [if_pos rfl]),rfl⟩
  · rename_i c
    rw [if_neg c]
    obtain ⟨⟨O2,r2⟩,p⟩:=hr
    exact ⟨⟨_,out _ pd O2 r2 hn fun O3 h1 h2 ts => pdk O3 h1 ts⟩,p⟩
def XRep (H:Hp) (ns:List Str) (ds:List D):Option Addr → Prop
  | none => ns = [] ∧ ds = []
  | some d => ∃ xs,H d = some (.xd (ns.zip xs)) ∧ xs.length = ns.length ∧ Reps H ds xs
abbrev XD:=Addr → List Str → List D → DSt → Prop
abbrev SpX:=List D → (D → DSt → Prop) → XD → Prop
def spOfX (mu:List Bool) (fr:Bool) (sd:SpX):Sp:=fun vs H Q E => ∃ (C:Ctx) (G:Hp) (ds:List D) (q:D → DSt → Prop) (qx:XD),C.np = 0 ∧ C.mu = msV mu vs ∧ R C mu G (ds.map some) (vs.map some) H [] ∧ sd ds q qx ∧ mu.length = ds.length ∧
  (∀ d ρ' σ' v G' H',q d (mus mu ρ') → Same G G' → ρ'.length = mu.length → Ret fr C mu G' ρ' σ' H' d v → Q v H') ∧
  (∀ c ns es ρ' σ' dx G' H',qx c ns es (mus mu ρ') → Same G G' → ρ'.length = mu.length → R C mu G' ρ' σ' H' [] → XRep G' ns es dx → E (.ref c) dx H')
theorem run_callX {C:Ctx} {ow:List Bool} {G:Hp} {ρ:DSt} {σ:St} {H:Hp} {pd T:List (D × V)} {ks:List AK} {ds ds':List D} {vs:List V} {fr:Bool} {sd:SpX} {q:D → DSt → Prop} {qx:XD} {Q:VK} {E:XK}
    (hn:C.np ≤ pd.length) (r:R C ow G ρ σ H (T.reverse ++ pd)) (ha:ArgsK G σ ks ds vs T) (hf:fillA ks ds ρ = some ds') (nd:(slotsOf ks).Nodup) (hw:∀ i ∈ slotsOf ks,ow[i]? = some true)
    (h:sd ds' (fun d os => q d (putK ks os ρ)) fun c ns es os => qx c ns es (putK ks os ρ))
    (k:∀ d ρ' v G' H',q d ρ' → Same G G' → Kp ow ρ ρ' → (if fr = true then R C ow G' ρ' σ H' ((d,v) :: pd) else R C ow G' ρ' σ H' pd ∧ Rep G' d v) → Q v H')
    (kx:∀ c ns es ρ' dx G' H',qx c ns es ρ' → Same G G' → Kp ow ρ ρ' → R C ow G' ρ' σ H' pd → XRep G' ns es dx → E (.ref c) dx H'):spOfX (ks.map AK.isM) fr sd vs H Q E:=by
  obtain ⟨C',h1,h2,h3,h4,h5⟩:=call_frame hn r ha hf nd hw
  refine ⟨C',G,ds',_,_,h1,h2,h3,h,h4,fun d ρ' σ' v G' H' hq z hl hr => ?_,fun c ns es ρ' σ' dx G' H' hq z hl hr hx => ?_⟩
  · obtain ⟨kp,hr⟩:=h5 fr d ρ' σ' v G' H' z hl hr
    exact k d _ v G' H' hq z kp hr
  · obtain ⟨kp,hr⟩:=h5 false .non ρ' σ' .non G' H' z hl (by unfold Ret; rw [if_neg (by decide)]; exact ⟨hr,rep_non⟩)
    rw [if_neg (by decide)] at hr
    exact kx c ns es _ dx G' H' hq z kp hr.1 hx
section
variable {X:Cx} {E:Value → Shared → Prop} {p:List (Addr × Obj)}
theorem FpOk.tr {pins:List (Addr × Obj)} {H:Hp} {b:Addr} (h:FpOk X (p ++ pins) H b):FpOk (X.tr E p) pins H b:=⟨h.1,h.2.1,h.2.2.1,h.2.2.2.1,h.2.2.2.2.1,fun q hq => h.2.2.2.2.2 q (by simpa using hq)⟩
theorem PI.any {tg iter:Expr} {wi:TI} (h:PI X.nox tg iter wi):PI (X.tr E p) tg iter wi:=⟨fun pins s σ H R I hw =>
  wpAny_mono (h (p ++ pins) s σ H R (I.untr.wish _) hw) (fun v s1 h1 => wpAny_mono h1 (fun u s2 ⟨it,fp,tn,J,H',e,I',T,t0,f,r⟩ => ⟨it,fp,tn,J,H',e,(I'.unwish).tr,T,t0,fun b hb => FpOk.tr (f b hb),r⟩) fun _ _ z => False.elim z) fun _ _ z => False.elim z⟩
theorem PG.any {tg:Expr} {t:TG} (h:PG X.nox tg t):PG (X.tr E p) tg t:=⟨fun pins s σ H v u Q I r hw =>
  wpAny_mono (h (p ++ pins) s σ H v u Q (I.untr.wish _) r hw) (fun _ s1 ⟨σ',H',I',q⟩ => ⟨σ',H',(I'.unwish).tr,q⟩) fun _ _ z => False.elim z⟩
end
structure KsX (C:Ctx) (ow:List Bool) (G:Hp) (pd:List (D × V)) (xx:XD) (xk:XS):Prop where
  go:∀ c ns es ρ σ dx G' H,xx c ns es ρ → Same G G' → R C ow G' ρ σ H pd → XRep G' ns es dx → xk σ (.ref c) dx H
theorem KsX.mono {C:Ctx} {ow:List Bool} {G G1:Hp} {pd:List (D × V)} {xx:XD} {xk:XS} (h:KsX C ow G pd xx xk) (s:Same G G1):KsX C ow G1 pd xx xk:=⟨fun c ns es ρ σ dx G' H a b => h.go c ns es ρ σ dx G' H a (s.trans b)⟩
abbrev MSX:=XD → MS
abbrev MEX:=XD → ME
def Good (X:Cx) (E:Value → Shared → Prop) (p:List (Addr × Obj)) (xk:XS):Prop:=PassesOwn (model X.prog X.w) X.A X.env E ∧ Acc (X.tr E p) xk
def SSX (M:Md) (t:XS → TS) (m:MSX):Prop:=∀ (C:Ctx) (G:Hp) (ρ:DSt) (σ:St) (H:Hp) (n:EndsD) (D:Ends) (xx:XD) (xk:XS),MuOk C M.mu → C.np = 0 → R C M.ow G ρ σ H [] → m xx n ρ → Ks C M.ow M.fr G n D → KsX C M.ow G [] xx xk → t xk D σ H
def SEX (ow:List Bool) (t:XS → TE) (m:MEX):Prop:=∀ (C:Ctx) (G:Hp) (ρ:DSt) (σ:St) (H:Hp) (pd:List (D × V)) (q:D → DSt → Prop) (Q:VK) (xx:XD) (xk:XS),R C ow G ρ σ H pd → m xx ρ q → KsX C ow G pd xx xk →
  (∀ d ρ' v G' H',q d ρ' → Same G G' → Kp ow ρ ρ' → R C ow G' ρ' σ H' pd → Rep G' d v → Q v H') → t xk σ H Q
def SFX (ow:List Bool) (t:XS → TE) (m:MEX):Prop:=∀ (C:Ctx) (G:Hp) (ρ:DSt) (σ:St) (H:Hp) (pd:List (D × V)) (q:D → DSt → Prop) (Q:VK) (xx:XD) (xk:XS),R C ow G ρ σ H pd → m xx ρ q → KsX C ow G pd xx xk →
  (∀ d ρ' v G' H',q d ρ' → Same G G' → Kp ow ρ ρ' → R C ow G' ρ' σ H' ((d,v) :: pd) → Q v H') → t xk σ H Q
structure QX (X:Cx) (M:Md) (st:Stmt) (m:MSX):Prop where
  ex:∃ t,(∀ E p xk,Good X E p xk → PS (X.tr E p) st (t xk)) ∧ SSX M t m
structure QXs (X:Cx) (M:Md) (st:List Stmt) (m:MSX):Prop where
  ex:∃ t,(∀ E p xk,Good X E p xk → PSs (X.tr E p) st (t xk)) ∧ SSX M t m
structure QXE (X:Cx) (ow:List Bool) (e:Expr) (m:MEX):Prop where
  ex:∃ t,(∀ E p xk,Good X E p xk → PE (X.tr E p) e (t xk)) ∧ SEX ow t m
structure QXF (X:Cx) (ow:List Bool) (e:Expr) (m:MEX):Prop where
  ex:∃ t,(∀ E p xk,Good X E p xk → PE (X.tr E p) e (t xk)) ∧ SFX ow t m
section
variable {X:Cx} {M:Md} {a b c e:Expr} {mt:MT} {pos pos':Pos} {st:Stmt} {rest:List Stmt} {m:MS} {m1 m2:MSX} {mex:MEX}
theorem qx_of (h:QS X.nox M st m):QX X M st (fun _ => m):=by
  obtain ⟨t,p,s⟩:=h
  exact ⟨fun _ => t,fun E q xk g => PS.any p,fun C G ρ σ H n D xx xk hm hn r h k kx => s C G ρ σ H n D hm hn r h k⟩
theorem qxs_nil:QXs X M [] (fun _ => mNext):=⟨fun _ => _,fun E q xk g => pss_nil,fun C G ρ σ H n D xx xk hm hn r h k kx => k.nx ρ σ G H h (Same.refl _) r⟩
theorem qxs_one (h:QX X M st m1):QXs X M [st] m1:=by obtain ⟨t,p,s⟩:=h; exact ⟨_,fun E q xk g => pss_one (p E q xk g),s⟩
theorem qxs_cons (h:QX X M st m1) (h2:QXs X M rest m2):QXs X M (st :: rest) (fun xx => mSeq (m1 xx) (m2 xx)):=by
  obtain ⟨t,p,s⟩:=h; obtain ⟨t2,p2,s2⟩:=h2
  refine ⟨fun xk => tSeq (t xk) (t2 xk),fun E q xk g => pss_cons (p E q xk g) (p2 E q xk g),fun C G ρ σ H n D xx xk hm hn r h k kx => s C G ρ σ H _ _ xx xk hm hn r h ?_ kx⟩
  exact ⟨fun ρ' σ' G' H' h' z r' => s2 C G' ρ' σ' H' n D xx xk hm hn r' h' (k.mono z) (kx.mono z),k.bk,k.ct,k.rt⟩
theorem qx_if {s1 s2:List Stmt} (h:QT X.nox M.ow c mt) (h1:QXs X M s1 m1) (h2:QXs X M s2 m2):QX X M (.If c s1 s2 pos) (fun xx => mIfS mt (m1 xx) (m2 xx)):=by
  obtain ⟨t,p,s⟩:=h; obtain ⟨t1,p1,s1⟩:=h1; obtain ⟨t2,p2,s2⟩:=h2
  refine ⟨fun xk => tIfS t (t1 xk) (t2 xk),fun E q xk g => ps_if (PT.any p) (p1 E q xk g) (p2 E q xk g),fun C G ρ σ H n D xx xk hm hn r h k kx => s C G ρ σ H [] _ _ r h fun b ρ' G' H' hq z kp r' => ?_⟩
  cases b with
  | true => rw [if_pos rfl] at hq ⊢; exact s1 C G' ρ' σ H' n D xx xk hm hn r' hq (k.mono z) (kx.mono z)
  | false => rw [if_neg (by decide)] at hq ⊢; exact s2 C G' ρ' σ H' n D xx xk hm hn r' hq (k.mono z) (kx.mono z)
theorem qx_drop (h:QXE X M.ow e mex) (hs:swapsWith e none pos.line X.env = pure false:=by rfl):QX X M (.Expr e pos) (fun xx => mDrop (mex xx)):=by
  obtain ⟨t,p,s⟩:=h
  exact ⟨fun xk => tDrop (t xk),fun E q xk g => ps_expr (p E q xk g) hs,fun C G ρ σ H n D xx xk hm hn r h k kx => s C G ρ σ H [] _ _ xx xk r h kx fun d ρ' v G' H' hq z kp r' p => k.nx ρ' σ G' H' hq z r'⟩
theorem qx_ret (h:QXE X M.ow e mex) (hf:M.fr = false:=by rfl):QX X M (.Return (some e) pos) (fun xx => mRet (mex xx)):=by
  obtain ⟨t,p,s⟩:=h
  exact ⟨fun xk => tRet (t xk),fun E q xk g => ps_ret (p E q xk g),fun C G ρ σ H n D xx xk hm hn r h k kx => s C G ρ σ H [] _ _ xx xk r h kx fun d ρ' v G' H' hq z kp r' p => k.rt d ρ' σ v G' H' hq z (by unfold Ret; rw [if_neg (by rw [hf]; decide)]; exact ⟨r',p⟩)⟩
variable {mg:MG}
theorem qx_for {mi:MA} {tg iter:Expr} {body:List Stmt} (hc:X.calm = true) (hi:QI X.nox M.ow tg iter mi) (hg:QG X.nox M tg mg) (hb:QXs X M body m1)
    (hs:∀ x,foldedSetIterable iter X.env x = pure x:=by intro _; rfl):QX X M (.For tg iter body [] pos) (fun xx => mFor mi mg (m1 xx)):=by
  obtain ⟨ti,pi,si⟩:=hi; obtain ⟨tg',pg,sg⟩:=hg; obtain ⟨tb,pb,sb⟩:=hb
  refine ⟨fun xk => tFor ti tg' (tb xk),fun E q xk g => ps_for g.1 hc (PI.any pi) (PG.any pg) (pb E q xk g) hs,fun C G ρ σ H n D xx xk hm hn r h k kx => si C G ρ σ H [] _ _ r h fun ds ρ0 G0 H0 J hq z0 kp r0 jo => ?_⟩
  obtain ⟨I,i0,turn,fin⟩:=hq
  refine ⟨fun i j σ' H' => j = ds.length - i ∧ i ≤ ds.length ∧ ∃ G' ρ',Same G0 G' ∧ R C M.ow G' ρ' σ' H' [] ∧ I i ρ',⟨_,rfl,Nat.zero_le _,G0,ρ0,Same.refl _,r0,i0⟩,?_⟩
  rintro i j σ' H' ⟨rfl,hi,G',ρ',z,r',w⟩
  obtain ⟨st,go⟩:=jo C M.ow G' ρ' σ' H' [] i z r'
  by_cases hlt:i < ds.length
  · obtain ⟨g1,g2⟩:=go ds[i] (List.getElem?_eq_getElem hlt)
    refine .inr ⟨g1,fun σ2 H2 => ∃ G2 ρ2,Same G0 G2 ∧ R C M.ow G2 ρ2 σ2 H2 [] ∧ I (i + 1) ρ2,fun σ2 H2 h => ⟨ds.length - (i + 1),by exact zo4 hlt,rfl,hlt,h⟩,fun x H1 hy => ?_⟩
    obtain ⟨G1,z1,r1,p1⟩:=g2 x H1 hy
    refine sg C G1 ρ' σ' H1 [] ds[i] x _ _ hm r1 p1 (turn i ds[i] ρ' (List.getElem?_eq_getElem hlt) w) fun ρ2 σ2 h2 r2 => ?_
    refine sb C G1 ρ2 σ2 H1 _ _ xx xk hm hn r2 h2 ⟨?_,?_,?_,?_⟩ (kx.mono (z0.trans (z.trans z1)))
    · intro ρ3 σ3 G3 H3 h3 z3 r3; exact ⟨G3,ρ3,z.trans (z1.trans z3),r3,h3⟩
    · intro ρ3 σ3 G3 H3 h3 z3 r3; exact k.nx ρ3 σ3 G3 H3 h3 (z0.trans (z.trans (z1.trans z3))) r3
    · intro ρ3 σ3 G3 H3 h3 z3 r3; exact ⟨G3,ρ3,z.trans (z1.trans z3),r3,h3⟩
    · intro d ρ3 σ3 v G3 H3 h3 z3 r3; exact k.rt d ρ3 σ3 v G3 H3 h3 (z0.trans (z.trans (z1.trans z3))) r3
  · have e:i = ds.length:=by exact zo11 hi hlt
    subst e
    exact .inl ⟨st (Nat.le_refl _),k.nx ρ' σ' G' H' (fin ρ' w) (z0.trans z) r'⟩
variable {es:List Expr} {ks:List AK} {mr:MA} {x:Str} {p':Pos} {ow:List Bool}
def mCallX (ks:List AK) (sd:SpX) (m:MA):MEX:=fun xx ρ q => m ρ fun ds ρ1 => match fillA ks ds ρ1 with
  | some ds' => sd ds' (fun d os => q d (putK ks os ρ1)) fun c ns es os => xx c ns es (putK ks os ρ1)
  | none => False
end
section
variable {X:Cx} {M:Md} {e:Expr} {es:List Expr} {ks:List AK} {mr:MA} {x:Str} {pos p':Pos} {ow:List Bool} {mu:List Bool} {k:Nat} {f:Addr} {fd:FuncData} {ps:List Str} {sd:SpX}
theorem qxe_call (F:FnOk X.prog X.w X.K X.mg X.base (CX1 X.prog X.w) k f fd ps (spOfX mu false sd)) (hr:Room k X.A) (hg:Gl X x) (hm:X.mg x = some (.ref f)) (hk:PySem.W.keepIn X.K (.ref f) = true) (hb:Binds X.K fd ps [])
    (ha:QAk X.nox ow ks (e :: es) mr) (hex:X.ex = []:=by rfl) (hmu:mu = ks.map AK.isM:=by rfl) (nd:(slotsOf ks).Nodup:=by decide) (hw:∀ i ∈ slotsOf ks,ow[i]? = some true:=by decide) (hdb:(x == ("__debug__":Str)) = false:=by decide)
    (he:starEach (e :: es) X.env = (false,eval e X.env) :: starEach es X.env:=by rfl) (hpl:(backTo pos (starEach es X.env)).any (·.1) = false:=by rfl):QXE X ow (.Call (.Name x p') (e :: es) [] pos) (mCallX ks sd mr):=by
  obtain ⟨t,p,s⟩:=ha
  subst hmu
  refine ⟨fun xk => tCallX xk (spOfX (ks.map AK.isM) false sd) t,fun E q xk g => pe_callX (X:=X.tr E q) hex g.2 F hr hg hm hk hb (PA.any p) hdb he hpl,fun C G ρ σ H pd q Q xx xk r hm kx k => s C G ρ σ H pd _ _ r hm fun ds ρ' vs T G' H' hq z kp r' p => ?_⟩
  split at hq
  · rename_i ds' ef
    exact run_callX (fr:=false) r.np r' p ef nd hw hq (fun d ρ2 v G2 H2 hq2 z2 kp2 h2 => by
      rw [if_neg (by decide)] at h2
      exact k d ρ2 v G2 H2 hq2 (z.trans z2) (kp.trans kp2) h2.1 h2.2) fun c ns es ρ2 dx G2 H2 hq2 z2 kp2 r2 x2 => kx.go c ns es ρ2 σ dx G2 H2 hq2 (z.trans z2) r2 x2
  · exact hq.elim
theorem qxf_call (F:FnOk X.prog X.w X.K X.mg X.base (CX1 X.prog X.w) k f fd ps (spOfX mu true sd)) (hr:Room k X.A) (hg:Gl X x) (hm:X.mg x = some (.ref f)) (hk:PySem.W.keepIn X.K (.ref f) = true) (hb:Binds X.K fd ps [])
    (ha:QAk X.nox ow ks (e :: es) mr) (hex:X.ex = []:=by rfl) (hmu:mu = ks.map AK.isM:=by rfl) (nd:(slotsOf ks).Nodup:=by decide) (hw:∀ i ∈ slotsOf ks,ow[i]? = some true:=by decide) (hdb:(x == ("__debug__":Str)) = false:=by decide)
    (he:starEach (e :: es) X.env = (false,eval e X.env) :: starEach es X.env:=by rfl) (hpl:(backTo pos (starEach es X.env)).any (·.1) = false:=by rfl):QXF X ow (.Call (.Name x p') (e :: es) [] pos) (mCallX ks sd mr):=by
  obtain ⟨t,p,s⟩:=ha
  subst hmu
  refine ⟨fun xk => tCallX xk (spOfX (ks.map AK.isM) true sd) t,fun E q xk g => pe_callX (X:=X.tr E q) hex g.2 F hr hg hm hk hb (PA.any p) hdb he hpl,fun C G ρ σ H pd q Q xx xk r hm kx k => s C G ρ σ H pd _ _ r hm fun ds ρ' vs T G' H' hq z kp r' p => ?_⟩
  split at hq
  · rename_i ds' ef
    exact run_callX (fr:=true) r.np r' p ef nd hw hq (fun d ρ2 v G2 H2 hq2 z2 kp2 h2 => by
      rw [if_pos rfl] at h2
      exact k d ρ2 v G2 H2 hq2 (z.trans z2) (kp.trans kp2) h2) fun c ns es ρ2 dx G2 H2 hq2 z2 kp2 r2 x2 => kx.go c ns es ρ2 σ dx G2 H2 hq2 (z.trans z2) r2 x2
  · exact hq.elim
end
theorem Fun.okX {P:Program} {w:World} {K:PySem.W.Frag} {mg:Str → Option Value} {base:Heap} {x qual:Str} {st:Stmt} {f:Addr} {fd:FuncData} {N ps:List Str} {k:Nat} {sp:Sp} (F:Fun K x qual st f fd) (S:FnScope N ps (defScope st)) (len:∀ vs H Q E,sp vs H Q E → vs.length = ps.length)
    (hbody:∀ (cdv:Value) (A:Around) (outer:List Env) (s:Shared) (H:Hp) (vs:List V) (Q:VK) (E:XK),Room k (A.deeper (envOfC qual (defScope st) s.heap.objs.size f cdv)) → sp vs H Q E →
      ∃ t,PSs (cxOf (CX1 P w) P w K mg base N qual (defScope st) f cdv A outer s H E) (defBody st) t ∧ t { nx:=fun _ H' => Q .non H',rt:=Q } (start N vs) H):FnOk P w K mg base (CX1 P w) (k + 1) f fd ps sp:=by
  obtain ⟨oc,od,kV,doc,pm,an,cdv,ct,osl,rfl,lk,hcd⟩:=F.ex
  exact fn_of lk hcd S len fun A outer s H vs Q E hr hsp => hbody cdv A outer s H vs Q E hr hsp
theorem fnX {P:Program} {w:World} {K:PySem.W.Frag} {mg:Str → Option Value} {base:Heap} {x qual:Str} {st:Stmt} {f:Addr} {fd:FuncData} {N ps:List Str} {k:Nat} (F:Fun K x qual st f fd) (S:FnScope N ps (defScope st)) (M:Md) (sd:SpX)
    (hl:∀ ds q qx,sd ds q qx → ds.length = ps.length) (ho:M.ow.take ps.length = M.mu) (hml:M.mu.length = ps.length)
    (hbody:∀ (cdv:Value) (A:Around) (outer:List Env) (s:Shared) (H:Hp) (E:XK),Room k (A.deeper (envOfC qual (defScope st) s.heap.objs.size f cdv)) →
      ∃ m,QXs (cxOf (CX1 P w) P w K mg base N qual (defScope st) f cdv A outer s H E) M (defBody st) m ∧ ∀ ds q qx,sd ds q qx → m (fun c ns es ρ => qx c ns es (mus M.mu ρ)) (endsOf M.mu q) (ds.map some ++ List.replicate (N.length - ps.length) none)) :
    FnOk P w K mg base (CX1 P w) (k + 1) f fd ps (spOfX M.mu M.fr sd):=by
  have hov:∀ i:Nat,i < M.mu.length → M.ow[i]? = M.mu[i]?:=fun i hi => by rw [← ho,List.getElem?_take_of_lt (by exact zo51 hml hi)]
  have hlen:∀ vs H Q E,spOfX M.mu M.fr sd vs H Q E → vs.length = ps.length:=fun vs H Q E ⟨C,G,ds,q,qx,_,_,⟨O,ro⟩,h1,_,_⟩ => by
    have:=ro.len; simp at this; rw [← this]; exact hl ds q qx h1
  refine F.okX S hlen fun cdv A outer s H vs Q E hr hsp => ?_
  obtain ⟨m,⟨t,p,ss⟩,hm⟩:=hbody cdv A outer s H E hr
  have hvl:=hlen vs H Q E hsp
  obtain ⟨C,G,ds,q,qx,hnp,hmu,⟨O,ro⟩,hsd,hml2,kk,kkx⟩:=hsp
  refine ⟨t (fun _ => E),p _ [] (fun _ => E) ⟨PassesOwn.leaving,acc_fn⟩,?_⟩
  have hmo:MuOk C M.mu:=fun i v e => by rw [hmu] at e; exact (msV_of e).1
  have r0:R C M.ow G (ds.map some ++ List.replicate (N.length - ps.length) none) (start N vs) H []:=by
    unfold start; rw [hvl]
    exact ⟨O,ro.grow _ fun i hi => hov i (by exact zo28 hml hvl hml2 hi)⟩
  refine ss C G _ _ H (endsOf M.mu q) _ _ _ hmo hnp r0 (hm ds q qx hsd) ⟨?_,fun _ _ _ _ h => h.elim,fun _ _ _ _ h => h.elim,?_⟩ ⟨?_⟩
  · intro ρ σ G' H' h z ⟨O',r'⟩
    refine kk .non (padS M.mu.length ρ) (padS M.mu.length σ) .non G' H' (by rw [padS_mus]; exact h) z (padS_len _ _) (R.non ⟨O',r'.trim hmo hov⟩)
  · intro d ρ σ v G' H' h z hr'
    refine kk d (padS M.mu.length ρ) (padS M.mu.length σ) v G' H' (by rw [padS_mus]; exact h) z (padS_len _ _) ?_
    unfold Ret at hr' ⊢
    split at hr'
    · rename_i c; rw [if_pos c]; obtain ⟨O',r'⟩:=hr'; exact ⟨O',r'.trim hmo hov⟩
    · rename_i c; rw [if_neg c]; obtain ⟨⟨O',r'⟩,p⟩:=hr'; exact ⟨⟨O',r'.trim hmo hov⟩,p⟩
  · intro c ns es ρ σ dx G' H' h z ⟨O',r'⟩ hx
    exact kkx c ns es (padS M.mu.length ρ) (padS M.mu.length σ) dx G' H' (by rw [padS_mus]; exact h) z (padS_len _ _) ⟨O',r'.trim hmo hov⟩ hx
theorem RO.gone {C:Ctx} {ow:List Bool} {G:Hp} {ρ:DSt} {σ:St} {H:Hp} {pd:List (D × V)} {O:Own} (h:RO C ow G ρ σ H pd O) (i:Nat) (hm:∀ v,C.mu[i]? ≠ some (some v)):RO C ow G (ρ.set i none) (σ.set i none) H pd O:=by
  refine ⟨by simpa using h.len,h.gh,h.g0,h.gn,h.og,h.cok,h.fr,h.al,fun j v e => ?_,fun j d e => ?_,h.pn,h.np⟩
  · have:i ≠ j:=fun z => by subst z; exact hm v e
    rw [List.getElem?_set_ne this]; exact h.mp j v e
  · have:i ≠ j:=fun z => by
      subst z
      rw [List.getElem?_set] at e
      split at e
      · split at e <;> cases e
      · rename_i c; exact c rfl
    rw [List.getElem?_set_ne this] at e ⊢
    exact h.sl j d e
end L2
namespace L2
open PySem PySem.Spec PyProof.Rows PySem.W Builtin.ObjectAttr
section
variable {prog:Program} {w:World} {A:Around} {E:Value → Shared → Prop} {s:Shared} {K:PySem.W.Frag} {x D:Addr} {ox:Obj} {od:Option Obj} {name:Str} {bm:List Value} {ini:Option Value} {tk:Tok}
def xcOk (K:PySem.W.Frag) (D:Addr):Bool:=PySem.W.findIn K (.ref D) "__getattribute__" == some (some (.builtin "BaseException.__getattribute__")) && PySem.W.findIn K (.ref D) "__getattr__" == some none &&
  PySem.W.findIn K (.ref D) "__class__" == some (some (.builtin "object.__class__")) && PySem.W.specialIn K (.builtin "object.__class__") "__get__" == some (some (.builtin "getset_descriptor.__get__")) && PySem.W.takesIn K (.builtin "object.__class__") == some true &&
  PySem.W.mroIn K D (.type "object") == some true && PySem.W.hasDictIn K D
end
end L2
namespace L2
open PySem PySem.Spec PyProof.Rows
section
variable {X:Cx}
variable {ow:List Bool} {a:Expr} {ma:ME} {pos:Pos}
end
section
variable {K:PySem.W.Frag} {C a N:Addr} {dd nd:Option Addr} {nm qn:Str} {bs bm sub:List Value} {hd ab:Bool} {sn:List Str} {col:Option Bool} {k0 k1 k2 k3 k5 ini:Option Value} {no:Value} {es:Array DictEntry} {np:Nat} {nl:Array (Option Value)} {sl:Array (Option Value)} {oc:Value} {cd:ClassData}
theorem tail_bm:PySem.W.tailIn K bmV bmV = true:=by unfold PySem.W.tailIn; simp
theorem nsOk_mk (n:K.lookup N = some ⟨no,nd,.dict es np,nl⟩) (q:(es.all fun e => match e.key with | .str _ _ => true | _ => false) = true):PySem.W.nsOkIn K N = true:=by unfold PySem.W.nsOkIn; rw [n]; exact q
theorem tail_mk (l:K.lookup a = some ⟨oc,dd,.cls cd,sl⟩) (n:PySem.W.nsOkIn K cd.ns = true) (t:PySem.W.nsIn K cd.ns "__init__" = some none) (r:PySem.W.tailIn K bmV bm = true):PySem.W.tailIn K bmV (.ref a :: bm) = true:=by
  unfold PySem.W.tailIn
  simp only [l,n,t,r,beq_self_eq_true,Bool.and_self,Bool.or_true]
theorem xc_mk (l:K.lookup C = some ⟨.type "type",dd,.cls ⟨nm,bs,.ref C :: bm,N,qn,hd,sn,sub,ab,col,false⟩,#[k0,k1,k2,k3,some (.builtin "ValueError.__new__"),k5]⟩) (n:PySem.W.nsOkIn K N = true) (t:PySem.W.nsIn K N "__init__" = some ini)
    (r:PySem.W.tailIn K bmV bm = true):xcIn K C bm ini = true:=by
  unfold xcIn
  simp only [l,n,t,r,beq_self_eq_true,Bool.not_false,Bool.and_self]
theorem kit_val {t:Value} (s:PySem.W.subIn K t (.type "ValueError") = some true):PySem.W.kitOne K t (.type "ValueError") = some true:=by
  have c:PySem.W.kitCls K t (.type "ValueError") = some true:=by
    unfold PySem.W.kitCls
    show (if PySem.W.kitMeta "ValueError" = true then _ else _) = _
    rw [if_pos (by decide +kernel),s]
  unfold PySem.W.kitOne
  rw [c]
  split <;> rfl
theorem xcOk_mk (g:PySem.W.findIn K (.ref C) "__getattribute__" = some (some (.builtin "BaseException.__getattribute__"))) (h:PySem.W.findIn K (.ref C) "__getattr__" = some none) (c:PySem.W.findIn K (.ref C) "__class__" = some (some (.builtin "object.__class__")))
    (s:PySem.W.specialIn K (.builtin "object.__class__") "__get__" = some (some (.builtin "getset_descriptor.__get__"))) (t:PySem.W.takesIn K (.builtin "object.__class__") = some true) (m:PySem.W.mroIn K C (.type "object") = some true) (d:PySem.W.hasDictIn K C = true):xcOk K C = true:=by
  unfold xcOk
  simp only [g,h,c,s,t,m,d,beq_self_eq_true,Bool.and_self]
end
theorem fnT {P:Program} {w:World} {K:PySem.W.Frag} {mg:Str → Option Value} {base:Heap} {x qual:Str} {st:Stmt} {f:Addr} {fd:FuncData} {N ps:List Str} {k:Nat} (F:Fun K x qual st f fd) (S:FnScope N ps (defScope st)) (M:Md) (sd:SpD)
    (hl:∀ ds q,sd ds q → ds.length = ps.length) (ho:M.ow.take ps.length = M.mu) (hml:M.mu.length = ps.length)
    (hbody:∀ (cdv:Value) (A:Around) (outer:List Env) (s:Shared) (H:Hp) (E:XK),Room k (A.deeper (envOfC qual (defScope st) s.heap.objs.size f cdv)) →
      ∃ m,QXs (cxOf CX0 P w K mg base N qual (defScope st) f cdv A outer s H E) M (defBody st) m ∧ ∀ ds q,sd ds q → m (fun _ _ _ _ => False) (endsOf M.mu q) (ds.map some ++ List.replicate (N.length - ps.length) none)) :
    FnOk P w K mg base CX0 (k + 1) f fd ps (spOf M.mu M.fr sd):=by
  refine fnD F S M sd hl ho hml fun cdv A outer s H E hr => ?_
  obtain ⟨m,⟨t,p,ss⟩,hm⟩:=hbody cdv A outer s H E hr
  refine ⟨m fun _ _ _ _ => False,⟨t fun _ _ _ _ => False,p (fun _ _ => False) [] (fun _ _ _ _ => False) ⟨PassesOwn.never,⟨fun _ _ _ _ _ _ _ _ _ z => z.elim⟩⟩,fun C G ρ σ H n D hm hn r h k => ss C G ρ σ H n D _ _ hm hn r h k ⟨fun _ _ _ _ _ _ _ _ z => z.elim⟩⟩,hm⟩
section
variable {X:Cx}
variable {ow:List Bool} {a:Expr} {ma:ME} {pos:Pos}
end
section
variable {K:PySem.W.Frag} {t c:Value} {cs:List Value} {b:Bool}
end
section
variable {prog:Program} {w:World} {A:Around} {E:Value → Shared → Prop} {h:Heap} {g:Array GenState} {d:Drawn} {t:Nat} {os:OsState}
variable {nm q:Str} {C N:Addr} {bs bm:List Value} {hdct:Bool} {sn:List Str} {sub:List Value} {ab:Bool} {col:Option Bool} {dd:Option Addr} {k0 k1 k2 k3 k5:Option Value}
theorem typecall_init (T:OwnTail h bmV bm) {mN:Str → Option Value} {rest:List Value} {fI:Addr} {oI:Obj} {Q:Fin → Shared → Prop}
    (hC:h.get? C = some (excClassObj nm q C N bs bm hdct sn sub ab col dd k0 k1 k2 k3 k5 "ValueError.__new__")) (hn:h.Ns N mN) (hi:mN "__init__" = some (.ref fI)) (hfI:h.get? fI = some oI) (hfc:oI.cls = .type "function")
    (hq:∀ h' e,h.objs.size ≤ e → Heap.MadeExcOf h h' e (.ref C) rest → wpAny (model prog w) A (call (.ref fI) (.ref e :: rest)) (fun r s' => r = .none ∧ Q (.done (.ret (.ref e))) s') E ⟨h',g,d,t,os⟩) (hrest:rest.length ≤ sizeLine) :
    wpAny (model prog w) A (Builtin.«type.__call__» ⟨.ref C :: rest,[]⟩) Q E ⟨h,g,d,t,os⟩:=by
  have F:=PySem.F.excBase_ValueError
  repeat (first | with_reducible refine wpAny_loadPart_at hC ?_ | with_reducible refine wpAny_madeBy_exc hC ?_ | wp_step)
  refine codeAny_call_builtin_code (Code.quiet_builtin _ F.quiet) (wpAny_check_new_subT F T hC (codeAny_exc_new_subT F T hC ?_ hrest))
  show wpAny _ _ _ _ _ _
  generalize ho1:({ cls:=.type "tuple",data:=.seq rest.toArray }:Obj) = o1
  generalize ho2:({ cls:=.ref C,data:=.fields #[.ref h.objs.size,.none,.none,.none,.bool false,.none] }:Obj) = o2
  have keep:∀ b o,h.get? b = some o → ((h.push o1).push o2).get? b = some o:=fun b o z => Heap.get?_push_of_some _ (Heap.get?_push_of_some _ z)
  have hC₁:=keep _ _ hC
  have hfI₁:=keep _ _ hfI
  have hn₁:((h.push o1).push o2).Ns N mN:=hn.keeps keep
  have T₁:=T.keeps keep
  have hf2:o2.isFreed = false:=by rw [← ho2]; rfl
  have hf1:o1.isFreed = false:=by rw [← ho1]; rfl
  have hget:((h.push o1).push o2).get? (h.objs.size + 1) = some o2:=Heap.get?_push_at (by rw [Heap.size_push]) hf2
  have hcls:o2.cls = .ref C:=by rw [← ho2]
  have hcC:(Value.ref C :: bm).contains (.ref C) = true:=by simp
  unfold isInstance
  repeat (first | (with_reducible refine wpAny_loadPart_at hget ?_; rw [hcls]) | (with_reducible refine wpAny_isSubtype_exc hC₁ ?_; rw [hcC]) | wp_step)
  show wpAny _ _ (typeLookup (.ref C) _) _ _ _
  refine wpAny_typeLookup_tail hC₁ hn₁ T₁ F.mroIs F.init.lookup ?_
  rw [hi]
  refine wpAny_holding (wpAny_bind ?_)
  unfold bindSpecial
  refine wpAny_bind (wpAny_typeOf (T:="function") ⟨_,hfI₁,hfc⟩ ?_)
  rw [if_pos (by decide)]
  refine wpAny_pure (wpAny_bind (wpAny_mono (hq _ (h.objs.size + 1) (Nat.le_succ _) ⟨keep,Heap.get?_none_of_le (Nat.le_succ _),h.objs.size,by rw [hget,ho2],Heap.get?_none_of_le (Nat.le_refl _),?_⟩) (fun r s' hr => ?_) fun _ _ x => x))
  · rw [ho1]; exact Heap.get?_push_of_some _ (Heap.get?_push_at rfl hf1)
  · obtain ⟨rfl,hQ⟩:=hr
    wp_walk
    exact hQ
theorem call_init (T:OwnTail h bmV bm) {mN:Str → Option Value} {rest:List Value} {fI:Addr} {oI:Obj} {Q:Value → Shared → Prop}
    (hC:h.get? C = some (excClassObj nm q C N bs bm hdct sn sub ab col dd k0 k1 k2 k3 k5 "ValueError.__new__")) (hn:h.Ns N mN) (hi:mN "__init__" = some (.ref fI)) (hfI:h.get? fI = some oI) (hfc:oI.cls = .type "function")
    (hq:∀ h' e,h.objs.size ≤ e → Heap.MadeExcOf h h' e (.ref C) rest → wpAny (model prog w) (A.under (.builtin "type.__call__" ⟨.ref C :: rest,[]⟩)) (call (.ref fI) (.ref e :: rest)) (fun r s' => r = .none ∧ Q (.ref e) s') E ⟨h',g,d,t,os⟩) (hrest:rest.length ≤ sizeLine) :
    wpAny (model prog w) A (call (.ref C) rest) Q E ⟨h,g,d,t,os⟩:=by
  have f1:=tc_lookup
  have f2:=tc_bind (.ref C)
  have hT:(⟨h,g,d,t,os⟩:Shared).TypeIs (.ref C) "type":=⟨_,hC,rfl⟩
  refine wpAny_call (codeAny_of_tree ?_)
  show wpAny _ _ (callAny (.ref C) _) _ _ _
  repeat (any_goals (first | assumption | with_reducible refine wpAny_loadPart_at hC ?_ | wp_step))
  refine ⟨rfl,?_⟩
  refine codeAny_call_builtin_at (Code.quiet_builtin _ (by decide +kernel)) entry_typeCall (wpAny_check_type_call_sub hC (typecall_init T hC hn hi hfI hfc (fun h' e hz hm => ?_) hrest))
  exact hq h' e hz hm
end
section
variable {prog:Program} {w:World} {A:Around} {E:Value → Shared → Prop} {h:Heap} {g:Array GenState} {d:Drawn} {t:Nat} {os:OsState}
variable {nm q:Str} {C N:Addr} {bs bm:List Value} {hdct:Bool} {sn:List Str} {sub:List Value} {ab:Bool} {col:Option Bool} {dd:Option Addr} {k0 k1 k2 k3 k5:Option Value}
theorem init_base (T:OwnTail h bmV bm) {rest:List Value} {e:Addr} {oe:Obj} {vs:Array Value} {Q:Value → Shared → Prop}
    (hC:h.get? C = some (excClassObj nm q C N bs bm hdct sn sub ab col dd k0 k1 k2 k3 k5 "ValueError.__new__")) (he:h.get? e = some oe) (hcls:oe.cls = .ref C) (hd:oe.data = .fields vs) {x0:Value} (hx0:vs[0]? = some x0)
    (hq:Q .none ⟨(h.push { cls:=.type "tuple",data:=.seq rest.toArray }).update e (Obj.mapFields (·.setIfInBounds 0 (Value.ref h.objs.size))),g,d,t,os⟩) (hrest:rest.length ≤ sizeLine) :
    wpAny (model prog w) A (call (.builtin "ValueError.__init__") (.ref e :: rest)) Q E ⟨h,g,d,t,os⟩:=by
  have F:=PySem.F.excBase_ValueError
  have h0 : 0 < vs.size:=(Array.getElem?_eq_some_iff.mp hx0).1
  have he1:=Heap.get?_push_of_some { cls:=.type "tuple",data:=.seq rest.toArray } he
  refine wpAny_call (codeAny_call_builtin F.init.plain F.initEntry (wpAny_check_init_subT F T hC he hcls ?_))
  repeat (first | with_reducible refine wpAny_field he1 hd hx0 ?_ | with_reducible refine wpAny_setField he1 hd h0 ?_ | wp_step)
  cases x0 <;> (repeat wp_step) <;> exact hq
end
end L2
namespace L2
open PySem PySem.Spec PyProof.Rows PySem.W Builtin.ObjectAttr Builtin
theorem refuse_tail {h:Heap} {bm:List Value} (T:OwnTail h bmV bm) (self:Value):refuseLoop self "__setattr__" bm = pure ():=by
  induction T with
  | base => exact PySem.F.store_ValueError.passes self
  | own _ _ _ _ ih => exact (refuseLoop_ref self "__setattr__" _ _).trans ih
section
variable {prog:Program} {w:World} {A:Around} {E:Value → Shared → Prop} {s:Shared} {K:PySem.W.Frag} {x C:Addr} {ox:Obj} {od:Option Obj} {name:Str} {bm:List Value} {ini:Option Value} {v:Value}
theorem xc_cls (q:xcIn K C bm ini = true):∃ cd,clsIn K C = some cd ∧ cd.mro = .ref C :: bm:=by
  unfold xcIn at q
  split at q
  · rename_i dd cd sl ho
    split at q
    · rename_i C' bm' k0 k1 k2 k3 n k5 hm hs
      simp only [Bool.and_eq_true,beq_iff_eq] at q
      obtain ⟨⟨⟨⟨⟨⟨rfl,_⟩,_⟩,rfl⟩,_⟩,_⟩,_⟩:=q
      exact ⟨cd,by unfold clsIn; rw [ho],hm⟩
    · cases q
  · cases q
def xaOk (K:PySem.W.Frag) (C:Addr) (name:Str):Prop:=findIn K (.ref C) "__setattr__" = some (some (.builtin "object.__setattr__")) ∧ findIn K (.ref C) name = some none
theorem osa_exc {tk:Tok} {R:Result → Shared → Prop} (X:K.In s.heap) (I:InstAt s.heap x ox C od) (hc:xcIn K C bm ini = true) (hm:mroIn K C (.type "object") = some true) (ha:findIn K (.ref C) name = some none)
    (h:wpAny (model prog w) A.in1 (storeInOwnDict (.ref x) (.ref C) (.str name tk) name v false) (fun fin s' => match fin with | .done f => R (.ok f) s' | .again c' => c'.quiet = true ∧ codeAny (model prog w) A c' R s') (fun e s' => R (.error e) s') s) :
    codeAny (model prog w) A (.call (.builtin "object.__setattr__") ⟨[.ref x,.str name tk,v],[]⟩) R s:=by
  have F:=PySem.F.store_object
  obtain ⟨cd,hcd,hmro⟩:=xc_cls hc
  obtain ⟨N,nm,q,bs,hdct,sn,sub,ab,col,dd,k0,k1,k2,k3,k5,mN,hC,hN,hni,T⟩:=xobj_of X hc
  have L1:Looks (model prog w) s.heap (isInstance (.ref x) (.type "object")) true:=I.type.andThen (looks_mroIn X hm)
  have L2:Looks (model prog w) s.heap (mroOf (.ref C)) cd.mro:=(looks_clsIn X hcd).andThen .now
  refine codeAny_call_builtin F.slot.plain F.entry ?_
  refine check_slot (i:="object.__setattr__") (owner:="object") (n:="__setattr__") F.kind F.split L1 (F.args _ _ _) ?_
  rw [osa_eq,refuse_eq]
  refine wpAny_bind (wpAny_bind (I.type.here (wpAny_bind (L2.here ?_))))
  rw [hmro,refuseLoop_ref,refuse_tail T]
  refine wpAny_pure (wpAny_bind (I.type.here ?_))
  refine wpAny_bind ((looks_findIn X ha).here (wpAny_bind ?_))
  exact wpAny_pure h
theorem hasD (hd:hasDictIn K C = true):∃ cd,clsIn K C = some cd ∧ cd.hasDict = true:=any_some hd
theorem xset1 {d0:Addr} {mA:Str → Option Value} {ns:List Str} {Q:Unit → Shared → Prop} {vs:Array Value} {sl:Array (Option Value)} (X:K.In s.heap) (hx:s.heap.get? x = some ⟨.ref C,some d0,.fields vs,sl⟩) (hn:s.heap.Ns1 d0 mA) (hne:d0 ≠ x)
    (hc:xcIn K C bm ini = true) (ho:xcOk K C = true) (hs:xaOk K C name) (hw:PySem.Within mA ns) (hz:ns.length ≤ 100)
    (h:∀ h' tk',h'.Ns1 d0 (fun y => if y = name then some v else mA y) → Heap.SameBut d0 s.heap h' → Q () { s with heap:=h',toks:=tk' }):wpAny (model prog w) A (setAttr (.ref x) name v) Q E s:=by
  obtain ⟨o,es,ep,e1,e2⟩:=id hn
  have J:InstAt s.heap x ⟨.ref C,some d0,.fields vs,sl⟩ C (some o):=⟨hx,rfl,rfl,e1⟩
  simp only [xcOk,Bool.and_eq_true,beq_iff_eq] at ho
  obtain ⟨cd,hcd,hd'⟩:=hasD ho.2
  refine set_plain X J hs.1 (osa_exc (s:={ s with toks:=s.toks + 1 }) X J hc ho.1.2 hs.2 ?_)
  refine wpAny_bind (wpAny_pure (wpAny_bind (wpAny_bind (wpAny_loadPart hx (wpAny_bind (Looks.here (s:={ s with toks:=s.toks + 1 }) (looks_clsIn X hcd) ?_))))))
  rw [hd']
  refine wpAny_pure (a:=some d0) (wpAny_bind (wpAny_pure (wpAny_bind ?_)))
  refine wpAny_nsSet1 (s:={ s with toks:=s.toks + 1 }) hn fun h' hn2 hs2 => ?_
  obtain ⟨oD,esD,epD,hoD,hdD,hcD⟩:=hn2.count (Within.cons name v hw)
  refine wpAny_bind (wpAny_lookBehind hoD ?_ ?_)
  · rw [hdD]; exact pastItsLine_dict (Nat.le_trans hcD (by rw [List.length_cons,sizeLine_eq]; exact zo252 hz))
  · exact wpAny_pure (h h' _ hn2 hs2)
theorem xset0 {Q:Unit → Shared → Prop} {vs:Array Value} {sl:Array (Option Value)} (X:K.In s.heap) (hx:s.heap.get? x = some ⟨.ref C,none,.fields vs,sl⟩)
    (hc:xcIn K C bm ini = true) (ho:xcOk K C = true) (hs:xaOk K C name)
    (h:∀ h' tk',h'.Ns1 s.heap.objs.size (fun y => if y = name then some v else none) → h'.get? x = some ⟨.ref C,some s.heap.objs.size,.fields vs,sl⟩ → (∀ b o,b ≠ x → s.heap.get? b = some o → h'.get? b = some o) → Q () { s with heap:=h',toks:=tk' }) :
    wpAny (model prog w) A (setAttr (.ref x) name v) Q E s:=by
  have J:InstAt s.heap x ⟨.ref C,none,.fields vs,sl⟩ C none:=⟨hx,rfl,rfl,trivial⟩
  simp only [xcOk,Bool.and_eq_true,beq_iff_eq] at ho
  obtain ⟨cd,hcd,hd'⟩:=hasD ho.2
  refine set_plain X J hs.1 (osa_exc (s:={ s with toks:=s.toks + 1 }) X J hc ho.1.2 hs.2 ?_)
  refine wpAny_bind (wpAny_pure (wpAny_bind (wpAny_bind (wpAny_loadPart hx (wpAny_bind (Looks.here (s:={ s with toks:=s.toks + 1 }) (looks_clsIn X hcd) ?_))))))
  rw [hd']
  show wpAny _ _ (do let d ← alloc ({ cls:=.type "dict",data:=.dict #[] }:Obj); update x (fun o => { o with dict:=some d }); pure (some d)) _ _ _
  generalize hO:({ cls:=.type "dict",data:=.dict #[] }:Obj) = O
  have hOf:O.isFreed = false:=by rw [← hO]; rfl
  have hx1:(s.heap.push O).get? x = some ⟨.ref C,none,.fields vs,sl⟩:=Heap.get?_push_of_some _ hx
  have hne:s.heap.objs.size ≠ x:=Nat.ne_of_gt (Heap.lt_size hx)
  generalize hU:(fun o:Obj => { o with dict:=some s.heap.objs.size }) = U
  have hx2:((s.heap.push O).update x U).get? x = some ⟨.ref C,some s.heap.objs.size,.fields vs,sl⟩:=by
    have z:=Heap.get?_update_self U hx1 (by rw [← hU]; rfl)
    rw [z,← hU]
  have hd2:((s.heap.push O).update x U).get? s.heap.objs.size = some O:=(Heap.get?_update_other _ _ (Ne.symm hne)).trans (Heap.get?_push_size _ hOf)
  have hn:((s.heap.push O).update x U).Ns s.heap.objs.size (fun _ => none):=⟨O,#[],_,hd2,by rw [← hO],fun e he => absurd he (by simp),fun _ => rfl⟩
  refine wpAny_bind (wpAny_alloc' ?_)
  refine wpAny_bind (wpAny_update' hx1 ?_)
  refine wpAny_pure ?_
  show wpAny _ _ (storeInDict s.heap.objs.size (.str name s.toks) name v) _ _ _
  rw [hU]
  refine wpAny_bind (wpAny_pure (wpAny_bind ?_))
  refine wpAny_nsSet1 (s:={ s with heap:=(s.heap.push O).update x U,toks:=s.toks + 1 }) (Heap.Ns1.of_empty hn) fun h' hn2 hs2 => ?_
  obtain ⟨oD,esD,epD,hoD,hdD,hcD⟩:=hn2.count (Within.cons name v Within.nil)
  refine wpAny_bind (wpAny_lookBehind hoD ?_ ?_)
  · rw [hdD]; exact pastItsLine_dict (Nat.le_trans hcD (by rw [List.length_cons,List.length_nil,sizeLine_eq]; exact zo299))
  · refine wpAny_pure (h h' _ hn2 ((hs2.2 x (Ne.symm hne)).trans hx2) fun b o hb q => ?_)
    have hbs:b ≠ s.heap.objs.size:=Nat.ne_of_lt (Heap.lt_size q)
    exact (hs2.2 b hbs).trans ((Heap.get?_update_other _ _ (Ne.symm hb)).trans (Heap.get?_push_of_some _ q))
end
end L2
namespace L2
open PySem PySem.Spec PyProof.Rows
def excψ (e:Addr) (cls:Value) (dx:Option Addr):Heap → Prop:=fun h => ∃ (vs:Array Value) (sl:Array (Option Value)),h.get? e = some ⟨cls,dx,.fields vs,sl⟩ ∧ (∃ x0,vs[0]? = some x0) ∧ vs[1]? = some .none
def xdφ (d:Addr) (fs:List (Str × V)):Heap → Prop:=fun h => ∃ mA,h.Ns1 d mA ∧ (∀ f,RelO (fs.lookup f) (mA f)) ∧ ∃ ns,PySem.Within mA ns ∧ ns.length ≤ fs.length
theorem excψ.st {e:Addr} {cls:Value} {dx:Option Addr} {h1 h2:Heap} (q:excψ e cls dx h1) (k:∀ o,h1.get? e = some o → h2.get? e = some o):excψ e cls dx h2:=by
  obtain ⟨vs,sl,a,b⟩:=q; exact ⟨vs,sl,k _ a,b⟩
theorem xdφ.st {d:Addr} {fs:List (Str × V)} {h1 h2:Heap} (q:xdφ d fs h1) (k:∀ o,h1.get? d = some o → h2.get? d = some o):xdφ d fs h2:=by
  obtain ⟨mA,a,b⟩:=q; exact ⟨mA,a.at k,b⟩
theorem excψ.ok {P:Program} {w:World} {H:Hp} {e:Addr} {cls:Value} {dx:Option Addr} {h:Heap} (q:excψ e cls dx h):ObjOk P w H h e (.ext (excψ e cls dx)):=⟨q,⟨_,q.choose_spec.choose_spec.1⟩,fun _ _ a b => a.st b⟩
theorem xdφ.ok {P:Program} {w:World} {H:Hp} {d:Addr} {fs:List (Str × V)} {h:Heap} (q:xdφ d fs h):ObjOk P w H h d (.ext (xdφ d fs)):=by
  obtain ⟨mA,⟨o,es,ep,e1,e2⟩,b⟩:=id q
  exact ⟨q,⟨_,e1⟩,fun _ _ a b => a.st b⟩
def FmtV:V → Prop
  | .non => True
  | .int i => i.natAbs.log2 < 1920
  | .str x => x.length ≤ 1000
  | _ => False
def spInit (C:Addr) (ns:List Str):Sp:=fun vs H Q E => ∃ e xs,vs = .ref e :: xs ∧ xs.length = ns.length ∧ (∀ x ∈ xs,FmtV x) ∧ H e = some (.ext (excψ e (.ref C) none)) ∧
  ∀ d,H d = none → Q .non (upd (upd H e (.ext (excψ e (.ref C) (some d)))) d (.ext (xdφ d (ns.zip xs))))
section
variable {X:Cx} {pins:List (Addr × Obj)} {σ:St} {H:Hp} {s:Shared} {e C fI:Addr} {bm:List Value}
theorem Inv.trackφ {φ:Heap → Prop} {o0:Obj} {vs:Array Value} (I:Inv X pins σ H s) (he:s.heap.get? e = some o0) (hd:o0.data = .fields vs) (o:Out X pins H e) (hφ:ObjOk X.prog X.w (upd H e (.ext φ)) s.heap e (.ext φ)):Inv X pins σ (upd H e (.ext φ)) s:=by
  have ne:∀ b u,H b = some u → b ≠ e:=fun b u q z => by rw [z,o.unt] at q; cases q
  have up:∀ b,b ≠ e → upd H e (.ext φ) b = H b:=fun b z => upd_ne z
  have old:∀ b ob,X.s₀.heap.get? b = some ob → b ≠ e:=fun b ob q z => by rw [z,o.new] at q; cases q
  have nf:=I.fieldsNot he hd
  refine ⟨I.ok,I.os,I.bare,⟨I.base.keep,I.base.slot,fun b ob q n hx => (up b (old b ob q)).trans (I.base.free b ob q n hx),I.base.there,fun b xs q => ?_,fun b ob u q => ?_,fun b ps q => ?_⟩,I.loc,I.cell,
    (up _ (Ne.symm nf.1)).trans I.free,fun x c q => (up _ (nf.2 x c q)).trans (I.freeC x c q),fun q hq => ?_,fun b u q => ?_,I.len⟩
  · have z:=I.base.tups b xs q; exact (up b (ne b _ z)).trans z
  · have z:=I.base.frzs b ob u q; exact (up b (ne b _ z)).trans z
  · obtain ⟨m,z⟩:=I.base.tbls b ps q; exact ⟨m,(up b (ne b _ z)).trans z⟩
  · obtain ⟨a1,a2,a3⟩:=I.pin q hq; exact ⟨a1,(up _ (o.pin q hq)).trans a2,a3⟩
  · by_cases hb:b = e
    · subst hb; rw [upd_same] at q; cases q; exact hφ
    · rw [up b hb] at q
      exact (I.hok b u q).stay (fun _ _ _ z => z) (fun c z => (up c (ne c _ z)).trans z) fun c xs z => (up c (ne c _ z)).trans z
theorem run_init {k:Nat} {fd:FuncData} {ps ns:List Str} {Q:Value → Shared → Prop} {us:List Value} {vs:List V} (F:FnOk X.prog X.w X.K X.mg X.base CX0 k fI fd ps (spInit C ns)) (hr:Room (k + 1) X.A) (hb:Binds X.K fd ps [])
    (hc:xcIn X.K C bm (some (.ref fI)) = true) (hf:PySem.W.typeIn X.K (.ref fI) = some (.type "function")) (hex:X.ex = []) (hps:ps.length = ns.length + 1) (hsz:ns.length ≤ sizeLine) (I:Inv X pins σ H s) (r:Vals vs us) (hl:vs.length = ns.length) (hv:∀ x ∈ vs,FmtV x)
    (h:∀ ea d s',Inv X pins σ (upd H d (.xd (ns.zip vs))) s' → H d = none → FlyO s'.heap ea (.ref C) (some d) none → Out X pins (upd H d (.xd (ns.zip vs))) ea → Q (.ref ea) s') :
    wpAny (model X.prog X.w) X.A (call (.ref C) us) Q X.xe s:=by
  obtain ⟨N,nm,q,bs,hdct,sn,sub,ab,col,dd,k0,k1,k2,k3,k5,mN,hC,hN,hni,T⟩:=xobj_of I.kIn hc
  obtain ⟨oI,hoI,hcl⟩:∃ o,X.K.lookup fI = some o ∧ o.cls = .type "function":=by
    unfold PySem.W.typeIn at hf
    exact Option.map_eq_some_iff.mp hf
  obtain ⟨h0,g0,d0,t0,os0⟩:=s
  refine call_init T hC hN hni (I.kIn _ _ hoI) hcl (fun h' e hz m => ?_) (by rw [← r.length,hl]; exact hsz)
  have I1:Inv X pins σ H ⟨h',g0,d0,t0,os0⟩:=I.kept (t':=t0) m.keeps
  have hno:H e = none:=I.hok.no m.new
  have oe:Out X pins H e:=⟨I.old hex m.new,hno,I.pinNo m.new⟩
  obtain ⟨tt,ht,_,_⟩:=m.there
  have ψ0:excψ e (.ref C) none h':=⟨_,_,ht,⟨_,rfl⟩,rfl⟩
  have I2:=I1.trackφ (φ:=excψ e (.ref C) none) ht rfl oe ψ0.ok
  have r2:Vals (V.ref e :: vs) (Value.ref e :: us):=.cons rfl r
  have hlen:(Value.ref e :: us).length = ps.length:=by rw [List.length_cons,hps,← r.length,hl]
  have bnd:=hb ⟨h',g0,d0,t0,os0⟩ (Value.ref e :: us) I2.kIn (by rw [List.append_nil]; exact hlen)
  rw [List.append_nil] at bnd
  have run:=F.run _ X.stack ⟨h',g0,d0,t0,os0⟩ _ ⟨Value.ref e :: us,[]⟩ (Value.ref e :: us) (V.ref e :: vs)
    (fun v H' => v = .non ∧ ∃ d,upd H e (.ext (excψ e (.ref C) none)) d = none ∧ H' = upd (upd (upd H e (.ext (excψ e (.ref C) none))) e (.ext (excψ e (.ref C) (some d)))) d (.ext (xdφ d (ns.zip vs)))) E0
    (hr.make C us []) (I2.env0.make C us []) bnd r2 ⟨e,vs,rfl,hl,hv,upd_same,fun d hd => ⟨rfl,d,hd,rfl⟩⟩
  refine wpAny_call (codeAny_mono run fun rr s' hq' => ?_)
  cases rr with
  | error x => exact hq'.elim
  | ok fl =>
    cases fl with
    | next => exact False.elim hq'
    | brk => exact False.elim hq'
    | cont => exact False.elim hq'
    | ret u =>
      obtain ⟨v,H',hos,bare,un,hok,rv,rfl,d,hd,rfl⟩:=hq'
      have hde:d ≠ e:=fun z => by rw [z,upd_same] at hd; cases hd
      have hHd:H d = none:=by rw [upd_ne hde] at hd; exact hd
      refine ⟨rv,?_⟩
      rw [upd_upd] at un hok
      generalize hHf:upd H d (.xd (ns.zip vs)) = Hf
      have at':∀ b,b ≠ e → b ≠ d → upd (upd H e (.ext (excψ e (.ref C) (some d)))) d (.ext (xdφ d (ns.zip vs))) b = Hf b:=fun b h1 h2 => by rw [upd_ne h2,upd_ne h1,← hHf,upd_ne h2]
      have atd:upd (upd H e (.ext (excψ e (.ref C) (some d)))) d (.ext (xdφ d (ns.zip vs))) d = some (.ext (xdφ d (ns.zip vs))):=upd_same
      have ate:upd (upd H e (.ext (excψ e (.ref C) (some d)))) d (.ext (xdφ d (ns.zip vs))) e = some (.ext (excψ e (.ref C) (some d))):=by rw [upd_ne (Ne.symm hde),upd_same]
      have fe:Hf e = none:=by rw [← hHf,upd_ne (Ne.symm hde)]; exact hno
      have hne:∀ b o,h0.get? b = some o → b ≠ e:=fun b o q z => by rw [z,m.new] at q; cases q
      have hup:∀ b o,h0.get? b = some o → H b = none → upd H e (.ext (excψ e (.ref C) none)) b = none:=fun b o q n => by rw [upd_ne (hne b o q)]; exact n
      have un0:Un (frs X.stack) [] H Hf h0 s'.heap:={
        keep:=fun b o q n hn hx => un.keep b o (m.keeps b o q) (hup b o q n) hn hx
        slot:=fun b o q n hn hx => un.slot b o (m.keeps b o q) (hup b o q n) hn hx
        free:=fun b o q n hx => by
          have z:=un.free b o (m.keeps b o q) (hup b o q n) hx
          have hbd:b ≠ d:=fun y => by rw [y,atd] at z; cases z
          rw [← hHf,upd_ne hbd]; exact n
        there:=fun b o q hx => un.there b o (m.keeps b o q) hx
        tups:=fun b xs z => by rw [← hHf,upd_ne (ne_of_none z hHd)]; exact z
        frzs:=fun b o u z => by rw [← hHf,upd_ne (ne_of_none z hHd)]; exact z
        tbls:=fun b ps z => ⟨#[],by rw [← hHf,upd_ne (ne_of_none z hHd),z]; simp⟩ }
      have hokf:HOk X.prog X.w Hf s'.heap:=fun a o q => by
        by_cases had:a = d
        · subst had
          rw [← hHf,upd_same] at q; cases q
          obtain ⟨⟨mA,z1,z2,z3⟩,_⟩:=(show ObjOk X.prog X.w _ s'.heap a (.ext (xdφ a (ns.zip vs))) from hok a _ atd)
          exact ⟨mA,z1,z2⟩
        · have hae:a ≠ e:=fun z => by rw [z,fe] at q; cases q
          refine (hok a o ((at' a hae had).trans q)).stay (fun _ _ _ z => z) (fun b z => ?_) fun b xs z => ?_
          · have h1:b ≠ e:=fun y => by rw [y,ate] at z; cases z
            have h2:b ≠ d:=fun y => by rw [y,atd] at z; cases z
            rw [← at' b h1 h2]; exact z
          · have h1:b ≠ e:=fun y => by rw [y,ate] at z; cases z
            have h2:b ≠ d:=fun y => by rw [y,atd] at z; cases z
            rw [← at' b h1 h2]; exact z
      have I3:Inv X pins σ Hf s':=I.call' hos un0 hokf bare (ch:=[]) fun b z => absurd z (by simp)
      have hx:=h e d s'
      rw [hHf] at hx
      obtain ⟨⟨ws,sl,z1,_,z2⟩,_⟩:=(show ObjOk X.prog X.w _ s'.heap e (.ext (excψ e (.ref C) (some d))) from hok e _ ate)
      exact hx I3 hHd ⟨⟨ws,sl,z1,z2⟩,fun t z => by cases z⟩ ⟨oe.new,fe,oe.pin⟩
end
section
variable {prog:Program} {w:World} {A:Around} {E:Value → Shared → Prop} {s:Shared} {env:Env}
theorem raise_made {x:Expr} {pos:Pos} {Q:Flow → Shared → Prop} (hh:A.handled = none)
    (h:wpAny (model prog w) A (eval x env) (fun v s₁ => ∃ e C bm ini dx,v = .ref e ∧ XObj s₁.heap C bm ini ∧ ExcAt s₁.heap e (.ref C) dx .none ∧ E v s₁) E s) :
    wpAny (model prog w) A (exec (.Raise (some x) none pos) env) Q E s:=by
  rw [arm_exec_Raise]
  simp only [evalOpt,Option.map]
  refine wpAny_bind (wpAny_standAt ?_)
  unfold raiseStmt
  refine wpAny_bind (wpAny_bind (wpAny_mono h (fun v s₁ z => wpAny_bind (wpAny_standAt (wpAny_pure ?_))) fun _ _ y => y))
  obtain ⟨e,C,bm,ini,dx,rfl,⟨N,nm,q,bs,hdct,sn,sub,ab,col,dd,k0,k1,k2,k3,k5,mN,hC,hN,hni,T⟩,⟨vs,sl,he,h1⟩,hE⟩:=z
  obtain ⟨hp,g,d,tk,os⟩:=s₁
  have hcB:(Value.ref C :: bm).contains (.type "BaseException") = true:=by rw [List.contains_cons,tail_base T,Bool.or_true]
  have fl:∀ {α:Type} {k:Sem α} {Q : α → Shared → Prop},wpAny (model prog w) A k Q E ⟨hp,g,d,tk,os⟩ → wpAny (model prog w) A (setFlight (.ref e) none >>= fun _ => k) Q E ⟨hp,g,d,tk,os⟩:=fun {α k Q} hk => by
    unfold setFlight
    exact wpAny_bind (wpAny_bind (wpAny_field he rfl h1 (wpAny_pure hk)))
  repeat (first | with_reducible refine wpAny_loadPart_at he ?_ | with_reducible refine wpAny_loadPart_at hC ?_ | (with_reducible refine wpAny_isSubtype_exc hC ?_; rw [hcB]) | with_reducible refine fl ?_ | wp_step)
  exact wpAny_raiseNew_none hh hE
end
section
variable {X:Cx} {xk:XS} {x:Str} {C fI:Addr} {bm:List Value} {e:Expr} {args:List Expr} {np cpos pos:Pos} {t:TA} {k:Nat} {fd:FuncData} {ps ns:List Str}
def tRaise1 (xk:XS) (C:Addr) (ns:List Str) (t:TA):TS:=fun _ σ H => t σ H fun vs H1 => vs.length = ns.length ∧ (∀ x ∈ vs,FmtV x) ∧ ∀ d,H1 d = none → xk σ (.ref C) (some d) (upd H1 d (.xd (ns.zip vs)))
theorem ps_raise1 (hex:X.ex = []) (hcalm:X.calm = true) (ac:Acc X xk) (F:FnOk X.prog X.w X.K X.mg X.base CX0 k fI fd ps (spInit C ns)) (hr:Room (k + 1) X.A) (hb:Binds X.K fd ps []) (hc:xcIn X.K C bm (some (.ref fI)) = true)
    (hf:PySem.W.typeIn X.K (.ref fI) = some (.type "function")) (hk:PySem.W.keepIn X.K (.ref C) = true) (hps:ps.length = ns.length + 1) (hsz:ns.length ≤ sizeLine) (hg:Gl X x) (hm:X.mg x = some (.ref C)) (ha:PA X (e :: args) t)
    (hdb:(x == ("__debug__":Str)) = false:=by decide) (he:starEach (e :: args) X.env = (false,eval e X.env) :: starEach args X.env:=by rfl) (hpl:(backTo cpos (starEach args X.env)).any (·.1) = false:=by rfl) :
    PS X (.Raise (some (.Call (.Name x np) (e :: args) [] cpos)) none pos) (tRaise1 xk C ns t):=by
  refine ⟨fun pins s σ H D I h => raise_made (I.ok.hd hcalm) (wpAny_Call_Name_kw (ld_glob I hg hm ?_ hdb))⟩
  refine PySem.W.callWith_K (h₀:=X.base) I.ok.mod.kin hk (thn (ha cpos pins s σ H _ I h) fun us s1 ⟨vs,H1,I1,r,hl,hv,q⟩ => ⟨I1.kIn,?_⟩) he hpl
  refine run_init F hr hb hc hf hex hps hsz I1 r hl hv fun ea d s' J hd fl oe => ?_
  exact ⟨ea,C,bm,_,some d,rfl,xobj_of J.kIn hc,fl.ex,ac.go pins σ _ s' ea (.ref C) (some d) J ⟨none,fl,oe,fun t z => by cases z⟩ (q d hd)⟩
end
def FmtD:D → Prop
  | .non => True
  | .int i => i.natAbs.log2 < 1920
  | .str x => x.length ≤ 1000
  | _ => False
theorem FmtD.v {H:Hp} {d:D} {v:V} (h:FmtD d) (r:Rep H d v):FmtV v:=by
  cases d with
  | non => rw [Rep] at r; subst r; exact h
  | int i => rw [Rep] at r; subst r; exact h
  | str x => rw [Rep] at r; subst r; exact h
  | _ => exact h.elim
theorem fmt_reps {H:Hp}:∀ {ds:List D} {vs:List V},(∀ d ∈ ds,FmtD d) → Reps H ds vs → ∀ v ∈ vs,FmtV v
  | [],vs,_,r,v,hv => by rw [Reps] at r; subst r; cases hv
  | d :: ds,vs,h,r,v,hv => by
    rw [Reps] at r
    obtain ⟨w,ws,rfl,r1,r2⟩:=r
    rcases List.mem_cons.mp hv with rfl | hv
    · exact (h d (by simp)).v r1
    · exact fmt_reps (fun d' hd => h d' (by simp [hd])) r2 v hv
section
variable {X:Cx} {M:Md} {e:Expr} {es:List Expr} {mr:MA} {x:Str} {pos:Pos} {k:Nat} {fd:FuncData} {ps ns:List Str}
def mRaise1 (c:Addr) (ns:List Str) (m:MA):MSX:=fun xx _ ρ => m ρ fun ds ρ1 => ds.length = ns.length ∧ (∀ d ∈ ds,FmtD d) ∧ xx c ns ds ρ1
theorem qx_raise1 {C fI:Addr} {bm:List Value} {np cpos:Pos} (F:FnOk X.prog X.w X.K X.mg X.base CX0 k fI fd ps (spInit C ns)) (hr:Room (k + 1) X.A) (hb:Binds X.K fd ps []) (hc:xcIn X.K C bm (some (.ref fI)) = true)
    (hf:PySem.W.typeIn X.K (.ref fI) = some (.type "function")) (hk:PySem.W.keepIn X.K (.ref C) = true) (hg:Gl X x) (hm:X.mg x = some (.ref C)) (ha:QA X.nox M.ow (e :: es) mr) (hps:ps.length = ns.length + 1:=by rfl) (hsz:ns.length ≤ sizeLine:=by simp [sizeLine]) (hcalm:X.calm = true:=by rfl) (hex:X.ex = []:=by rfl)
    (hdb:(x == ("__debug__":Str)) = false:=by decide) (he:starEach (e :: es) X.env = (false,eval e X.env) :: starEach es X.env:=by rfl) (hpl:(backTo cpos (starEach es X.env)).any (·.1) = false:=by rfl) :
    QX X M (.Raise (some (.Call (.Name x np) (e :: es) [] cpos)) none pos) (mRaise1 C ns mr):=by
  obtain ⟨t,p,s⟩:=ha
  refine ⟨fun xk => tRaise1 xk C ns t,fun E q xk g => ps_raise1 (X:=X.tr E q) hex hcalm g.2 F hr hb hc hf hk hps hsz hg hm (PA.any p) hdb he hpl,fun C' G ρ σ H n D xx xk hm hn r h k kx => s C' G ρ σ H [] _ _ r h fun ds ρ' vs G' H' hq z kp r' p' hl => ?_⟩
  obtain ⟨h1,h2,h3⟩:=hq
  have hvl:=p'.length
  refine ⟨by rw [hvl,h1],fmt_reps h2 p',fun d hd => ?_⟩
  obtain ⟨O,ro⟩:=r'
  obtain ⟨ro2,z2⟩:=ro.new hd (.xd (ns.zip vs))
  exact kx.go C ns ds ρ' σ (some d) _ _ h3 (z.trans z2) ⟨O,ro2⟩ ⟨vs,by simp [upd],by rw [hvl,h1],Reps.mono z2 _ _ p'⟩
end
structure PJ (X:Cx) (es:List Expr) (c:St → Prop):Prop where
  go:∀ (pins:List (Addr × Obj)) (s:Shared) (σ:St) (H:Hp) (acc:Str) (Q:Str → Shared → Prop),Inv X pins σ H s → c σ → acc.length + 2000 * es.length ≤ sizeLine →
    (∀ out s',Inv X pins σ H s' → out.length ≤ acc.length + 2000 * es.length → Q out s') → Joins (model X.prog X.w) X.A X.xe (evalEach es X.env) acc Q s
section
variable {X:Cx} {es:List Expr} {c:St → Prop}
theorem pj_nil:PJ X [] (fun _ => True):=⟨fun pins s σ H acc Q I _ hz k => k acc s I (Nat.le_add_right _ _)⟩
theorem pj_step {e:Expr} {c':St → Prop} (h:PJ X es c) (he:∀ (pins:List (Addr × Obj)) (s:Shared) (σ:St) (H:Hp) (Q:Value → Shared → Prop),Inv X pins σ H s → c' σ → (∀ y t s',Inv X pins σ H s' → y.length ≤ 2000 → Q (.str y t) s') → wpAny (model X.prog X.w) X.A (eval e X.env) Q X.xe s) :
    PJ X (e :: es) (fun σ => c' σ ∧ c σ):=by
  refine ⟨fun pins s σ H acc Q I hc hz k => ?_⟩
  rw [List.length_cons] at hz k
  refine he pins s σ H _ I hc.1 fun y t s' I' hy => ⟨y,t,rfl,?_,?_⟩
  · rw [strLen_append]; exact zo115 hz hy
  · refine h.go pins s' σ H (acc ++ y) Q I' hc.2 (by rw [strLen_append]; exact zo113 hz hy) fun out s2 I2 ho => k out s2 I2 ?_
    rw [strLen_append] at ho; exact zo87 hy ho
theorem pj_lit {x:Str} {k:Nat} {p:Pos} (h:PJ X es c) (hx:x.length ≤ 2000:=by decide):PJ X (.Constant (.str x) k p :: es) (fun σ => True ∧ c σ) :=
  pj_step h fun pins s σ H Q I _ q => thn (pe_str.go pins s σ H (fun v H' => v = .str x ∧ H' = H) I ⟨rfl,rfl⟩) fun u s1 ⟨v,H1,I1,r1,e1,e2⟩ => by
    subst e1 e2; obtain ⟨t,rfl⟩:=(show ∃ t,u = Value.str x t from r1); exact q x t s1 I1 hx
theorem pj_var {i:Nat} {x:Str} {np p:Pos} (hv:PE X (.Name x np) (tVar i)) (h:PJ X es c):PJ X (.FormattedValue (.Name x np) (-1) none p :: es) (fun σ => (∃ v,σ[i]? = some (some v) ∧ FmtV v) ∧ c σ) :=
  pj_step h fun pins s σ H Q I hc q => by
    obtain ⟨v,h1,h2⟩:=hc
    refine wpAny_FormattedValue_plain (thn (hv.go pins s σ H (fun v' H' => v' = v ∧ H' = H) I ⟨v,h1,rfl,rfl⟩) fun u s1 ⟨v1,H1,I1,r1,e1,e2⟩ => ?_)
    subst e1 e2
    cases v1 with
    | non => cases (show u = Value.none from r1); exact wpAny_formatField_none (q _ _ _ (I1.tok _) (by decide))
    | int a => obtain ⟨t,rfl⟩:=(show ∃ t,u = Value.int a t from r1); exact wpAny_formatField_int h2 (q _ _ _ (I1.tok _) (Nat.le_trans (PyProof.Rows.int_text_len_1921 h2) (by decide)))
    | str y => obtain ⟨t,rfl⟩:=(show ∃ t,u = Value.str y t from r1); exact wpAny_formatField_str (q _ _ _ I1 (Nat.le_trans h2 (by decide))) (q _ _ _ (I1.tok _) (Nat.le_trans h2 (by decide))) (Nat.le_trans h2 (by decide))
    | _ => exact h2.elim
def tJoin (c:St → Prop):TE:=fun σ H Q => c σ ∧ ∀ y:Str,Q (.str y) H
theorem pe_join {a b:Expr} {p:Pos} (h:PJ X (a :: b :: es) c) (hz:(a :: b :: es).length ≤ 1000:=by decide):PE X (.JoinedStr (a :: b :: es) p) (tJoin c):=by
  refine ⟨fun pins s σ H Q I hq => wpAny_JoinedStr (h.go pins s σ H _ _ I hq.1 ?_ fun out s' I' ho => ⟨?_,.str out,H,I'.tok _,⟨_,rfl⟩,hq.2 out⟩)⟩
  · have:(Str.empty:Str).length = 0:=rfl
    rw [sizeLine_eq]; exact zo180 hz this
  · have:(Str.empty:Str).length = 0:=rfl
    rw [sizeLine_eq]; exact zo144 hz ho this
end
structure BaseIn (K:PySem.W.Frag) (B:Addr):Prop where
  r:PySem.W.readsIn K B (.type "type") = true
  f:PySem.W.findCls K (.ref B) (.type "type") "__init__" = some (.val (.builtin "ValueError.__init__"))
  g:PySem.W.specialIn K (.ref B) "__getattribute__" = some (some (.builtin "type.__getattribute__"))
section
variable {X:Cx} {C B:Addr} {bm:List Value} {ini:Option Value} {x:Str} {a b:Expr} {np apos pos pos':Pos} {t:TA}
def tBInit (C:Addr) (t:TA):TE:=fun σ H Q => t σ H fun vs H1 => ∃ e y dx,vs = [.ref e,.str y] ∧ H1 e = some (.ext (excψ e (.ref C) dx)) ∧ Q .non (upd H1 e (.ext (excψ e (.ref C) dx)))
theorem pe_binit {pl:Sem Bool} (hB:BaseIn X.K B) (hc:xcIn X.K C bm ini = true) (hg:Gl X x) (hm:X.mg x = some (.ref B)) (ha:PA X [a,b] t) (hdb:(x == ("__debug__":Str)) = false:=by decide)
    (he:starEach [a,b] X.env = (false,eval a X.env) :: starEach [b] X.env:=by rfl) (hpl:(backTo pos (starEach [b] X.env)).any (·.1) = false:=by rfl)
    (ht:eval (.Call (.Attribute (.Name x np) "__init__" apos) [a,b] [] pos) X.env = (do
      let ov ← eval (.Name x np) X.env
      standAt apos.atName
      let (f,first) ← holding [ov] (getMethod ov "__init__" pl)
      callWith pos f first (backTo pos (starEach [a,b] X.env)) (backToKw pos (keywordEach [] X.env))):=by rfl) :
    PE X (.Call (.Attribute (.Name x np) "__init__" apos) [a,b] [] pos) (tBInit C t):=by
  refine ⟨fun pins s σ H Q I h => PySem.W.methodCall_KW (pl:=pl) (ld_glob I hg hm ?_ hdb) ht⟩
  refine PySem.W.method_cls I.kIn hB.g (PySem.W.cls_value I.kIn hB.r hB.f rfl ?_)
  have I0:=I.tok (s.toks + 1)
  have hA:=ha pos pins _ σ H _ I0 h
  show wpAny _ _ (callWith pos (.builtin "ValueError.__init__") [] (backTo pos (starEach [a,b] X.env)) []) _ _ _
  rw [he] at hA ⊢
  refine Calls.callWith_builtin (by show (false || (backTo pos (starEach [b] X.env)).any (·.1)) = false; rw [hpl] <;> rfl) (Calls.evalArgs_plain (thn hA fun us s2 ⟨vs,H2,I2,r2,e,y,dx,ev,hH,q⟩ => ?_))
  subst ev
  obtain ⟨u1,u2,rfl,r3,r4⟩:=vals2 r2
  cases (show u1 = Value.ref e from r3)
  obtain ⟨ty,rfl⟩:=(show ∃ t,u2 = Value.str y t from r4)
  obtain ⟨⟨ws,sl,z1,⟨x0,z0⟩,z2⟩,_⟩:=(show ObjOk X.prog X.w _ s2.heap e (.ext (excψ e (.ref C) dx)) from I2.hok e _ hH)
  obtain ⟨N,nm,q',bs,hdct,sn,sub,ab,col,dd,k0,k1,k2,k3,k5,mN,hC,hN,hni,T⟩:=xobj_of I2.kIn hc
  obtain ⟨h0,g0,d0,t0,os0⟩:=s2
  refine init_base T hC z1 rfl rfl z0 ?_ (by simp [sizeLine])
  generalize hO:({ cls:=.type "tuple",data:=.seq ([Value.str y ty]:List Value).toArray }:Obj) = O
  have e1:=Heap.get?_push_of_some O z1
  have e2:=Heap.get?_update_self (Obj.mapFields (·.setIfInBounds 0 (Value.ref h0.objs.size))) e1 (Obj.isFreed_of_fields (Obj.data_mapFields rfl _))
  have h00 : 0 < ws.size:=(Array.getElem?_eq_some_iff.mp z0).1
  have h01 : 1 < ws.size:=(Array.getElem?_eq_some_iff.mp z2).1
  have ψ:excψ e (.ref C) dx ((h0.push O).update e (Obj.mapFields (·.setIfInBounds 0 (Value.ref h0.objs.size)))):=by
    refine ⟨ws.setIfInBounds 0 (Value.ref h0.objs.size),sl,e2,⟨_,by simp [h00]; rfl⟩,?_⟩
    rw [Array.getElem?_setIfInBounds_ne (by decide)]; exact z2
  exact ⟨.non,_,I2.write (x:=e) (e:=e) (t':=t0) (by rw [hH]; trivial) (.inl rfl) (fun b u hb z => (Heap.get?_update_other _ _ (Ne.symm hb)).trans (Heap.get?_push_of_some _ z)) ⟨_,e2⟩ ψ.ok,rfl,q⟩
end
section
variable {X:Cx} {pins:List (Addr × Obj)} {σ:St} {H:Hp} {s:Shared} {h':Heap} {a:Addr} {oa od:HO}
theorem Inv.two {t':Nat} (I:Inv X pins σ H s) (mu:Mut (H a)) (k:∀ b o,b ≠ a → s.heap.get? b = some o → h'.get? b = some o) (heo:∃ u,h'.get? a = some u)
    (oka:ObjOk X.prog X.w (upd (upd H a oa) s.heap.objs.size od) h' a oa) (okd:ObjOk X.prog X.w (upd (upd H a oa) s.heap.objs.size od) h' s.heap.objs.size od) :
    Inv X pins σ (upd (upd H a oa) s.heap.objs.size od) { s with heap:=h',toks:=t' }:=by
  have hn:H s.heap.objs.size = none:=I.hok.fresh (Nat.le_refl _)
  have up:∀ b,b ≠ a → b ≠ s.heap.objs.size → upd (upd H a oa) s.heap.objs.size od b = H b:=fun b h1 h2 => by rw [upd_ne h2,upd_ne h1]
  have na:∀ b,H b = none → b ≠ a:=fun b z y => by rw [y] at z; rw [z] at mu; exact mu
  have lt:∀ b o,s.heap.get? b = some o → b ≠ s.heap.objs.size:=fun b o z => Nat.ne_of_lt (Heap.lt_size z)
  have nd:∀ b u,H b = some u → b ≠ s.heap.objs.size:=fun b u z y => by rw [y,hn] at z; cases z
  have nt:∀ b xs,H b = some (.tup xs) → b ≠ a:=fun b xs z y => by rw [← y,z] at mu; exact mu
  have nf:∀ b o u,H b = some (.frz o u) → b ≠ a:=fun b o u z y => by rw [← y,z] at mu; exact mu
  have ntb:∀ b ps,H b = some (.tbl ps) → b ≠ a:=fun b ps z y => by rw [← y,z] at mu; exact mu
  have no:∀ b y,H b = some (.own y) → b ≠ a:=fun b y' z y => by rw [← y,z] at mu; exact mu
  refine I.un (t':=t') {
    keep:=fun b o q n _ _ => k b o (na b n) q
    slot:=fun b o q n _ _ => ⟨o.slots,k b o (na b n) q⟩
    free:=fun b o q n _ => (up b (na b n) (lt b o q)).trans n
    there:=fun b o q _ => by
      by_cases hb:b = a
      · subst hb; exact heo
      · exact ⟨o,k b o hb q⟩
    tups:=fun b xs z => (up b (nt b xs z) (nd b _ z)).trans z
    frzs:=fun b o u z => (up b (nf b o u z) (nd b _ z)).trans z
    tbls:=fun b ps z => ⟨#[],by rw [up b (ntb b ps z) (nd b _ z),z]; simp⟩ } fun b u q => ?_
  by_cases h1:b = s.heap.objs.size
  · subst h1; rw [upd_same] at q; cases q; exact okd
  by_cases h2:b = a
  · subst h2; rw [upd_ne h1,upd_same] at q; cases q; exact oka
  rw [up b h2 h1] at q
  refine (I.hok b u q).stay (fun c v hc z => k c v ?_ z) (fun c z => (up c (no c _ z) (nd c _ z)).trans z) fun c xs z => (up c (nt c _ z) (nd c _ z)).trans z
  rcases hc with rfl | hc
  · exact h2
  · exact no c _ hc
end
section
variable {X:Cx} {C:Addr} {bm:List Value} {ini:Option Value} {f:Str} {o value:Expr} {pos pos':Pos} {ta tv:TE}
def sX0 (C:Addr) (f:Str) (ta tv:TE):TS:=fun D σ H => tv σ H fun y H1 => ta σ H1 fun x H2 => ∃ a,x = .ref a ∧ H2 a = some (.ext (excψ a (.ref C) none)) ∧
  ∀ d,H2 d = none → D.nx σ (upd (upd H2 a (.ext (excψ a (.ref C) (some d)))) d (.ext (xdφ d [(f,y)])))
def sX1 (C:Addr) (f:Str) (ta tv:TE):TS:=fun D σ H => tv σ H fun y H1 => ta σ H1 fun x H2 => ∃ a d fs,x = .ref a ∧ H2 a = some (.ext (excψ a (.ref C) (some d))) ∧ H2 d = some (.ext (xdφ d fs)) ∧ d ≠ a ∧ fs.length ≤ 50 ∧ fs.lookup f = none ∧
  D.nx σ (upd H2 d (.ext (xdφ d (fs ++ [(f,y)]))))
theorem look_snoc (g:Str) (y:V):∀ {fs:List (Str × V)},fs.lookup f = none → (fs ++ [(f,y)]).lookup g = if g = f then some y else fs.lookup g
  | [],_ => by
    show List.lookup g [(f,y)] = _
    by_cases h:g = f
    · have hb:(g == f) = true:=beq_iff_eq.mpr h
      simp only [List.lookup,hb,if_pos h]
    · have hb:(g == f) = false:=beq_eq_false_iff_ne.mpr h
      simp only [List.lookup,hb,if_neg h]
  | (k,x) :: fs,h => by
    show List.lookup g ((k,x) :: (fs ++ [(f,y)])) = _
    by_cases hk:f = k
    · have hb:(f == k) = true:=beq_iff_eq.mpr hk
      simp only [List.lookup,hb] at h; cases h
    · have hb:(f == k) = false:=beq_eq_false_iff_ne.mpr hk
      simp only [List.lookup,hb] at h
      have ih:=look_snoc g y h
      by_cases hg:g = k
      · have hb2:(g == k) = true:=beq_iff_eq.mpr hg
        simp only [List.lookup,hb2]
        rw [if_neg (fun z => hk (z.symm.trans hg))]
      · have hb2:(g == k) = false:=beq_eq_false_iff_ne.mpr hg
        simp only [List.lookup,hb2]
        exact ih
theorem ps_x0 (hc:xcIn X.K C bm ini = true) (ho:xcOk X.K C = true) (hs:xaOk X.K C f) (ha:PE X o ta) (hv:PE X value tv) (hsw:swapsWith value (some (.Attribute o f pos')) pos.line X.env = pure false:=by rfl):PS X (.Assign [.Attribute o f pos'] value pos) (sX0 C f ta tv):=by
  refine ⟨fun pins s σ H D I h => plainObj_wpAny_Assign_Attribute (thn (hv pins s σ H _ I h) fun u s1 ⟨y,H1,I1,ry,q⟩ => thn (ha pins s1 σ H1 _ I1 q) fun ov s2 ⟨x,H2,I2,rx,a,ex,hH,q2⟩ => ?_) hsw⟩
  subst ex
  obtain rfl:ov = Value.ref a:=rx
  obtain ⟨⟨ws,sl,z1,z0,z2⟩,_⟩:=(show ObjOk X.prog X.w _ s2.heap a (.ext (excψ a (.ref C) none)) from I2.hok a _ hH)
  refine xset0 I2.kIn z1 hc ho hs fun h' tk' hn hx k => ?_
  refine ⟨σ,_,I2.two (t':=tk') (oa:=.ext (excψ a (.ref C) (some s2.heap.objs.size))) (od:=.ext (xdφ s2.heap.objs.size [(f,y)])) (by rw [hH]; trivial) k ⟨_,hx⟩ (excψ.ok ⟨ws,sl,hx,z0,z2⟩) (xdφ.ok ⟨_,hn,fun g => ?_,[f],Within.cons f u Within.nil,by simp⟩),q2 _ (I2.hok.fresh (Nat.le_refl _))⟩
  have e:=look_snoc (f:=f) g y (fs:=[]) rfl
  rw [List.nil_append] at e
  rw [e]
  by_cases hg:g = f
  · rw [if_pos hg,if_pos hg]; exact ry
  · rw [if_neg hg,if_neg hg]; exact True.intro
theorem ps_x1 (hc:xcIn X.K C bm ini = true) (ho:xcOk X.K C = true) (hs:xaOk X.K C f) (ha:PE X o ta) (hv:PE X value tv) (hsw:swapsWith value (some (.Attribute o f pos')) pos.line X.env = pure false:=by rfl):PS X (.Assign [.Attribute o f pos'] value pos) (sX1 C f ta tv):=by
  refine ⟨fun pins s σ H D I h => plainObj_wpAny_Assign_Attribute (thn (hv pins s σ H _ I h) fun u s1 ⟨y,H1,I1,ry,q⟩ => thn (ha pins s1 σ H1 _ I1 q) fun ov s2 ⟨x,H2,I2,rx,a,d,fs,ex,hH,hd,hne,hfs,hl,q2⟩ => ?_) hsw⟩
  subst ex
  obtain rfl:ov = Value.ref a:=rx
  obtain ⟨⟨ws,sl,z1,z0,z2⟩,_⟩:=(show ObjOk X.prog X.w _ s2.heap a (.ext (excψ a (.ref C) (some d))) from I2.hok a _ hH)
  obtain ⟨⟨mA,y1,y2,ns,y3,y4⟩,⟨od,yd⟩,_⟩:=(show ObjOk X.prog X.w _ s2.heap d (.ext (xdφ d fs)) from I2.hok d _ hd)
  refine xset1 I2.kIn z1 y1 hne hc ho hs y3 (by exact zo239 hfs y4) fun h' tk' hn hsb => ?_
  obtain ⟨o2,es2,ep2,e2,e3⟩:=id hn
  refine ⟨σ,_,I2.write (x:=d) (e:=d) (t':=tk') (by rw [hd]; trivial) (.inl rfl) (fun b u hb z => (hsb.2 b hb).trans z) ⟨_,e2⟩ (xdφ.ok ⟨_,hn,fun g => ?_,f :: ns,Within.cons f u y3,?_⟩),q2⟩
  · rw [look_snoc g y hl]
    by_cases hg:g = f
    · rw [if_pos hg,if_pos hg]; exact ry
    · rw [if_neg hg,if_neg hg]; exact y2 g
  · rw [List.length_cons,List.length_append]; simp; exact zo301 y4
end
section
variable {X:Cx} {ow:List Bool} {a:Expr} {ma:ME} {pos:Pos} {f:Str}
end
section
variable {X:Cx}
variable {ow:List Bool} {e:Expr} {ma:ME}
end
structure QXI (X:Cx) (ow:List Bool) (tg iter:Expr) (mi:XD → MA):Prop where
  ex:∃ t:XS → TI,(∀ E p xk,Good X E p xk → PI (X.tr E p) tg iter (t xk)) ∧ ∀ (C:Ctx) (G:Hp) (ρ:DSt) (σ:St) (H:Hp) (pd:List (D × V)) (q:List D → DSt → Prop) (Q:It → Hp → Prop) (xx:XD) (xk:XS),R C ow G ρ σ H pd → mi xx ρ q → KsX C ow G pd xx xk →
    (∀ ds ρ' G' H' J,q ds ρ' → Same G G' → Kp ow ρ ρ' → R C ow G' ρ' σ H' pd → ItOk J G' ds → Q J H') → t xk σ H Q
section
variable {X:Cx} {M:Md} {ow:List Bool} {a e:Expr} {es:List Expr} {pos:Pos} {mex:MEX} {m1:MSX} {mg:MG}
theorem QXF.qe (h:QXF X ow e mex):QXE X ow e mex:=by
  obtain ⟨t,p,s⟩:=h
  refine ⟨t,p,fun C G ρ σ H pd q Q xx xk r hm kx k => s C G ρ σ H pd _ _ xx xk r hm kx fun d ρ' v G' H' hq z kp r' => ?_⟩
  obtain ⟨O,r'⟩:=r'
  obtain ⟨G2,s2,r2,p2⟩:=r'.share r.np
  exact k d ρ' v G2 H' hq (z.trans s2) kp r2 p2
def miEnuX (m:MEX):XD → MA:=fun xx ρ q => m xx ρ fun d ρ' => match d with
  | .lst ds => q (enuD ds) ρ'
  | _ => False
theorem qxi_enum {k:Nat} {tpos p:Pos} (hg:Gl X "enumerate") (hm:X.mg "enumerate" = none) (ha:QXE X ow a mex) (hs:starEach [a] X.env = [(false,eval a X.env)]:=by rfl):QXI X ow (.Tuple es k tpos) (.Call (.Name "enumerate" p) [a] [] pos) (miEnuX mex):=by
  obtain ⟨t,p,s⟩:=ha
  refine ⟨fun xk => iEnum (tCons (t xk) tNil),fun E q xk g => pi_enum (X:=X.tr E q) hg hm (pa_cons (p E q xk g) pa_nil hs) hs,fun C G ρ σ H pd q Q xx xk r hm kx k => s C G ρ σ H pd _ _ xx xk r hm kx fun d ρ' v G' H' hq z kp r' p1 => ?_⟩
  cases d with
  | lst ds =>
    obtain ⟨a,xs,rfl,h1,h2⟩:=rep_lst_of p1
    exact ⟨a,rfl,⟨xs,r'.gh _ _ h1⟩,k _ ρ' G' H' _ hq z kp r' (ite_ok h1 h2)⟩
  | _ => exact hq.elim
theorem qx_forX {mi:XD → MA} {tg iter:Expr} {body:List Stmt} (hc:X.calm = true) (hi:QXI X M.ow tg iter mi) (hg:QG X.nox M tg mg) (hb:QXs X M body m1)
    (hs:∀ x,foldedSetIterable iter X.env x = pure x:=by intro _; rfl):QX X M (.For tg iter body [] pos) (fun xx => mFor (mi xx) mg (m1 xx)):=by
  obtain ⟨ti,pi,si⟩:=hi; obtain ⟨tg',pg,sg⟩:=hg; obtain ⟨tb,pb,sb⟩:=hb
  refine ⟨fun xk => tFor (ti xk) tg' (tb xk),fun E q xk g => ps_for g.1 hc (pi E q xk g) (PG.any pg) (pb E q xk g) hs,fun C G ρ σ H n D xx xk hm hn r h k kx => si C G ρ σ H [] _ _ xx xk r h kx fun ds ρ0 G0 H0 J hq z0 kp r0 jo => ?_⟩
  obtain ⟨I,i0,turn,fin⟩:=hq
  have k0:=k.mono z0
  have kx0:=kx.mono z0
  refine ⟨fun i j σ' H' => (j = ds.length - i ∧ i ≤ ds.length) ∧ ∃ G' ρ',Same G0 G' ∧ R C M.ow G' ρ' σ' H' [] ∧ I i ρ',⟨_,⟨rfl,Nat.zero_le _⟩,G0,ρ0,Same.refl _,r0,i0⟩,?_⟩
  rintro i j σ' H' ⟨⟨rfl,hi⟩,G',ρ',z,r',w⟩
  obtain ⟨st,go⟩:=jo C M.ow G' ρ' σ' H' [] i z r'
  have k1:=k0.mono z
  have kx1:=kx0.mono z
  rcases Nat.lt_or_ge i ds.length with hlt | hge
  · have he:=List.getElem?_eq_getElem hlt
    obtain ⟨g1,g2⟩:=go _ he
    refine .inr ⟨g1,fun σ2 H2 => ∃ G2 ρ2,Same G0 G2 ∧ R C M.ow G2 ρ2 σ2 H2 [] ∧ I (i + 1) ρ2,fun σ2 H2 h => ⟨ds.length - (i + 1),by exact zo4 hlt,⟨rfl,hlt⟩,h⟩,fun x H1 hy => ?_⟩
    obtain ⟨G1,z1,r1,p1⟩:=g2 x H1 hy
    have k2:=k1.mono z1
    refine sg C G1 ρ' σ' H1 [] _ x _ _ hm r1 p1 (turn i _ ρ' he w) fun ρ2 σ2 h2 r2 => sb C G1 ρ2 σ2 H1 _ _ xx xk hm hn r2 h2 ?_ (kx1.mono z1)
    exact ⟨fun ρ3 σ3 G3 H3 h3 z3 r3 => ⟨G3,ρ3,z.trans (z1.trans z3),r3,h3⟩,fun ρ3 σ3 G3 H3 h3 z3 r3 => k2.nx ρ3 σ3 G3 H3 h3 z3 r3,fun ρ3 σ3 G3 H3 h3 z3 r3 => ⟨G3,ρ3,z.trans (z1.trans z3),r3,h3⟩,fun d ρ3 σ3 v G3 H3 h3 z3 r3 => k2.rt d ρ3 σ3 v G3 H3 h3 z3 r3⟩
  · obtain rfl:i = ds.length:=by exact zo184 hi hge
    exact .inl ⟨st (Nat.le_refl _),k1.nx ρ' σ' G' H' (fin ρ' w) (Same.refl _) r'⟩
theorem qe_dict0:QE X ow (.Dict [] [] pos) (mC .dct):=by
  refine ⟨_,pe_dnewK,fun C G ρ σ H pd q Q r hm k => fun p hp => ?_⟩
  obtain ⟨O,ro⟩:=r
  obtain ⟨r2,s2⟩:=ro.new hp (.dK [])
  exact k _ ρ _ _ _ hm s2 Kp.refl ⟨O,r2⟩ (by rw [Rep]; exact ⟨p,[],rfl,upd_same⟩)
variable {x:Str} {p':Pos} {ma:ME}
def mTupOf (m:ME):ME:=fun ρ q => m ρ fun d ρ' => match d with
  | .lst ds => q (.tup ds) ρ'
  | _ => False
theorem qe_tupOf (hg:Gl X x) (hm:X.mg x = none) (hv:bootBuiltins x = some (.type "tuple")) (ha:QE X ow e ma) (hn:x ≠ "__name__":=by decide) (hdb:(x == ("__debug__":Str)) = false:=by decide)
    (he:starEach [e] X.env = [(false,eval e X.env)]:=by rfl):QE X ow (.Call (.Name x p') [e] [] pos) (mTupOf ma):=by
  obtain ⟨t,p,s⟩:=ha
  refine ⟨_,pe_callTy call_tuple_of hg hm hv (pa_cons p pa_nil he) hn hdb he rfl,fun C G ρ σ H pd q Q r hm k => s C G ρ σ H pd _ _ r hm fun d ρ' v G' H' hq z kp r' p1 => ?_⟩
  cases d with
  | lst ds =>
    obtain ⟨a,xs,rfl,h1,h2⟩:=rep_lst_of p1
    refine ⟨a,xs,rfl,.inl ⟨SqL.of (r'.gh _ _ h1),fun l hl => ?_⟩⟩
    obtain ⟨O,ro⟩:=r'
    obtain ⟨r2,s2⟩:=ro.new hl (.tup xs)
    exact k _ ρ' _ _ _ hq (z.trans s2) kp ⟨O,r2⟩ (rep_tup upd_same (Reps.mono s2 _ _ h2))
  | _ => exact hq.elim
end
structure FlO (C:Ctx) (G H:Hp) (O:Own) (p:Addr) (xs:List V):Prop where
  gp:G p = none
  op:O p = none
  cp:C.H p = none
  hp:H p = some (.lst xs)
def Ctx.pin (C:Ctx) (p:Addr) (o:HO):Ctx:={ C with H:=fun a => if a = p then some o else C.H a,O:=fun a => if a = p then none else C.O a }
section
variable {C:Ctx} {ow:List Bool} {G:Hp} {ρ:DSt} {σ:St} {H:Hp} {pd:List (D × V)} {O:Own} {p:Addr} {xs:List V}
theorem RO.off (h:RO C ow G ρ σ H pd O) (gp:G p = none) (op:O p = none) (cp:C.H p = none) (o:HO):RO C ow G ρ σ (upd H p o) pd O:=by
  have ne:∀ a l,O a = some l → a ≠ p:=fun a l e z => by rw [z,op] at e; cases e
  refine ⟨h.len,fun a u e => ?_,h.g0,h.gn,fun a l e => ?_,h.cok,fun a u e n => ?_,fun a e => ?_,h.mp,fun i d e => ?_,?_,h.np⟩
  · rw [upd_ne (fun z => by rw [z,gp] at e; cases e)]; exact h.gh _ _ e
  · rw [upd_ne (ne a l e)]; exact h.og a l e
  · rw [upd_ne (fun z => by rw [z,cp] at e; cases e)]; exact h.fr a u e n
  · by_cases z:a = p
    · rw [z]; exact cp
    · rw [upd_ne z] at e; exact h.al a e
  · obtain ⟨v,h1,h2⟩:=h.sl i d e
    refine ⟨v,h1,?_⟩
    split at h2
    · rename_i c; rw [if_pos c]; exact h2.keep (fun _ _ z => z) fun a τ q => ⟨q,upd_ne (ne a _ q)⟩
    · rename_i c; rw [if_neg c]; exact h2
  · exact Pend.keep (fun _ _ z => z) (fun a j π _ q => ⟨q,upd_ne (ne a _ q)⟩) h.pn
theorem RO.free (h:RO C ow G ρ σ H pd O) (hp:H p = none):G p = none ∧ O p = none ∧ C.H p = none:=by
  refine ⟨?_,?_,h.al p hp⟩
  · cases e:G p with
    | none => rfl
    | some z => rw [h.gh _ _ e] at hp; cases hp
  · cases e:O p with
    | none => rfl
    | some l => obtain ⟨_,⟨xs,q⟩,_⟩:=h.og p l e; rw [hp] at q; cases q
theorem RO.frame (h:RO C ow G ρ σ H pd O) (f:FlO C G H O p xs):RO (C.pin p (.lst xs)) ow G ρ σ H pd O:=by
  have at1:∀ a,a ≠ p → (C.pin p (.lst xs)).H a = C.H a:=fun a z => if_neg z
  have at2:∀ a,a ≠ p → (C.pin p (.lst xs)).O a = C.O a:=fun a z => if_neg z
  have ap:(C.pin p (.lst xs)).H p = some (.lst xs):=if_pos rfl
  have ap2:(C.pin p (.lst xs)).O p = none:=if_pos rfl
  refine ⟨h.len,h.gh,h.g0,fun a u e => ?_,fun a l e => ?_,fun a l π e => ?_,fun a u e n => ?_,fun a e => ?_,h.mp,h.sl,h.pn,h.np⟩
  · have z:a ≠ p:=fun z => by rw [z,f.gp] at e; cases e
    rw [at1 a z]; exact h.gn a u e
  · have z:a ≠ p:=fun z => by rw [z,f.op] at e; cases e
    obtain ⟨q1,q2,q3⟩:=h.og a l e
    refine ⟨q1,q2,?_⟩
    unfold Nw at q3 ⊢
    rw [at1 a z,at2 a z]; exact q3
  · have z:a ≠ p:=fun z => by rw [z,ap2] at e; cases e
    rw [at2 a z] at e; exact h.cok a l π e
  · by_cases z:a = p
    · subst z; rw [ap] at e; cases e; exact f.hp
    · rw [at1 a z] at e; rw [at2 a z] at n; exact h.fr a u e n
  · have z:a ≠ p:=fun z => by rw [z,f.hp] at e; cases e
    rw [at1 a z]; exact h.al a e
theorem RO.unframe {G2:Hp} {ρ2:DSt} {σ2:St} {H2:Hp} {pd2:List (D × V)} {O2:Own} {ow2:List Bool} (h:RO C ow G ρ σ H pd O) (f:FlO C G H O p xs) (h2:RO (C.pin p (.lst xs)) ow2 G2 ρ2 σ2 H2 pd2 O2):RO C ow2 G2 ρ2 σ2 H2 pd2 O2 ∧ FlO C G2 H2 O2 p xs:=by
  have at1:∀ a,a ≠ p → (C.pin p (.lst xs)).H a = C.H a:=fun a z => if_neg z
  have at2:∀ a,a ≠ p → (C.pin p (.lst xs)).O a = C.O a:=fun a z => if_neg z
  have ap:(C.pin p (.lst xs)).H p = some (.lst xs):=if_pos rfl
  have ap2:(C.pin p (.lst xs)).O p = none:=if_pos rfl
  have gp0:C.G p = none:=by
    cases e:C.G p with
    | none => rfl
    | some z => have:=h.g0 p z e; rw [f.gp] at this; cases this
  have gp:G2 p = none:=by
    cases e:G2 p with
    | none => rfl
    | some z =>
      rcases h2.gn p z e with q | q
      · rw [show (C.pin p (.lst xs)).G p = C.G p from rfl,gp0] at q; cases q
      · rw [ap] at q; cases q
  have op:O2 p = none:=by
    cases e:O2 p with
    | none => rfl
    | some l =>
      obtain ⟨_,_,q⟩:=h2.og p l e
      rcases q with q | ⟨π,q⟩
      · rw [ap] at q; cases q
      · rw [ap2] at q; cases q
  refine ⟨⟨h2.len,h2.gh,h2.g0,fun a u e => ?_,fun a l e => ?_,h.cok,fun a u e n => ?_,fun a e => ?_,h2.mp,h2.sl,h2.pn,h2.np⟩,gp,op,f.cp,h2.fr p _ ap ap2⟩
  · have z:a ≠ p:=fun z => by rw [z,gp] at e; cases e
    have:=h2.gn a u e; rw [at1 a z] at this; exact this
  · have z:a ≠ p:=fun z => by rw [z,op] at e; cases e
    obtain ⟨q1,q2,q3⟩:=h2.og a l e
    refine ⟨q1,q2,?_⟩
    unfold Nw at q3 ⊢
    rw [at1 a z,at2 a z] at q3; exact q3
  · have z:a ≠ p:=fun z => by rw [z,f.cp] at e; cases e
    exact h2.fr a u (by rw [at1 a z]; exact e) (by rw [at2 a z]; exact n)
  · by_cases z:a = p
    · rw [z]; exact f.cp
    · have:=h2.al a e; rw [at1 a z] at this; exact this
theorem RO.catch (h:RO C ow G ρ σ H pd O) (f:FlO C G H O p xs):RO C ow (upd G p (.lst xs)) ρ σ H pd O ∧ Same G (upd G p (.lst xs)):=by
  have sG:=same_upd f.gp (.lst xs)
  refine ⟨⟨h.len,fun a u e => ?_,fun a u e => sG _ _ (h.g0 a u e),fun a u e => ?_,fun a l e => ?_,h.cok,h.fr,h.al,h.mp,fun i d e => ?_,?_,h.np⟩,sG⟩
  · by_cases z:a = p
    · subst z; rw [upd_same] at e; cases e; exact f.hp
    · rw [upd_ne z] at e; exact h.gh _ _ e
  · by_cases z:a = p
    · subst z; exact .inr f.cp
    · rw [upd_ne z] at e; exact h.gn a u e
  · have z:a ≠ p:=fun z => by rw [z,f.op] at e; cases e
    rw [upd_ne z]; exact h.og a l e
  · obtain ⟨v,h1,h2⟩:=h.sl i d e
    refine ⟨v,h1,?_⟩
    split at h2
    · rename_i c; rw [if_pos c]; exact h2.keep sG.ts fun a τ q => ⟨q,rfl⟩
    · rename_i c; rw [if_neg c]; exact h2.mono sG
  · exact Pend.keep sG.ts (fun a j π _ q => ⟨q,rfl⟩) h.pn
end
def SN (ow:List Bool) (t:TE) (m:MA):Prop:=∀ (C:Ctx) (G:Hp) (ρ:DSt) (σ:St) (H:Hp) (pd:List (D × V)) (q:List D → DSt → Prop) (Q:VK),R C ow G ρ σ H pd → m ρ q →
  (∀ ds ρ' xs p G' H',q ds ρ' → Same G G' → Kp ow ρ ρ' → R C ow G' ρ' σ H' pd → H' p = none → Reps G' ds xs → Q (.ref p) (upd H' p (.lst xs))) → t σ H Q
structure QN (X:Cx) (ow:List Bool) (e:Expr) (m:MA):Prop where
  ex:∃ t,PE X e t ∧ SN ow t m
section
variable {X:Cx} {ow:List Bool} {a b e:Expr} {es:List Expr} {ma mb:ME} {mr:MA} {pos:Pos} {x:Str} {p':Pos}
end
def RF (C:Ctx) (ow:List Bool) (G:Hp) (ρ:DSt) (σ:St) (H:Hp) (p:Addr) (xs:List V):Prop:=∃ O,RO C ow G ρ σ H [] O ∧ FlO C G H O p xs
structure Fl (C:Ctx) (ow:List Bool) (i:Nat) (G:Hp) (ρ:DSt) (σ:St) (H:Hp) (p:Addr) (ds:List D):Prop where
  ex:∃ xs,RF C ow G ρ σ H p xs ∧ Reps G ds xs
  no : ρ[i]? = some none
  at' : σ[i]? = some (some (.ref p))
abbrev MFl:=(List D → DSt → Prop) → List D → DSt → Prop
abbrev MFe:=EndsD → List D → DSt → Prop
def SFl (M:Md) (i:Nat) (t:TS) (m:MFl):Prop:=∀ (C:Ctx) (G:Hp) (ρ:DSt) (σ:St) (H:Hp) (p:Addr) (ds:List D) (n:List D → DSt → Prop) (D:Ends),MuOk C M.mu → C.np = 0 → Fl C M.ow i G ρ σ H p ds → m n ds ρ →
  (∀ ds' ρ' σ' G' H',n ds' ρ' → Same G G' → Fl C M.ow i G' ρ' σ' H' p ds' → D.nx σ' H') → t D σ H
def SFe (M:Md) (i:Nat) (t:TS) (m:MFe):Prop:=∀ (C:Ctx) (G:Hp) (ρ:DSt) (σ:St) (H:Hp) (p:Addr) (ds:List D) (n:EndsD) (D:Ends),MuOk C M.mu → C.np = 0 → Fl C M.ow i G ρ σ H p ds → m n ds ρ → Ks C M.ow M.fr G n D → t D σ H
structure QFl (X:Cx) (M:Md) (i:Nat) (st:Stmt) (m:MFl):Prop where
  ex:∃ t,PS X st t ∧ SFl M i t m
structure QFls (X:Cx) (M:Md) (i:Nat) (st:List Stmt) (m:MFl):Prop where
  ex:∃ t,PSs X st t ∧ SFl M i t m
structure QFe (X:Cx) (M:Md) (i:Nat) (st:List Stmt) (m:MFe):Prop where
  ex:∃ t,PSs X st t ∧ SFe M i t m
section
variable {X:Cx} {M:Md} {i:Nat} {st:Stmt} {rest:List Stmt} {m1 m2:MFl} {me:MFe} {ms:MS} {pos pos':Pos}
def fNil:MFl:=fun n ds ρ => n ds ρ
def fSeq (a b:MFl):MFl:=fun n ds ρ => a (fun ds' ρ' => b n ds' ρ') ds ρ
theorem fls_nil:QFls X M i [] fNil:=⟨_,pss_nil,fun C G ρ σ H p ds n D hm hn f h k => k ds ρ σ G H h (Same.refl _) f⟩
theorem fls_cons (h:QFl X M i st m1) (h2:QFls X M i rest m2):QFls X M i (st :: rest) (fSeq m1 m2):=by
  obtain ⟨t,p,s⟩:=h; obtain ⟨t2,p2,s2⟩:=h2
  exact ⟨_,pss_cons p p2,fun C G ρ σ H p ds n D hm hn f h k => s C G ρ σ H p ds _ _ hm hn f h fun ds' ρ' σ' G' H' h' z f' => s2 C G' ρ' σ' H' p ds' n D hm hn f' h' fun ds2 ρ2 σ2 G2 H2 h2 z2 f2 => k ds2 ρ2 σ2 G2 H2 h2 (z.trans z2) f2⟩
theorem fe_cons (h:QFl X M i st m1) (h2:QFe X M i rest me):QFe X M i (st :: rest) (fun n ds ρ => m1 (fun ds' ρ' => me n ds' ρ') ds ρ):=by
  obtain ⟨t,p,s⟩:=h; obtain ⟨t2,p2,s2⟩:=h2
  refine ⟨_,pss_cons p p2,fun C G ρ σ H p ds n D hm hn f h k => s C G ρ σ H p ds _ _ hm hn f h fun ds' ρ' σ' G' H' h' z f' => ?_⟩
  exact s2 C G' ρ' σ' H' p ds' n D hm hn f' h' (k.mono z)
theorem fe_end (h:QSs X M rest ms) (ho:M.ow[i]? ≠ some true:=by decide) (hu:M.mu[i]? ≠ some true:=by decide):QFe X M i rest (fun n ds ρ => ms n (ρ.set i (some (.lst ds)))):=by
  obtain ⟨t,p,s⟩:=h
  refine ⟨_,p,fun C G ρ σ H p ds n D hm hn f h k => ?_⟩
  obtain ⟨xs,⟨O,ro,fo⟩,rs⟩:=f.ex
  obtain ⟨r1,z1⟩:=ro.catch fo
  have r2:=r1.setS ho (hm.no hu) (rep_lst upd_same (Reps.mono z1 _ _ rs))
  have e : σ.set i (some (.ref p)) = σ:=by
    apply List.ext_getElem?
    intro j
    by_cases c:i = j
    · subst c
      rw [f.at',List.getElem?_set_self (List.getElem?_eq_some_iff.mp f.at').1]
    · rw [List.getElem?_set_ne c]
  rw [e] at r2
  exact s C _ _ σ H n D hm hn ⟨O,r2⟩ h (k.mono z1)
def mBegin (i:Nat) (mN:MA) (me:MFe):MS:=fun n ρ => mN ρ fun ds ρ' => i < ρ'.length ∧ me n ds (ρ'.set i none)
theorem fl_begin {x:Str} {e:Expr} {mN:MA} (hN:X.N.Nodup) (hi:X.N[i]? = some x) (hx:Loc X.env.scope x) (he:QN X M.ow e mN) (hr:QFe X M i rest me) (ho:M.ow[i]? ≠ some true:=by decide) (hu:M.mu[i]? ≠ some true:=by decide)
    (hs:swapsWith e (some (.Name x pos')) pos.line X.env = pure false:=by rfl) (hf:X.fn x = true ∨ X.env.scope.names.lookup x = some .local:=by first | exact .inl rfl | exact .inr rfl | assumption) :
    QSs X M (.Assign [.Name x pos'] e pos :: rest) (mBegin i mN me):=by
  obtain ⟨t,p,s⟩:=he; obtain ⟨t2,p2,s2⟩:=hr
  refine ⟨_,pss_cons (ps_set hN hi hx p hs hf) p2,fun C G ρ σ H n D hm hn r h k => s C G ρ σ H [] _ _ r h fun ds ρ' xs p G' H' hq z kp r' hp rs => ?_⟩
  obtain ⟨O,ro⟩:=r'
  obtain ⟨g1,g2,g3⟩:=ro.free hp
  have hl:i < σ.length:=by rw [← ro.len]; exact hq.1
  have r1:=(ro.off g1 g2 g3 (.lst xs)).gone i (hm.no hu)
  have r2:RO C M.ow G' (ρ'.set i none) (σ.set i (some (.ref p))) (upd H' p (.lst xs)) [] O:=by
    refine ⟨by have:=ro.len; simp [this],r1.gh,r1.g0,r1.gn,r1.og,r1.cok,r1.fr,r1.al,fun j v e => ?_,fun j d e => ?_,r1.pn,r1.np⟩
    · have c:i ≠ j:=fun z => hm.no hu v (z ▸ e)
      rw [List.getElem?_set_ne c]; have:=r1.mp j v e; rw [List.getElem?_set_ne c] at this; exact this
    · have c:i ≠ j:=fun z => by
        subst z
        rw [List.getElem?_set_self (by (first|lia|omega))] at e; cases e
      obtain ⟨v,h1,h2⟩:=r1.sl j d e
      rw [List.getElem?_set_ne c] at h1
      exact ⟨v,by rw [List.getElem?_set_ne c]; exact h1,h2⟩
  refine s2 C G' _ _ _ p ds n D hm hn ⟨⟨xs,⟨O,r2,g1,g2,g3,upd_same⟩,rs⟩,List.getElem?_set_self hq.1,List.getElem?_set_self hl⟩ hq.2 (k.mono z)
variable {e b c:Expr} {ma mb:ME} {mt:MT}
def fAppend (ma:ME):MFl:=fun n ds ρ => ma ρ fun d ρ' => ds.length < 1000 ∧ n (ds ++ [d]) ρ'
theorem kp_no {ow:List Bool} {i:Nat} {ρ ρ':DSt} (kp:Kp ow ρ ρ') (ho:ow[i]? ≠ some true) (h : ρ[i]? = some none) : ρ'[i]? = some none:=(kp i ho).trans h
theorem fl_append {x:Str} {apos cpos npos:Pos} (hN:X.N[i]? = some x) (he:QE X M.ow e ma) (ho:M.ow[i]? ≠ some true:=by decide)
    (hv:Vis X.env.scope x:=by first | exact Or.inl rfl | exact Or.inr (Or.inl rfl) | exact Or.inr (Or.inr rfl)) (hd:(x == ("__debug__":Str)) = false:=by decide) (hcd:(x == ("__classdict__":Str)) = false:=by decide)
    (hbase:attributeBase (.Name x npos) "append" X.env (eval (.Name x npos) X.env) = eval (.Name x npos) X.env:=by rfl)
    (hfew:((backTo cpos (starEach [e] X.env)).all (fun x => !x.1) && (backToKw cpos (keywordEach [] X.env)).all (fun x => x.1.isSome)
      && decide ([e].length + ([]:List Keyword).length + (if ([]:List Keyword).isEmpty then 0 else 1) < 30)) = true:=by rfl)
    (hline:(apos.endLine == cpos.line) = true:=by rfl) (hst:starEach [e] X.env = [(false,eval e X.env)]:=by rfl)
    (hs:swapsWith (.Call (.Attribute (.Name x npos) "append" apos) [e] [] cpos) none pos.line X.env = pure false:=by rfl) :
    QFl X M i (.Expr (.Call (.Attribute (.Name x npos) "append" apos) [e] [] cpos) pos) (fAppend ma):=by
  obtain ⟨t,p,s⟩:=he
  refine ⟨_,ps_expr (pe_bm PySem.F.plainAttrs_list PySem.F.slot_list_append PySem.F.type_list_append mt_append (pe_var hN hv hd hcd) (pa_cons p pa_nil hst) hbase hfew hline hst (by rfl)) hs,fun C G ρ σ H p ds n D hm hn f h k => ?_⟩
  obtain ⟨xs,⟨O,ro,fo⟩,rs⟩:=f.ex
  refine ⟨.ref p,f.at',.inl ⟨rfl,xs,SqL.of fo.hp⟩,?_⟩
  refine s (C.pin p (.lst xs)) G ρ σ H [] _ _ ⟨O,ro.frame fo⟩ h fun d ρ' v G' H' hq z kp r' pv => ?_
  obtain ⟨O2,r2⟩:=r'
  obtain ⟨r3,f3⟩:=ro.unframe fo r2
  have hl:=rs.length
  refine ⟨p,xs,v,rfl,rfl,f3.hp,by rw [hl]; exact small1000 (Nat.le_of_lt hq.1),?_⟩
  exact k _ ρ' σ G' _ hq.2 z ⟨⟨xs ++ [v],⟨O2,r3.off f3.gp f3.op f3.cp _,f3.gp,f3.op,f3.cp,upd_same⟩,reps_app (Reps.mono z _ _ rs) (reps_cons pv reps_nil)⟩,kp_no kp ho f.no,f.at'⟩
end
section
variable {C:Ctx} {ow:List Bool} {i:Nat} {G:Hp} {ρ:DSt} {σ:St} {H:Hp} {p:Addr} {ds:List D}
end
section
variable {X:Cx} {M:Md} {i:Nat} {pos pos':Pos} {e c:Expr} {ma:ME} {mt:MT} {m1 m2:MFl}
end
section
variable {X:Cx} {M:Md} {a b e:Expr} {ma mb:ME} {pos:Pos}
end
section
variable {X:Cx} {M:Md} {a b:Expr} {ma mb:ME} {pos:Pos}
end
section
variable {X:Cx} {pos p1 p2 q1 q2:Pos} {n1 n2:Nat} {k1 k2 x y:Str} {i j:Nat} {ow:List Bool}
end
section
variable {X:Cx} {ow:List Bool} {a b e:Expr} {ma mb:ME} {pos p2:Pos} {lo hi:Option Expr} {ml mh:MO}
end
section
variable {X:Cx} {M:Md} {i:Nat} {st:Stmt} {m:MFl}
end
mutual
def pln:D → Bool
  | .tup ds => plns ds
  | .lst ds => plns ds
  | .scr _ _ => false
  | .ext _ => false
  | _ => true
def plns:List D → Bool
  | [] => true
  | d :: ds => pln d && plns ds
end
theorem pln_isS {d:D} (h:pln d = true):d.isS = false:=by
  cases d <;> first | rfl | (rw [pln] at h; cases h)
theorem plns_cons {d:D} {ds:List D}:plns (d :: ds) = true ↔ pln d = true ∧ plns ds = true:=by rw [plns,Bool.and_eq_true]
theorem plns_at:∀ {ds:List D} {i:Nat} {d:D},plns ds = true → ds[i]? = some d → pln d = true
  | [],i,d,_,e => by simp at e
  | x :: ds,0,d,h,e => by simp at e; subst e; exact (plns_cons.mp h).1
  | x :: ds,i + 1,d,h,e => plns_at (plns_cons.mp h).2 (by simpa using e)
theorem plns_of:∀ {ds:List D},(∀ d ∈ ds,pln d = true) → plns ds = true
  | [],_ => rfl
  | d :: ds,h => plns_cons.mpr ⟨h d (by simp),plns_of fun x hx => h x (by simp [hx])⟩
theorem plns_mem:∀ {ds:List D} {d:D},plns ds = true → d ∈ ds → pln d = true
  | x :: ds,d,h,e => by
    rcases List.mem_cons.mp e with rfl | e
    · exact (plns_cons.mp h).1
    · exact plns_mem (plns_cons.mp h).2 e
theorem plns_ints (ns:List Int):plns (ns.map D.int) = true:=plns_of fun d h => by
  obtain ⟨x,_,rfl⟩:=List.mem_map.mp h; rfl
theorem pln_dInts (ns:List Int):pln (dInts ns) = true:=by unfold dInts; rw [pln]; exact plns_ints ns
theorem pln_pair (ps rs:List Int):pln (dPair ps rs) = true:=by
  unfold dPair; rw [pln,plns_cons,plns_cons]; exact ⟨pln_dInts _,pln_dInts _,rfl⟩
def firstBad (f:Nat → D → Bool):List D → Nat → Option Nat
  | [],_ => none
  | d :: ds,i => if f i d = true then firstBad f ds (i + 1) else some i
theorem firstBad_step {f:Nat → D → Bool} {ds:List D} {i:Nat} {d:D} (e:ds[i]? = some d) (k:Nat):firstBad f (ds.drop i) k = if f k d = true then firstBad f (ds.drop (i + 1)) (k + 1) else some k:=by
  have hl:i < ds.length:=(List.getElem?_eq_some_iff.mp e).1
  have:ds.drop i = d :: ds.drop (i + 1):=by
    rw [List.drop_eq_getElem_cons hl]
    have:=(List.getElem?_eq_some_iff.mp e).2
    rw [this]
  rw [this,firstBad]
theorem firstBad_none {f:Nat → D → Bool}:∀ {ds:List D} {k:Nat},(∀ (i:Nat) d,ds[i]? = some d → f (k + i) d = true) → firstBad f ds k = none
  | [],_,_ => rfl
  | d :: ds,k,h => by
    rw [firstBad,if_pos (show f k d = true from h 0 d rfl)]
    exact firstBad_none fun i d' e => by
      have:=h (i + 1) d' (by simpa using e)
      rw [show k + 1 + i = k + (i + 1) by exact zo9]; exact this
def fPar (i:Nat) (d:D):Bool:=btw 0 i d
def fRoom (_:Nat) (d:D):Bool:=btw 1 1000000 d
def treeErr (d:D):Option (Str × D):=if twoL d = true then (match d with
  | .tup [.lst ps,.lst rs] => (match firstBad fPar ps 0 with
    | some i => some ("parents",.int i)
    | none => (match firstBad fRoom rs 0 with
      | some i => some ("rooms",.int i)
      | none => none))
  | _ => none) else some ("tree",.non)
theorem twoL_shape {d:D} (h:twoL d = true):∃ ps rs,d = .tup [.lst ps,.lst rs] ∧ ps.length = rs.length ∧ 1 ≤ ps.length ∧ ps.length ≤ 23:=by
  unfold twoL at h
  split at h
  · rename_i ps rs
    simp only [Bool.and_eq_true,decide_eq_true_eq] at h
    exact ⟨ps,rs,rfl,h.1,h.2.1,h.2.2⟩
  · cases h
theorem treeErr_no {d:D} (h:twoL d = false):treeErr d = some (("tree":Str),D.non):=by unfold treeErr; rw [if_neg (by rw [h]; decide)]
theorem treeErr_two {ps rs:List D} (h:twoL (.tup [.lst ps,.lst rs]) = true):treeErr (.tup [.lst ps,.lst rs]) = (match firstBad fPar ps 0 with
    | some i => some ("parents",.int i)
    | none => (match firstBad fRoom rs 0 with
      | some i => some ("rooms",.int i)
      | none => none)):=by unfold treeErr; rw [if_pos h]
theorem treeErr_tree {ps rs:List Int} (hT:Tree ps rs):treeErr (dPair ps rs) = none:=by
  have h:=twoL_pair hT
  unfold dPair dInts at h ⊢
  rw [treeErr_two h]
  rw [firstBad_none (f:=fPar) (k:=0) fun i d e => by
    obtain ⟨z,hz,rfl⟩:=map_at e
    have:=hT.par i z hz
    rw [Nat.zero_add]; exact btw_int this.1 this.2]
  rw [firstBad_none (f:=fRoom) (k:=0) fun i d e => by
    obtain ⟨z,hz,rfl⟩:=map_at e
    have:=hT.room i z hz
    exact btw_int this.1 this.2]
theorem fmt_nat {n:Nat} (h:n < 2 ^ 1000):FmtD (.int (n:Int)):=by
  show (n:Int).natAbs.log2 < 1920
  rw [Int.natAbs_natCast]
  by_cases h0:n = 0
  · rw [h0]; decide
  · exact Nat.lt_trans ((Nat.log2_lt h0).mpr h) (by decide)
theorem fmt_non:FmtD .non:=True.intro
theorem fmt_str {x:Str} (h:x.length ≤ 1000):FmtD (.str x):=h
theorem fmt2 {a b:D} (ha:FmtD a) (hb:FmtD b):∀ d ∈ [a,b],FmtD d:=fun d h => by
  simp only [List.mem_cons,List.not_mem_nil,or_false] at h
  rcases h with rfl | rfl
  · exact ha
  · exact hb
theorem fmt1 {a:D} (ha:FmtD a):∀ d ∈ [a],FmtD d:=fun d h => by
  simp only [List.mem_cons,List.not_mem_nil,or_false] at h
  subst h; exact ha
def sdTwoD:SpD:=fun ds q => ∃ d,ds = [d] ∧ pln d = true ∧ q (.bl (twoL d)) []
abbrev nTree:List Str:=["part","number"]
def sdLookT (c:Addr):SpX:=fun ds q qx => ∃ d,ds = [d] ∧ pln d = true ∧ (treeErr d = none → q .non []) ∧ ∀ p n,treeErr d = some (p,n) → qx c nTree [.str p,n] []
theorem btw_shape {lo hi:Int} {d:D} (h:btw lo hi d = true):∃ i,d = .int i ∧ lo ≤ i ∧ i ≤ hi:=by
  cases d with
  | int i => simp only [btw,Bool.and_eq_true,decide_eq_true_eq] at h; exact ⟨i,rfl,h.1,h.2⟩
  | _ => cases h
def neZ:D → D → Bool
  | .int i,.int j => !decide (i = j)
  | _,_ => false
def endsB (n:Nat) (a b:D):Bool:=btw 0 n a && (btw 0 n b && neZ a b)
theorem endsB_of {ps:List Int} {a b:D} (h:endsB ps.length a b = true):∃ i j,a = .int i ∧ b = .int j ∧ Ends2 ps i j:=by
  unfold endsB at h
  rw [Bool.and_eq_true,Bool.and_eq_true] at h
  obtain ⟨i,rfl,i0,i1⟩:=btw_shape h.1
  obtain ⟨j,rfl,j0,j1⟩:=btw_shape h.2.1
  have:=h.2.2
  simp only [neZ,Bool.not_eq_true',decide_eq_false_iff_not] at this
  exact ⟨i,j,rfl,rfl,i0,i1,j0,j1,this⟩
theorem endsB_to {ps:List Int} {i j:Int} (h:Ends2 ps i j):endsB ps.length (.int i) (.int j) = true:=by
  unfold endsB
  rw [btw_int h.a0 h.a1,btw_int h.b0 h.b1]
  simp [neZ,h.ne]
def sdEndsD:SpD:=fun ds q => ∃ ps rs a b,ds = [dPair ps rs,a,b] ∧ pln a = true ∧ pln b = true ∧ q (.bl (endsB ps.length a b)) []
def askB (n:Nat):D → Bool
  | .tup [a,b,s,w] => endsB n a b && (btw 1 1000000 s && btw 1 1000000000000 w)
  | _ => false
theorem askB_of {ps:List Int} {d:D} (h:askB ps.length d = true):∃ a,d = dAsk a ∧ AskOk ps a:=by
  unfold askB at h
  split at h
  · rename_i a b s w
    rw [Bool.and_eq_true,Bool.and_eq_true] at h
    obtain ⟨i,j,rfl,rfl,hE⟩:=endsB_of h.1
    obtain ⟨s',rfl,s0,s1⟩:=btw_shape h.2.1
    obtain ⟨w',rfl,w0,w1⟩:=btw_shape h.2.2
    exact ⟨⟨i,j,s',w'⟩,rfl,hE,s0,s1,w0,w1⟩
  · cases h
theorem askB_to {ps:List Int} {a:Ask} (h:AskOk ps a):askB ps.length (dAsk a) = true:=by
  show (endsB ps.length (.int a.one) (.int a.other) && (btw 1 1000000 (.int a.size) && btw 1 1000000000000 (.int a.worth))) = true
  rw [endsB_to h.ends,btw_int h.s0 h.s1,btw_int h.w0 h.w1]; rfl
def fAsk (n:Nat) (_:Nat) (d:D):Bool:=askB n d
def asksErr (n:Nat):D → Option D
  | .lst ds => if ds.length ≤ 30 then (firstBad (fAsk n) ds 0).map fun (i:Nat) => D.int i else some .non
  | _ => some .non
theorem firstBad_all {f:Nat → D → Bool}:∀ {ds:List D} {k:Nat},firstBad f ds k = none → ∀ (i:Nat) d,ds[i]? = some d → f (k + i) d = true
  | [],_,_,i,d,e => by simp at e
  | x :: ds,k,h,i,d,e => by
    rw [firstBad] at h
    split at h
    · rename_i c
      cases i with
      | zero => simp at e; subst e; exact c
      | succ i =>
        have:=firstBad_all h i d (by simpa using e)
        rw [show k + (i + 1) = k + 1 + i by exact zo117]; exact this
    · cases h
theorem asksErr_ok {ps:List Int} {as:List Ask} (h:AsksOk ps as):asksErr ps.length (dAsks as) = none:=by
  show (if (as.map dAsk).length ≤ 30 then _ else _) = none
  rw [if_pos (by rw [List.length_map]; exact h.len),firstBad_none fun i d e => ?_]
  · rfl
  · obtain ⟨a,ha,rfl⟩:=asks_at e
    exact askB_to (h.ok a (List.mem_of_getElem? ha))
def sdIsAskD:SpD:=fun ds q => ∃ ps rs d,ds = [dPair ps rs,d] ∧ pln d = true ∧ q (.bl (askB ps.length d)) []
abbrev nNum:List Str:=["number"]
def sdAsksX (cT cA:Addr):SpX:=fun ds q qx => ∃ t x,ds = [t,x] ∧ ((∃ p n,pln t = true ∧ treeErr t = some (p,n) ∧ qx cT nTree [.str p,n] []) ∨
  ∃ ps rs,t = dPair ps rs ∧ Tree ps rs ∧ pln x = true ∧ ((∃ n,asksErr ps.length x = some n ∧ qx cA nNum [n] []) ∨ (asksErr ps.length x = none ∧ q .non [])))
def intD:D → Int
  | .int z => z
  | _ => 0
def keepBad (n:Nat):List D → Int → Nat → Option Nat
  | [],_,_ => none
  | d :: ds,least,i => if btw least ((n:Int) - 1) d = true then keepBad n ds (intD d + 1) (i + 1) else some i
def keepErr (n:Nat):D → Option D
  | .lst ds => (keepBad n ds 0 0).map fun (i:Nat) => D.int i
  | _ => some .non
theorem keepBad_step {n:Nat} {ds:List D} {i:Nat} {d:D} {least:Int} (e:ds[i]? = some d) (k:Nat):keepBad n (ds.drop i) least k = if btw least ((n:Int) - 1) d = true then keepBad n (ds.drop (i + 1)) (intD d + 1) (k + 1) else some k:=by
  have hl:i < ds.length:=(List.getElem?_eq_some_iff.mp e).1
  have:ds.drop i = d :: ds.drop (i + 1):=by
    rw [List.drop_eq_getElem_cons hl]
    have:=(List.getElem?_eq_some_iff.mp e).2
    rw [this]
  rw [this,keepBad]
theorem keepBad_none {n:Nat}:∀ {ds:List D} {least:Int} {k:Nat},keepBad n ds least k = none → ∃ ks:List Int,ds = ks.map D.int ∧ ks.Pairwise (· < ·) ∧ ∀ z ∈ ks,least ≤ z ∧ z < n
  | [],least,k,_ => ⟨[],rfl,.nil,fun z h => by cases h⟩
  | d :: ds,least,k,h => by
    rw [keepBad] at h
    split at h
    · rename_i c
      obtain ⟨z,rfl,z0,z1⟩:=btw_shape c
      obtain ⟨ks,rfl,hp,hb⟩:=keepBad_none h
      refine ⟨z :: ks,rfl,List.pairwise_cons.mpr ⟨fun y hy => ?_,hp⟩,fun y hy => ?_⟩
      · have:z + 1 ≤ y ∧ y < n:=hb y hy
        exact zo262 this
      · rcases List.mem_cons.mp hy with rfl | hy
        · exact zo197 z0 z1
        · have:z + 1 ≤ y ∧ y < n:=hb y hy
          exact zo140 z0 this
    · cases h
theorem keepErr_none {n:Nat} {d:D} (h:keepErr n d = none):∃ ks,d = dInts ks ∧ KeepOk n ks:=by
  unfold keepErr at h
  split at h
  · rename_i ds
    cases e:keepBad n ds 0 0 with
    | some i => rw [e] at h; cases h
    | none =>
      obtain ⟨ks,rfl,hp,hb⟩:=keepBad_none e
      exact ⟨ks,rfl,hp,hb⟩
  · cases h
def sdKeepX (cT cA cK:Addr) (good:List Int → List Int → List Ask → List Int → (D → DSt → Prop) → Prop):SpX:=fun ds q qx => ∃ t x y,ds = [t,x,y] ∧ ((∃ p n,pln t = true ∧ treeErr t = some (p,n) ∧ qx cT nTree [.str p,n] []) ∨
  ∃ ps rs,t = dPair ps rs ∧ Tree ps rs ∧ pln x = true ∧ ((∃ n,asksErr ps.length x = some n ∧ qx cA nNum [n] []) ∨
    ∃ as,x = dAsks as ∧ AsksOk ps as ∧ pln y = true ∧ (∀ ds,y = .lst ds → ds.length ≤ 10000) ∧ ((∃ n,keepErr as.length y = some n ∧ qx cK nNum [n] []) ∨ ∃ ks,y = dInts ks ∧ keepErr as.length y = none ∧ KeepOk as.length ks ∧ good ps rs as ks q)))
def hNon:List Int → List Int → List Ask → List Int → (D → DSt → Prop) → Prop:=fun _ _ _ _ q => q .non []
def hLoads:List Int → List Int → List Ask → List Int → (D → DSt → Prop) → Prop:=fun ps rs as ks q => q (dInts (loadsZ ps as ks)) []
def hFirst:List Int → List Int → List Ask → List Int → (D → DSt → Prop) → Prop:=fun ps rs as ks q => q (firstD (loadsZ ps as ks) rs) []
def hWorth:List Int → List Int → List Ask → List Int → (D → DSt → Prop) → Prop:=fun ps rs as ks q => q (.int (worthZ as ks)) []
theorem pln_dAsks (as:List Ask):pln (dAsks as) = true:=by
  unfold dAsks; rw [pln]
  exact plns_of fun d h => by obtain ⟨a,_,rfl⟩:=List.mem_map.mp h; rfl
theorem cutD_take {xs:List D} {k:Int} (h0 : 0 ≤ k):cutD xs none (some k) = xs.take k.toNat:=by
  have ek:k = ((k.toNat:Nat):Int):=by exact zo7 h0
  unfold cutD
  rw [HT.sIx_none,ek,HT.sIx_nat,List.drop_zero,Nat.sub_zero,Int.toNat_natCast]
  by_cases h:k.toNat ≤ xs.length
  · rw [show min k.toNat xs.length = k.toNat by (first|lia|omega)]
  · rw [show min k.toNat xs.length = xs.length by (first|lia|omega),List.take_length,List.take_of_length_le (by exact zo138 h)]
theorem cutD_drop {xs:List D} {k:Int} (h0 : 0 ≤ k):cutD xs (some k) none = xs.drop k.toNat:=by
  have ek:k = ((k.toNat:Nat):Int):=by exact zo7 h0
  unfold cutD
  rw [HT.sIx_none,ek,HT.sIx_nat,Int.toNat_natCast]
  by_cases h:k.toNat ≤ xs.length
  · rw [show min k.toNat xs.length = k.toNat by (first|lia|omega),List.take_of_length_le (by simp)]
  · rw [show min k.toNat xs.length = xs.length by (first|lia|omega),List.drop_length,List.drop_of_length_le (by exact zo138 h)]; simp
theorem plns_app {xs ys:List D} (h1:plns xs = true) (h2:plns ys = true):plns (xs ++ ys) = true:=plns_of fun d hd => (List.mem_append.mp hd).elim (plns_mem h1) (plns_mem h2)
theorem plns_take {xs:List D} (h:plns xs = true) (k:Nat):plns (xs.take k) = true:=plns_of fun d hd => plns_mem h (List.mem_of_mem_take hd)
theorem plns_drop {xs:List D} (h:plns xs = true) (k:Nat):plns (xs.drop k) = true:=plns_of fun d hd => plns_mem h (List.mem_of_mem_drop hd)
section
variable {X:Cx}
end
end L2
namespace L2
open PySem
theorem bound_bt {ps rs:List Int} {as:List Ask} {prs:List Rat} (hT:Tree ps rs) (ha:AsksOk ps as) (hp:PricesOk ps prs):Bt (boundQ ps rs as prs) 1700:=by
  have hpl:=hp.len
  have hi:=hT.hi
  have hal:=ha.len
  have hpr:prodD prs < 2 ^ 1500:=Nat.lt_of_le_of_lt (prod_bt hp.bt) (Nat.pow_lt_pow_right (by decide) (by exact zo207 hpl hi))
  have hp0:(0:Int) < prodD prs:=by have:=prodD_pos prs; exact zo193 hpr this
  rw [← bound_over hT ha hpl]
  refine Bt.divInt hp0 ?_ (by rw [Int.natAbs_natCast]; exact Nat.lt_of_lt_of_le hpr (two_le (by decide)))
  have h1:(roomZ rs (topsOf prs)).sum.natAbs ≤ 2 ^ 1650:=by
    have h:=sum_abs_le (n:=2 ^ 1584) (ns:=roomZ rs (topsOf prs)) fun x hx => by
      obtain ⟨a,ha,t,ht,rfl⟩:=mem_zipW hx
      obtain ⟨i,hi⟩:=List.getElem?_of_mem ha
      have:=hT.room i a hi
      obtain ⟨j,hj⟩:=List.getElem?_of_mem ht
      have hjl:=(List.getElem?_eq_some_iff.mp hj).1
      rw [topsOf_len] at hjl
      have hb:=tops_bd hp hpr hjl
      rw [List.getD_eq_getElem?_getD,hj] at hb
      rw [abs_mulI]
      exact lt_mul_pow (m:=20) (n:=1564) (Nat.lt_of_le_of_lt (show _ ≤ 1000000 by clear hb hpr hp0; (first|lia|omega)) (by decide)) hb
    refine Nat.le_trans h ?_
    have hl:(roomZ rs (topsOf prs)).length ≤ 2 ^ 5:=by
      unfold roomZ; rw [List.length_zipWith,topsOf_len]; clear h hpr hp0; (first|lia|omega)
    refine Nat.le_trans (Nat.mul_le_mul_right _ hl) ?_
    rw [← Nat.pow_add]; exact two_le (by decide)
  have h2:((as.map fun a => posZ (spareZ ps a (topsOf prs) (prodD prs))).sum).natAbs ≤ 2 ^ 1650:=by
    have h:=sum_abs_le (n:=2 ^ 1621) (ns:=as.map fun a => posZ (spareZ ps a (topsOf prs) (prodD prs))) fun x hx => by
      obtain ⟨a,hm,rfl⟩:=List.mem_map.mp hx
      have hok:=ha.ok a hm
      have he:=hok.ends
      have hwl:=way_len46 hT he
      have s0:=hok.s0; have s1:=hok.s1; have w0:=hok.w0; have w1:=hok.w1
      have hs:(spareZ ps a (topsOf prs) (prodD prs)).natAbs < 2 ^ 1621:=by
        unfold spareZ
        have hsum:((askWay ps a).map fun t => (topsOf prs).getD (t - 1).toNat 0).sum.natAbs < 2 ^ 1600:=by
          have h1:=sum_abs_le (n:=2 ^ 1564) (ns:=(askWay ps a).map fun t => (topsOf prs).getD (t - 1).toNat 0) fun x hx => by
            obtain ⟨t,ht,rfl⟩:=List.mem_map.mp hx
            have hm:=way_mem hT he ht
            exact tops_bd hp hpr (by exact zo41 hpl hm)
          rw [List.length_map] at h1
          refine Nat.lt_of_le_of_lt h1 ?_
          refine Nat.lt_of_le_of_lt (Nat.mul_le_mul_right _ (Nat.le_trans hwl (show 46 ≤ 2 ^ 6 by decide))) ?_
          rw [← Nat.pow_add]; exact Nat.pow_lt_pow_right (by decide) (by decide)
        have a1:(a.worth * (prodD prs:Int)).natAbs < 2 ^ 1540:=by
          rw [abs_mulI,Int.natAbs_natCast]; exact lt_mul_pow (m:=40) (n:=1500) (Nat.lt_of_le_of_lt (show _ ≤ 1000000000000 by clear hpr hp0; (first|lia|omega)) (by decide)) hpr
        have a2:(a.size * ((askWay ps a).map fun t => (topsOf prs).getD (t - 1).toNat 0).sum).natAbs < 2 ^ 1620:=by
          rw [abs_mulI]; exact lt_mul_pow (m:=20) (n:=1600) (Nat.lt_of_le_of_lt (show _ ≤ 1000000 by clear hpr hp0 a1 hsum; (first|lia|omega)) (by decide)) hsum
        have a3:(2:Nat) ^ 1540 ≤ 2 ^ 1620:=two_le (by decide)
        have a4:(2:Nat) ^ 1621 = 2 ^ 1620 + 2 ^ 1620:=by rw [Nat.pow_succ,Nat.mul_two]
        rw [a4]
        exact Nat.lt_of_le_of_lt (Int.natAbs_sub_le _ _) (Nat.add_lt_add (Nat.lt_of_lt_of_le a1 a3) a2)
      have hz:(posZ (spareZ ps a (topsOf prs) (prodD prs))).natAbs ≤ (spareZ ps a (topsOf prs) (prodD prs)).natAbs:=by
        unfold posZ; split <;> (first|lia|omega)
      exact Nat.lt_of_le_of_lt hz hs
    refine Nat.le_trans h ?_
    refine Nat.le_trans (Nat.mul_le_mul_right _ (show _ ≤ 2 ^ 5 by rw [List.length_map]; exact zo244 hal)) ?_
    rw [← Nat.pow_add]; exact two_le (by decide)
  have h3:(2:Nat) ^ 1651 = 2 ^ 1650 + 2 ^ 1650:=by rw [Nat.pow_succ,Nat.mul_two]
  refine Nat.lt_of_le_of_lt (m:=2 ^ 1651) ?_ (Nat.pow_lt_pow_right (by decide) (by decide))
  unfold boundZ
  rw [h3]
  exact Nat.le_trans (Int.natAbs_add_le _ _) (Nat.add_le_add h1 h2)
end L2
namespace L2
open PySem PySem.Spec PyProof.Rows
section
variable {X:Cx}
end
section
variable {X:Cx} {M:Md} {e:Expr} {ma:ME} {pos:Pos}
end
section
variable {X:Cx} {M:Md} {i:Nat} {st:Stmt} {rest:List Stmt} {m1 m2:MFl} {me:MFe} {pos pos':Pos} {e:Expr} {ma:ME}
def fFor (j:Nat) (mi:MA) (mb:MFl):MFl:=fun n ds ρ => mi ρ fun xs ρ1 => ∃ I:Nat → List D → DSt → Prop,I 0 ds ρ1 ∧ (∀ k d ds ρ,xs[k]? = some d → I k ds ρ → mb (I (k + 1)) ds (ρ.set j (some d))) ∧ ∀ ds ρ,I xs.length ds ρ → n ds ρ
theorem fl_for {j:Nat} {y:Str} {iter:Expr} {body:List Stmt} {mi:MA} (hp:PassesOwn (model X.prog X.w) X.A X.env X.xe) (hc:X.calm = true) (hN:X.N.Nodup) (hj:X.N[j]? = some y) (hy:Loc X.env.scope y)
    (hi:QI X M.ow (.Name y pos') iter mi) (hb:QFls X M i body m1) (hij:i ≠ j:=by decide) (ho:M.ow[i]? ≠ some true:=by decide) (oj:M.ow[j]? ≠ some true:=by decide) (uj:M.mu[j]? ≠ some true:=by decide)
    (hs:∀ x,foldedSetIterable iter X.env x = pure x:=by intro _; rfl) (hf:X.fn y = true ∨ X.env.scope.names.lookup y = some .local:=by first | exact .inl rfl | exact .inr rfl | assumption) :
    QFl X M i (.For (.Name y pos') iter body [] pos) (fFor j mi m1):=by
  obtain ⟨ti,pi,si⟩:=hi; obtain ⟨tb,pb,sb⟩:=hb
  refine ⟨_,ps_for hp hc pi (pg_name hN hj hy hf) pb hs,fun C G ρ σ H p ds n D hm hn f h k => ?_⟩
  obtain ⟨xs,⟨O,ro,fo⟩,rs⟩:=f.ex
  refine si (C.pin p (.lst xs)) G ρ σ H [] _ _ ⟨O,ro.frame fo⟩ h fun es ρ0 G0 H0 J hq z0 kp r0 jo => ?_
  obtain ⟨O0,r0⟩:=r0
  obtain ⟨r0',f0⟩:=ro.unframe fo r0
  have fl0:Fl C M.ow i G0 ρ0 σ H0 p ds:=⟨⟨xs,⟨O0,r0',f0⟩,Reps.mono z0 _ _ rs⟩,kp_no kp ho f.no,f.at'⟩
  obtain ⟨I,i0,turn,fin⟩:=hq
  refine ⟨fun a b σ' H' => b = es.length - a ∧ a ≤ es.length ∧ ∃ G' ρ' ds',Same G0 G' ∧ Fl C M.ow i G' ρ' σ' H' p ds' ∧ I a ds' ρ',⟨_,rfl,Nat.zero_le _,G0,ρ0,ds,Same.refl _,fl0,i0⟩,?_⟩
  rintro a b σ' H' ⟨rfl,ha,G',ρ',ds',z,fl,w⟩
  obtain ⟨xs',⟨O',ro',fo'⟩,rs'⟩:=fl.ex
  obtain ⟨stp,go⟩:=jo (C.pin p (.lst xs')) M.ow G' ρ' σ' H' [] a z ⟨O',ro'.frame fo'⟩
  by_cases hlt:a < es.length
  · obtain ⟨g1,g2⟩:=go es[a] (List.getElem?_eq_getElem hlt)
    refine .inr ⟨g1,fun σ2 H2 => ∃ G2 ρ2 ds2,Same G0 G2 ∧ Fl C M.ow i G2 ρ2 σ2 H2 p ds2 ∧ I (a + 1) ds2 ρ2,fun σ2 H2 h => ⟨es.length - (a + 1),by exact zo4 hlt,rfl,hlt,h⟩,fun x H1 hy => ?_⟩
    obtain ⟨G1,z1,⟨O1,r1⟩,p1⟩:=g2 x H1 hy
    obtain ⟨r2,f2⟩:=ro'.unframe fo' r1
    exact sb C G1 (ρ'.set j (some es[a])) (σ'.set j (some x)) H1 p ds' _ _ hm hn ⟨⟨xs',⟨O1,r2.setS oj (hm.no uj) p1,f2⟩,Reps.mono z1 _ _ rs'⟩,by rw [List.getElem?_set_ne (Ne.symm hij)]; exact fl.no,by rw [List.getElem?_set_ne (Ne.symm hij)]; exact fl.at'⟩ (turn a es[a] ds' ρ' (List.getElem?_eq_getElem hlt) w) fun ds3 ρ3 σ3 G3 H3 h3 z3 f3 => ⟨G3,ρ3,ds3,z.trans (z1.trans z3),f3,h3⟩
  · have ea:a = es.length:=by exact zo11 ha hlt
    subst ea
    exact .inl ⟨stp (Nat.le_refl _),k ds' ρ' σ' G' H' (fin ds' ρ' w) (z0.trans z) fl⟩
def fSetO (j:Nat) (ma:ME):MFl:=fun n ds ρ => ma ρ fun d ρ' => n ds (ρ'.set j (some d))
theorem fl_setO {j:Nat} {y:Str} (hN:X.N.Nodup) (hj:X.N[j]? = some y) (hy:Loc X.env.scope y) (he:QF X M.ow e ma) (hij:i ≠ j:=by decide) (ho:M.ow[i]? ≠ some true:=by decide) (oj:M.ow[j]? = some true:=by decide) (uj:M.mu[j]? ≠ some true:=by decide)
    (hs:swapsWith e (some (.Name y pos')) pos.line X.env = pure false:=by rfl) (hf:X.fn y = true ∨ X.env.scope.names.lookup y = some .local:=by first | exact .inl rfl | exact .inr rfl | assumption) :
    QFl X M i (.Assign [.Name y pos'] e pos) (fSetO j ma):=by
  obtain ⟨t,p,s⟩:=he
  refine ⟨_,ps_set hN hj hy p hs hf,fun C G ρ σ H p ds n D hm hn f h k => ?_⟩
  obtain ⟨xs,⟨O,ro,fo⟩,rs⟩:=f.ex
  refine s (C.pin p (.lst xs)) G ρ σ H [] _ _ ⟨O,ro.frame fo⟩ h fun d ρ' v G' H' hq z kp r' => ?_
  obtain ⟨O1,r1⟩:=r'
  obtain ⟨O2,r2⟩:=r1.setO oj (hm.no uj) (by show C.np ≤ _; rw [hn]; exact Nat.zero_le _)
  obtain ⟨r3,f3⟩:=ro.unframe fo r2
  exact k ds _ _ G' H' hq z ⟨⟨xs,⟨O2,r3,f3⟩,Reps.mono z _ _ rs⟩,by rw [List.getElem?_set_ne (Ne.symm hij)]; exact kp_no kp ho f.no,by rw [List.getElem?_set_ne (Ne.symm hij)]; exact f.at'⟩
end
section
variable {X:Cx} {M:Md} {elt tg iter:Expr} {ifs:List Expr} {pos:Pos} {mi:MA} {mg:MG} {mt:MT} {me:ME} {scope:Scope} {cl:List (Str × Addr)} {rest:List Stmt} {mf:MFe}
end
section
variable {X:Cx} {ow:List Bool} {e:Expr} {ma:ME} {pos p2:Pos} {lo hi:Option Expr} {ml mh:MO}
end
end L2
namespace L2
open PySem
end L2
namespace L2
open PySem PySem.Spec PyProof.Rows
section
variable {X:Cx} {pins p:List (Addr × Obj)} {σ:St} {H:Hp} {s:Shared} {E:Value → Shared → Prop} {v:Value} {e:Addr} {cls:Value} {dx T:Option Addr}
variable {x:Str} {C D0:Addr} {bm bmD:List Value} {ini iniD:Option Value} {b0:Stmt} {suite:List Stmt} {np npos:Pos} {ts:TS} {D:Ends} {t:Addr}
theorem SP.unhand {D:Ends} {f:Flow} {s':Shared} (ok:X.Ok) (h:SP (X.hand v) pins D f s'):SP X pins D f s':=by
  cases f with
  | next => obtain ⟨σ',H',J,q⟩:=h; exact ⟨σ',H',J.unhand ok,q⟩
  | brk => obtain ⟨σ',H',J,q⟩:=h; exact ⟨σ',H',J.unhand ok,q⟩
  | cont => obtain ⟨σ',H',J,q⟩:=h; exact ⟨σ',H',J.unhand ok,q⟩
  | ret u => obtain ⟨v,σ',H',J,r,q⟩:=h; exact ⟨v,σ',H',J.unhand ok,r,q⟩
theorem handle_no (hg:Gl X x) (hm:X.mg x = some (.ref D0)) (hD:xcIn X.K D0 bmD iniD = true) (hC:xcIn X.K C bm ini = true)
    (hsub:(Value.ref C :: bm).contains (.ref D0) = true) (hs:PSs (X.hand (.ref e)) (b0 :: suite) ts) (I:Inv X pins σ H s) (F:FlyO s.heap e (.ref C) dx (some t)) (oe:Out X pins H e) (ot:Out X pins H t) (ht:X.s₀.heap.objs.size ≤ t)
    (q:ts D σ H) (hdb:(x == ("__debug__":Str)) = false:=by decide) :
    wpAny (model X.prog X.w) X.A (handleBy (.ref e) X.env [.ExceptHandler (some (.Name x np)) none (b0 :: suite) npos]) (SP X pins D) X.xe s:=by
  refine wpAny_handleBy_cons (codeAny_handlers_test (ld_glob (X:=X.hand (.ref e)) I.hand hg hm ?_ hdb)) (by intro q; cases q)
  obtain ⟨⟨vs,sl,he,h1⟩,tb⟩:=id F
  refine excMatches_own (xobj_of I.kIn hC) (xobj_of I.kIn hD) he rfl ?_
  rw [hsub]
  refine codeAny_handlers_suite (flight_fly F fun h' F' k => ?_)
  obtain ⟨hte,o',ts',ht',hd',_⟩:=tb t rfl
  have I2:Inv X pins σ H { s with heap:=h' }:=I.turned (t':=s.toks) k ot.unt (I.fieldsNot ht' hd').1 (.inr ht) (I.fieldsNot ht' hd').2 ot.pin
  refine wpAny_mono (hs pins _ _ _ _ I2.hand q) (fun f s4 h4 => ?_) fun _ _ z => False.elim z
  exact h4.unhand I.ok
def tTry0 (okc:Value → Prop) (tb:XS → TS) (ts:Addr → TS):TS:=fun D σ H => tb (fun σ' cls dx H' => okc cls ∧ ∀ ea,H' ea = none → ts ea D σ' H') D σ H
theorem ps_try0 {body:List Stmt} {pos:Pos} {tb:XS → TS} {ts:Addr → TS} (hst:X.stack = X.env :: X.outer) (hf:X.env.frame = some X.env.locals) (hg:Gl X x) (hm:X.mg x = some (.ref D0)) (hD:xcIn X.K D0 bmD iniD = true)
    (hb:∀ E p xk,PassesOwn (model X.prog X.w) X.A X.env E → Acc (X.tr E p) xk → PSs (X.tr E p) body (tb xk)) (hs:∀ ea,PSs (X.hand (.ref ea)) (b0 :: suite) (ts ea)) (hdb:(x == ("__debug__":Str)) = false:=by decide) :
    PS X (.Try body [.ExceptHandler (some (.Name x np)) none (b0 :: suite) npos] [] [] pos) (tTry0 (Caught X.K D0) tb ts):=by
  refine ⟨fun pins s σ H D I h => ?_⟩
  refine wpAny_Try_except ?_
  have ac:Acc (X.tr (fun e s₁ => wpAny (model X.prog X.w) X.A (noteFrame e X.env) (fun _ s₂ => wpAny (model X.prog X.w) X.A (setFlight e none) (fun _ s₃ =>
      wpAny (model X.prog X.w) X.A (handleBy e X.env [.ExceptHandler (some (.Name x np)) none (b0 :: suite) npos]) (SP X pins D) X.xe s₃) X.xe s₂) X.xe s₁) pins)
      (fun σ' cls dx H' => Caught X.K D0 cls ∧ ∀ ea,H' ea = none → ts ea D σ' H'):=by
    refine ⟨fun pins' σ' H' s' ea cls dx J fl ⟨⟨C,bm,ini,hc,hC,hsub⟩,hk⟩ => ?_⟩
    subst hc
    obtain ⟨T,flo,oe,ot⟩:=fl.go
    have J:=J.untr.drop
    have oe:Out X pins H' ea:=⟨oe.new,oe.unt,fun q hq => oe.pin q (List.mem_append_left _ hq)⟩
    have ot:∀ t,T = some t → Out X pins H' t:=fun t z => ⟨(ot t z).new,(ot t z).unt,fun q hq => (ot t z).pin q (List.mem_append_left _ hq)⟩
    show wpAny _ _ (noteFrame (.ref ea) X.env) _ _ s'
    refine note_fly (base:=X.base) (outer:=X.outer) (L:=X.env.locals) (T:=T) (by rw [← hst]; exact J.ok.frames) (by rw [← hst]; exact J.stack) hf flo fun h' hs' t' ht fl' kb there => ?_
    obtain ⟨J2,fl2⟩:=J.noted hst flo oe ot hs' ht fl' kb there
    have hsz:X.s₀.heap.objs.size ≤ t':=Nat.le_trans J.sz ht
    exact handle_no hg hm hD hC hsub (hs _) J2 fl' oe ⟨Heap.get?_none_of_le hsz,J.hok.fresh ht,J.pinNo (Heap.get?_none_of_le ht)⟩ hsz (hk ea oe.unt) hdb
  refine wpAny_mono (hb _ pins _ PassesOwn.looking ac [] s σ H D (Inv.tr (by simpa using I)) h) (fun f s' q => ?_) fun e s' q => q
  have q:=q.untr
  rw [List.append_nil] at q
  cases f with
  | next => exact wpAny_execs_nil q
  | ret v => exact q
  | brk => exact q
  | cont => exact q
end
def mTry0 (ok:Value → Prop) (mb:MSX) (ms:Value → MS):MSX:=fun _ n ρ => mb (fun c ns es ρ' => ok (.ref c) ∧ ∀ v,ms v n ρ') n ρ
theorem qx_try0 {X:Cx} {M:Md} {body:List Stmt} {b0:Stmt} {suite:List Stmt} {x:Str} {D0:Addr} {bmD:List Value} {iniD:Option Value} {np npos pos:Pos} {mb:MSX} {ms:Value → MS} (hg:Gl X x) (hm:X.mg x = some (.ref D0)) (hD:xcIn X.K D0 bmD iniD = true)
    (hb:QXs X M body mb) (hs:∀ v,QSs (X.hand v) M (b0 :: suite) (ms v)) (hst:X.stack = X.env :: X.outer:=by rfl) (hf:X.env.frame = some X.env.locals:=by rfl) (hdb:(x == ("__debug__":Str)) = false:=by decide) :
    QX X M (.Try body [.ExceptHandler (some (.Name x np)) none (b0 :: suite) npos] [] [] pos) (mTry0 (Caught X.K D0) mb ms):=by
  obtain ⟨tb,pb,sb⟩:=hb
  have hs':∀ ea:Addr,∃ t,PSs (X.hand (.ref ea)) (b0 :: suite) t ∧ SS M t (ms (.ref ea)):=fun ea => (hs (.ref ea)).ex
  let ts:Addr → TS:=fun ea => (hs' ea).choose
  have hts:∀ ea,PSs (X.hand (.ref ea)) (b0 :: suite) (ts ea) ∧ SS M (ts ea) (ms (.ref ea)):=fun ea => (hs' ea).choose_spec
  refine ⟨fun _ => tTry0 (Caught X.K D0) tb ts,fun E q xk g => ps_try0 (X:=X.tr E q) hst hf hg hm hD (fun E' p' xk' h1 h2 => ?_) (fun ea => ?_) hdb,fun C G ρ σ H n D xx xk hm hn r h k kx => ?_⟩
  · have e:(X.tr E q).tr E' p' = X.tr E' (q ++ p'):=by
      show ({ X with xe:=E',pn:=(X.pn ++ q) ++ p' }:Cx) = { X with xe:=E',pn:=X.pn ++ (q ++ p') }
      rw [List.append_assoc]
    rw [e] at h2 ⊢
    exact pb E' (q ++ p') xk' ⟨h1,h2⟩
  · refine ⟨fun pins s σ H D I hw => ?_⟩
    have I':Inv (X.hand (.ref ea)) (q ++ pins) σ H s:=⟨{ I.ok with },I.os,I.bare,I.base,I.loc,I.cell,I.free,I.freeC,fun z hz => I.pin z (by simpa using hz),I.hok,I.len⟩
    refine wpAny_mono ((hts ea).1 (q ++ pins) s σ H D I' hw) (fun f s' z => ?_) fun _ _ z => False.elim z
    have back:∀ {σ' H'},Inv (X.hand (.ref ea)) (q ++ pins) σ' H' s' → Inv ((X.tr E q).hand (.ref ea)) pins σ' H' s':=fun {σ' H'} J => ⟨{ J.ok with },J.os,J.bare,J.base,J.loc,J.cell,J.free,J.freeC,fun z hz => J.pin z (by simpa using hz),J.hok,J.len⟩
    cases f with
    | next => obtain ⟨σ',H',J,q⟩:=z; exact ⟨σ',H',back J,q⟩
    | brk => obtain ⟨σ',H',J,q⟩:=z; exact ⟨σ',H',back J,q⟩
    | cont => obtain ⟨σ',H',J,q⟩:=z; exact ⟨σ',H',back J,q⟩
    | ret u => obtain ⟨v,σ',H',J,r,q⟩:=z; exact ⟨v,σ',H',back J,r,q⟩
  · refine sb C G ρ σ H n D _ _ hm hn r h k ⟨fun c ns es ρ' σ' dx G' H' hq z r' hx => ⟨hq.1,fun ea hea => ?_⟩⟩
    exact (hts ea).2 C G' ρ' σ' H' n D hm hn r' (hq.2 (.ref ea)) (k.mono z)
section
variable {X:Cx} {ow:List Bool} {a b:Expr} {mex:MEX} {mb:ME} {pos:Pos}
theorem qxe_cmp {op:CmpOp} {r:R2} {f:D → D → (D → Prop) → Prop} (ho:∀ E p,OpR (X.tr E p) (compareOp op) r) (hd:DOp r f) (ha:QXE X ow a mex) (hb:QE X.nox ow b mb) (hm:behindInMarks op b = false):QXE X ow (.Compare a [op] [b] pos) (fun xx => mOp f (mex xx) mb):=by
  obtain ⟨ta,pa,sa⟩:=ha; obtain ⟨tb,pb,sb⟩:=hb
  refine ⟨fun xk => tOp r (ta xk) tb,fun E q xk g => pe_cmpR (ho E q) (pa E q xk g) (PE.any pb) hm,fun C G ρ σ H pd q Q xx xk hr h kx k => ?_⟩
  refine sa C G ρ σ H pd _ _ xx xk hr h kx fun dx ρ1 x G1 H1 h1 s1 k1 r1 p1 => ?_
  refine sb C G1 ρ1 σ H1 pd _ _ r1 h1 fun dy ρ2 y G2 H2 h2 s2 k2 r2 p2 => ?_
  exact hd G2 H2 x y dx dy _ _ r2.gh (Rep.mono s2 _ _ p1) p2 h2 fun d v hq p => k d ρ2 v G2 H2 hq (s1.trans s2) (k1.trans k2) r2 p
end
end L2
namespace L2
open PySem
def frB:D → Bool
  | .tup [.int t,.int b] => decide (1 ≤ b) && decide (gcdP t b = 1)
  | _ => false
def prB:D → Bool
  | .tup [.int t,.int b] => (decide (1 ≤ b) && decide (gcdP t b = 1)) && decide (0 ≤ t)
  | _ => false
def sdFrD:SpD:=fun ds q => ∃ d,ds = [d] ∧ pln d = true ∧ q (.bl (frB d)) []
def sdPrD:SpD:=fun ds q => ∃ d,ds = [d] ∧ pln d = true ∧ q (.bl (prB d)) []
def fPr (_:Nat) (d:D):Bool:=prB d
def pricesErr (n:Nat):D → Option D
  | .lst ds => (match firstBad fPr (ds.take n) 0 with
    | some i => some (.int i)
    | none => if ds.length = n then none else some (.int (min ds.length n:Nat)))
  | _ => some .non
def sdPricesX (cT cP:Addr):SpX:=fun ds q qx => ∃ t x,ds = [t,x] ∧ ((∃ p n,pln t = true ∧ treeErr t = some (p,n) ∧ qx cT nTree [.str p,n] []) ∨
  ∃ ps rs,t = dPair ps rs ∧ Tree ps rs ∧ pln x = true ∧ (∀ ds,x = .lst ds → ds.length ≤ 10000) ∧ ((∃ n,pricesErr ps.length x = some n ∧ qx cP nNum [n] []) ∨ (pricesErr ps.length x = none ∧ q .non [])))
end L2
namespace L2
open PySem PySem.Spec PyProof.Rows
theorem FnOk.calm {P:Program} {w:World} {K:PySem.W.Frag} {mg:Str → Option Value} {base:Heap} {k:Nat} {f:Addr} {fd:FuncData} {ps:List Str} {mu:List Bool} {fr:Bool} {sd:SpD} {sdx:SpX} (F:FnOk P w K mg base (CX1 P w) k f fd ps (spOfX mu fr sdx))
    (h:∀ ds q,sd ds q → sdx ds q fun _ _ _ _ => False):FnOk P w K mg base CX0 k f fd ps (spOf mu fr sd):=by
  have key:∀ vs H Q E,spOf mu fr sd vs H Q E → spOfX mu fr sdx vs H Q fun _ _ _ => False:=by
    rintro vs H Q E ⟨C,G,ds,q,h1,h2,h3,h4,h5,h6⟩
    exact ⟨C,G,ds,q,fun _ _ _ _ => False,h1,h2,h3,h ds q h4,h5,h6,fun _ _ _ _ _ _ _ _ z => z.elim⟩
  refine ⟨fun vs H Q E q => F.len vs H Q _ (key vs H Q E q),fun A outer s H args us vs Q E hr he hb hv hs => ?_⟩
  refine codeAny_mono (F.run A outer s H args us vs Q _ hr he hb hv (key vs H Q E hs)) fun r s' z => ?_
  cases r with
  | ok fl => cases fl <;> exact z
  | error e =>
    obtain ⟨ea,H',cls,dx,T,_,_,_,_,_,_,_,_,z⟩:=z
    exact z.elim
section
variable {X:Cx} {pos p1 q1:Pos} {n1:Nat} {k1:Int} {x:Str} {i:Nat} {ow:List Bool}
def tDict1 (k1:Int) (i:Nat):TE:=fun σ H Q => ∃ v1,σ[i]? = some (some v1) ∧ ∀ p,H p = none → Q (.ref p) (upd H p (.dK [(Sum.inl k1,v1)]))
theorem pe_dict1 (h1:PE X (.Name x q1) (tVar i)):PE X (.Dict [some (.Constant (.int k1) n1 p1)] [.Name x q1] pos) (tDict1 k1 i):=by
  refine ⟨fun pins s σ H Q I h => ?_⟩
  obtain ⟨v1,e1,hq⟩:=h
  have hn:=I.hok.fresh (Nat.le_refl s.heap.objs.size)
  have I1:=I.laid (a:=s.heap.objs.size) (o:=.dK []) (h':=s.heap.push { cls:=.type "dict",data:=.dict #[] }) (t':=s.toks) (fun _ _ q => Heap.get?_push_of_some _ q) (Nat.le_refl _) (dk_empty s.heap I.big)
  refine wpAny_Dict_walk (knd:=mixKind X.prog X.w) rfl rfl (by simp) (by simp) ?_
  refine pairTrees_cons_walk (thn (pe_int.go pins _ σ _ (fun v H' => v = .int k1 ∧ H' = upd H s.heap.objs.size (.dK [])) I1 ⟨rfl,rfl⟩) fun u1 s1 ⟨w1,H1,J1,r1,a1,b1⟩ => ?_)
  subst a1 b1
  refine thn (h1.go pins s1 σ _ (fun v H' => v = v1 ∧ H' = upd H s.heap.objs.size (.dK [])) J1 ⟨v1,e1,rfl,rfl⟩) fun u2 s2 ⟨w2,H2,J2,r2,a2,b2⟩ => ?_
  subst a2 b2
  refine pairTrees_nil_walk ?_
  obtain ⟨t1,rfl⟩:=(show ∃ t,u1 = Value.int k1 t from r1)
  obtain ⟨_,hd,vs,rv,dd⟩:=(show ObjOk X.prog X.w _ s2.heap s.heap.objs.size (.dK []) from J2.hok _ _ upd_same)
  cases rv
  refine ⟨[(Sum.inl k1,u2)],⟨mixKind_int _ _ _ _,rfl,trivial⟩,dd,fun h' dd' hs => ?_⟩
  have em:merged [] [((Sum.inl k1:Key),u2)] = [(Sum.inl k1,u2)]:=by simp [merged,stored]
  rw [em] at dd'
  have he:∃ q,h'.get? s.heap.objs.size = some q:=let ⟨q,_,_,hq,_⟩:=dd'; ⟨q,hq⟩
  have J5:=J2.write (x:=s.heap.objs.size) (e:=s.heap.objs.size) (o:=.dK [(Sum.inl k1,w2)]) (t':=s2.toks + [((Value.int k1 t1:Value),u2)].length) (by rw [upd_same]; trivial) (.inl rfl)
    (fun b u hb z => (hs.2 b hb).trans z) he ⟨by simp [sizeLine],hd,_,.cons ⟨rfl,r2⟩ .nil,dd'⟩
  rw [upd_upd] at J5
  exact ⟨.ref s.heap.objs.size,_,J5,rfl,hq _ hn⟩
def mDict1 (i:Nat):ME:=fun ρ q => (∃ a,ρ[i]? = some (some a)) ∧ q .dct ρ
theorem qe_dict1 (hi:X.N[i]? = some x) (oi:ow[i]? ≠ some true:=by decide)
    (vi:Vis X.env.scope x:=by first | exact Or.inl rfl | exact Or.inr (Or.inl rfl) | exact Or.inr (Or.inr rfl))
    (di:(x == ("__debug__":Str)) = false:=by decide) (ci:(x == ("__classdict__":Str)) = false:=by decide) :
    QE X ow (.Dict [some (.Constant (.int k1) n1 p1)] [.Name x q1] pos) (mDict1 i):=by
  refine ⟨_,pe_dict1 (pe_var hi vi di ci),fun C G ρ σ H pd q Q r hm k => ?_⟩
  obtain ⟨⟨a,ha⟩,hq⟩:=hm
  obtain ⟨O,ro⟩:=r
  obtain ⟨v1,g1,_⟩:=ro.sl i a ha
  refine ⟨v1,g1,fun p hp => ?_⟩
  obtain ⟨r2,s2⟩:=ro.new hp (.dK [(Sum.inl k1,v1)])
  exact k _ ρ _ _ _ hq s2 Kp.refl ⟨O,r2⟩ (by rw [Rep]; exact ⟨p,_,rfl,upd_same⟩)
end
section
variable {X:Cx} {ow:List Bool} {es:List Expr} {mr:MA} {pos:Pos}
theorem qn_lst (h:QA X ow es mr) (hl:es.length ≤ 1000:=by decide):QN X ow (.List es pos) mr:=by
  obtain ⟨t,p,s⟩:=h
  exact ⟨_,pe_lst p,fun C G ρ σ H pd q Q r hm k => s C G ρ σ H pd _ _ r hm fun ds ρ' vs G' H' hq z kp r' p hn => ⟨le_line (by exact zo21 hl hn),fun a ha => k _ ρ' _ _ _ _ hq z kp r' ha p⟩⟩
end
end L2
namespace L2
open PySem
theorem frB_of {d:D} (h:frB d = true):∃ r,d = dQ r:=by
  unfold frB at h; split at h
  · rename_i t b
    rw [Bool.and_eq_true,decide_eq_true_iff,decide_eq_true_iff] at h
    obtain ⟨h1,h2⟩:=h
    rw [gcdP_eq (by exact zo232 h1)] at h2
    have hb:b = ((b.toNat:Nat):Int):=by exact zo165 h1
    have hc:Nat.Coprime t.natAbs b.toNat:=by
      unfold Nat.Coprime
      have e:b.gcd t = Nat.gcd b.natAbs t.natAbs:=rfl
      rw [e] at h2
      have:b.natAbs = b.toNat:=by (first|lia|omega)
      rw [this,Nat.gcd_comm] at h2; exact zo231 h2
    refine ⟨⟨t,b.toNat,by exact zo261 h1 hb,hc⟩,?_⟩
    unfold dQ
    show D.tup [.int t,.int b] = D.tup [.int t,.int (b.toNat:Int)]
    rw [← hb]
  · cases h
theorem prB_fr {d:D} (h:prB d = true):frB d = true:=by
  unfold prB at h; unfold frB; split at h
  · rw [Bool.and_eq_true] at h; exact h.1
  · cases h
theorem prB_of {d:D} (h:prB d = true):∃ r,d = dQ r ∧ 0 ≤ r:=by
  obtain ⟨r,rfl⟩:=frB_of (prB_fr h)
  refine ⟨r,rfl,?_⟩
  have h2:((decide (1 ≤ (r.den:Int)) && decide (gcdP r.num r.den = 1)) && decide (0 ≤ r.num)) = true:=h
  rw [Bool.and_eq_true,decide_eq_true_iff] at h2
  exact Rat.num_nonneg.mp h2.2
theorem prs_none {n:Nat} {p:D} (h:pricesErr n p = none):∃ prs,p = dQs prs ∧ prs.length = n ∧ ∀ r ∈ prs,0 ≤ r:=by
  unfold pricesErr at h; split at h
  · rename_i ds
    cases e:firstBad fPr (ds.take n) 0 with
    | some i => rw [e] at h; cases h
    | none =>
      rw [e] at h
      by_cases hl:ds.length = n
      · rw [← hl,List.take_length] at e
        have key:∀ (ds:List D),(∀ d ∈ ds,prB d = true) → ∃ prs:List Rat,ds = prs.map dQ ∧ ∀ r ∈ prs,0 ≤ r:=by
          intro ds
          induction ds with
          | nil => intro _; exact ⟨[],rfl,fun r h => by cases h⟩
          | cons x xs ih =>
            intro hx
            obtain ⟨r,rfl,hr⟩:=prB_of (hx x (.head _))
            obtain ⟨prs,rfl,hp⟩:=ih fun d hd => hx d (.tail _ hd)
            exact ⟨r :: prs,rfl,fun y hy => by rcases List.mem_cons.mp hy with rfl | hy; exact hr; exact hp y hy⟩
        obtain ⟨prs,rfl,hp⟩:=key ds fun d hd => by
          obtain ⟨i,hi⟩:=List.getElem?_of_mem hd
          exact firstBad_all e i d hi
        exact ⟨prs,rfl,by rw [List.length_map] at hl; exact hl,hp⟩
      · simp only [if_neg hl] at h; cases h
  · cases h
def ratD:D → Rat
  | .tup [.int t,.int b] => mkRat t b.toNat
  | _ => 0
theorem ratD_dQ (r:Rat):ratD (dQ r) = r:=by
  show mkRat r.num ((r.den:Int).toNat) = r
  rw [Int.toNat_natCast,Rat.mkRat_self]
def ratsD:D → List Rat
  | .lst ds => ds.map ratD
  | _ => []
theorem ratsD_dQs (prs:List Rat):ratsD (dQs prs) = prs:=by
  show (prs.map dQ).map ratD = prs
  rw [List.map_map]; exact (List.map_congr_left fun r _ => ratD_dQ r).trans (List.map_id' prs)
def intsD:D → List Int
  | .lst ds => ds.map intD
  | _ => []
theorem intsD_dInts (ks:List Int):intsD (dInts ks) = ks:=by
  show (ks.map D.int).map intD = ks
  rw [List.map_map]; exact (List.map_congr_left fun r _ => (rfl:(intD ∘ D.int) r = r)).trans (List.map_id' ks)
def shareB (ps rs:List Int) (as:List Ask):D → Bool
  | .tup [k,p,o] => (keepErr as.length k).isNone && (isNon (firstD (loadsZ ps as (intsD k)) rs) && ((pricesErr ps.length p).isNone && (frB o && (!decide (ratD o < 1) && !decide (ratD o * ((worthZ as (intsD k):Int):Rat) < boundQ ps rs as (ratsD p))))))
  | _ => false
structure ShSz (x:D):Prop where
  k:∀ ds p o,x = .tup [.lst ds,p,o] → ds.length ≤ 10000
  p:∀ k ds o,x = .tup [k,.lst ds,o] → ds.length ≤ 10000
  b:∀ k prs o,x = .tup [k,dQs prs,o] → ∀ r ∈ prs,Bt r 64
  o:∀ k p r,x = .tup [k,p,dQ r] → Bt r 100
def sdShare:SpD:=fun ds q => ∃ ps rs as x,ds = [dPair ps rs,dAsks as,x] ∧ Tree ps rs ∧ AsksOk ps as ∧ pln x = true ∧
  (((∀ k p o,x ≠ .tup [k,p,o]) ∧ q (.bl false) []) ∨
   ∃ k p o,x = .tup [k,p,o] ∧ (∀ ds,k = .lst ds → ds.length ≤ 10000) ∧ (∀ ds,p = .lst ds → ds.length ≤ 10000) ∧
    ((∃ n,keepErr as.length k = some n ∧ q (.bl false) []) ∨
     ∃ ks,k = dInts ks ∧ keepErr as.length k = none ∧ KeepOk as.length ks ∧
      ((isNon (firstD (loadsZ ps as ks) rs) = false ∧ q (.bl false) []) ∨
       (isNon (firstD (loadsZ ps as ks) rs) = true ∧
        (((pricesErr ps.length p).isNone = false ∧ q (.bl false) []) ∨
         ((pricesErr ps.length p).isNone = true ∧
          ((frB o = false ∧ q (.bl false) []) ∨
           ∃ r prs,o = dQ r ∧ Bt r 100 ∧ p = dQs prs ∧ PricesOk ps prs ∧ ((r < 1 ∧ q (.bl false) []) ∨ (¬ r < 1 ∧ q (.bl (!decide (r * ((worthZ as ks:Int):Rat) < boundQ ps rs as prs))) [])))))))))
def sdShareN:SpD:=fun ds q => ∃ ps rs as x,ds = [dPair ps rs,dAsks as,x] ∧ Tree ps rs ∧ AsksOk ps as ∧ pln x = true ∧ ShSz x ∧ q (.bl (shareB ps rs as x)) []
theorem shareB_not {ps rs:List Int} {as:List Ask} {x:D} (h:∀ k p o,x ≠ .tup [k,p,o]):shareB ps rs as x = false:=by
  unfold shareB; split
  · rename_i k p o; exact absurd rfl (h k p o)
  · rfl
theorem shareB_tup (ps rs:List Int) (as:List Ask) (k p o:D):shareB ps rs as (.tup [k,p,o]) = ((keepErr as.length k).isNone && (isNon (firstD (loadsZ ps as (intsD k)) rs) && ((pricesErr ps.length p).isNone && (frB o && (!decide (ratD o < 1) && !decide (ratD o * ((worthZ as (intsD k):Int):Rat) < boundQ ps rs as (ratsD p))))))):=rfl
theorem shareN_of {ds:List D} {q:D → DSt → Prop} (h:sdShareN ds q):sdShare ds q:=by
  obtain ⟨ps,rs,as,x,rfl,hT,ha,hx,hs,q0⟩:=h
  refine ⟨ps,rs,as,x,rfl,hT,ha,hx,?_⟩
  by_cases h3:∃ k p o,x = .tup [k,p,o]
  · obtain ⟨k,p,o,rfl⟩:=h3
    refine .inr ⟨k,p,o,rfl,fun ds e => hs.k ds p o (by rw [e]),fun ds e => hs.p k ds o (by rw [e]),?_⟩
    rw [shareB_tup] at q0
    cases ek:keepErr as.length k with
    | some n => rw [ek] at q0; exact .inl ⟨n,rfl,q0⟩
    | none =>
      rw [ek] at q0
      obtain ⟨ks,rfl,hk⟩:=keepErr_none ek
      rw [intsD_dInts] at q0
      refine .inr ⟨ks,rfl,rfl,hk,?_⟩
      cases e1:isNon (firstD (loadsZ ps as ks) rs) with
      | false => rw [e1] at q0; exact .inl ⟨rfl,q0⟩
      | true =>
        rw [e1] at q0
        refine .inr ⟨rfl,?_⟩
        cases e2:pricesErr ps.length p with
        | some n => rw [e2] at q0; exact .inl ⟨rfl,q0⟩
        | none =>
          rw [e2] at q0
          refine .inr ⟨rfl,?_⟩
          obtain ⟨prs,rfl,hpl,hp0⟩:=prs_none e2
          rw [ratsD_dQs] at q0
          cases e3:frB o with
          | false => rw [e3] at q0; exact .inl ⟨rfl,q0⟩
          | true =>
            rw [e3] at q0
            obtain ⟨r,rfl⟩:=frB_of e3
            rw [ratD_dQ] at q0
            refine .inr ⟨r,prs,rfl,hs.o _ _ r rfl,rfl,⟨hpl,hp0,hs.b _ prs _ rfl⟩,?_⟩
            by_cases h1:r < 1
            · rw [decide_eq_true h1] at q0; exact .inl ⟨h1,q0⟩
            · rw [decide_eq_false h1] at q0; exact .inr ⟨h1,q0⟩
  · have hn:∀ k p o,x ≠ .tup [k,p,o]:=fun k p o e => h3 ⟨k,p,o,e⟩
    rw [shareB_not hn] at q0
    exact .inl ⟨hn,q0⟩
theorem ShSz.no {x:D} (h:∀ k p o,x ≠ .tup [k,p,o]):ShSz x:=⟨fun _ _ _ e => absurd e (h _ _ _),fun _ _ _ e => absurd e (h _ _ _),fun _ _ _ e => absurd e (h _ _ _),fun _ _ _ e => absurd e (h _ _ _)⟩
theorem ShSz.mk3 {k p o:D} (lk:∀ ds,k = .lst ds → ds.length ≤ 10000) (lp:∀ ds,p = .lst ds → ds.length ≤ 10000) (hb:∀ prs,p = dQs prs → ∀ r ∈ prs,Bt r 64) (ho:∀ r,o = dQ r → Bt r 100):ShSz (.tup [k,p,o]) :=
  ⟨fun ds p o e => by injection e with e; injection e with e1 e; exact lk ds e1,fun k ds o e => by injection e with e; injection e with e1 e; injection e with e1 e; exact lp ds e1,
   fun k prs o e => by injection e with e; injection e with e1 e; injection e with e1 e; exact hb prs e1,fun k p r e => by injection e with e; injection e with e1 e; injection e with e1 e; injection e with e1 e; exact ho r e1⟩
theorem dQ_tup {t b:Int} {r:Rat} (h:D.tup [.int t,.int b] = dQ r):r.num = t ∧ (r.den:Int) = b:=by
  unfold dQ at h; injection h with h; injection h with h1 h; injection h with h2 h; injection h1 with h1; injection h2 with h2; exact ⟨h1.symm,h2.symm⟩
def smallO:D → Bool
  | .tup [.int t,.int b] => decide (t.natAbs ≤ 100) && decide (b.natAbs ≤ 100)
  | _ => true
theorem smallO_bt {o:D} (h:smallO o = true):∀ r,o = dQ r → Bt r 100:=by
  intro r e
  subst e
  have h2:(decide (r.num.natAbs ≤ 100) && decide ((r.den:Int).natAbs ≤ 100)) = true:=h
  rw [Bool.and_eq_true,decide_eq_true_iff,decide_eq_true_iff] at h2
  exact ⟨Nat.lt_of_le_of_lt h2.1 (by decide),by have:=h2.2; rw [Int.natAbs_natCast] at this; exact Nat.lt_of_le_of_lt this (by decide)⟩
def zerosB:D → Prop:=fun p => ∀ prs,p = dQs prs → ∀ r ∈ prs,Bt r 64
theorem zeros_of {ds:List D} (h:∀ d ∈ ds,d = .non ∨ d = D.tup [.int 0,.int 1]):zerosB (.lst ds):=by
  intro prs e r hr
  unfold dQs at e; injection e with e
  have hm:dQ r ∈ ds:=by rw [e]; exact List.mem_map.mpr ⟨r,hr,rfl⟩
  rcases h _ hm with h | h
  · cases h
  · have:=dQ_tup h.symm
    have h1:r.den = 1:=by exact zo236 this
    exact ⟨by rw [this.1]; decide,by rw [h1]; decide⟩
theorem first0 {ps rs:List Int} (hT:Tree ps rs) (as:List Ask):isNon (firstD (loadsZ ps as []) rs) = true:=by
  have e:overZ (loadsZ ps as []) rs = []:=by
    unfold overZ
    rw [List.filter_eq_nil_iff.mpr (fun k hk => ?_)]; rfl
    have h0:(loadsZ ps as []).getD k 0 = 0:=by
      show (List.replicate ps.length (0:Int)).getD k 0 = 0
      rw [List.getD_eq_getElem?_getD,List.getElem?_replicate]; split <;> rfl
    have h1 : 0 ≤ rs.getD k 0:=by
      rw [List.getD_eq_getElem?_getD]
      cases e:rs[k]? with
      | none => exact Int.le_refl 0
      | some x => have:=hT.room k x e; show 0 ≤ x; exact zo242 this
    rw [h0]; simp; rw [← List.getD_eq_getElem?_getD]; exact h1
  unfold firstD; rw [e]; rfl
theorem zeros_dq (N:Nat):D.lst (List.replicate N (D.tup [.int 0,.int 1])) = dQs (List.replicate N (0:Rat)):=by
  unfold dQs; rw [List.map_replicate]; rfl
theorem getD_zero (n k:Nat):(List.replicate n (0:Rat)).getD k 0 = 0:=by
  rw [List.getD_eq_getElem?_getD,List.getElem?_replicate]; split <;> rfl
theorem paidR_zero:∀ (rs:List Int) (n:Nat),(paidRooms rs (List.replicate n 0)).sum = 0
  | [],n => by cases n <;> rfl
  | _ :: _,0 => rfl
  | x :: rs,n + 1 => by
    show ((x:Rat) * 0 :: paidRooms rs (List.replicate n 0)).sum = 0
    rw [List.sum_cons,paidR_zero rs n,Rat.mul_zero,Rat.add_zero]
theorem sum_zero:∀ (w:List Int) (f:Int → Rat),(∀ t,f t = 0) → (w.map f).sum = 0
  | [],_,_ => rfl
  | t :: w,f,h => by rw [List.map_cons,List.sum_cons,sum_zero w f h,h t,Rat.add_zero]
theorem bound_zero {ps rs:List Int} {as:List Ask} (ha:AsksOk ps as) (n:Nat):boundQ ps rs as (List.replicate n 0) = (((as.map (·.worth)).sum:Int):Rat):=by
  unfold boundQ
  rw [paidR_zero,Rat.zero_add]
  have:∀ bs:List Ask,(∀ b ∈ bs,1 ≤ b.worth) → (bs.map fun a => spareQ ps a a.size (List.replicate n 0)).sum = (((bs.map (·.worth)).sum:Int):Rat):=by
    intro bs
    induction bs with
    | nil => intro _; rfl
    | cons b bs ih =>
      intro hb
      rw [List.map_cons,List.map_cons,List.sum_cons,List.sum_cons,Rat.intCast_add,ih fun x hx => hb x (.tail _ hx)]
      have hp:paidQ ps b (List.replicate n 0) = 0:=sum_zero _ _ fun t => getD_zero n _
      have hw:(0:Rat) < (b.worth:Rat):=Rat.intCast_pos.mpr (by have:=hb b (.head _); exact zo232 this)
      have:spareQ ps b b.size (List.replicate n 0) = (b.worth:Rat):=by
        unfold spareQ posQ
        rw [hp,Rat.mul_zero,show (b.worth:Rat) - 0 = (b.worth:Rat) by grind,if_pos hw]
      rw [this]
  exact this as fun b hb => (ha.ok b hb).w0
end L2
namespace L2
open PySem PySem.Spec PyProof.Rows
section
variable {X:Cx}
end
section
variable {X:Cx} {M:Md} {e e':Expr} {mr:MA} {pos:Pos}
end
end L2
namespace L2
open PySem
end L2
namespace L2
open PySem PySem.Spec PyProof.Rows
section
variable {X:Cx}
end
end L2
namespace L2
open PySem
end L2
namespace L2
open PySem PySem.Spec PyProof.Rows
section
variable {X:Cx}
variable {ow:List Bool} {e e2:Expr} {ma mb:ME}
end
end L2
namespace L2
open PySem
end L2
namespace L2
open PySem PySem.Spec PyProof.Rows
section
variable {X:Cx}
end
end L2
namespace L2
open PySem
end L2
namespace K29
open PySem L2
def top (i:Nat):Stmt:=PySem.Challenge.pw_treeasks_k29_no_shares.main.body.getD i (.Pass ⟨0,0,0,0⟩)
abbrev s_q23:Stmt:=top 9
abbrev s_q12:Stmt:=top 10
abbrev s_q1:Stmt:=top 11
abbrev s_q8:Stmt:=top 12
abbrev s_q3:Stmt:=top 16
abbrev s_q7:Stmt:=top 17
abbrev s_q20:Stmt:=top 18
abbrev s_q17:Stmt:=top 19
abbrev s_q32:Stmt:=top 24
abbrev s_q4:Stmt:=top 25
abbrev s_q19:Stmt:=top 27
abbrev s_q43:Stmt:=top 28
abbrev s_q44:Stmt:=top 29
abbrev s_q38:Stmt:=top 30
abbrev s_q45:Stmt:=top 31
abbrev s_q5:Stmt:=top 33
abbrev s_q40:Stmt:=top 34
abbrev s_q9:Stmt:=top 35
abbrev s_q39:Stmt:=top 36
abbrev s_q6:Stmt:=top 38
abbrev s_q36:Stmt:=top 39
abbrev s_q13:Stmt:=top 40
abbrev s_q42:Stmt:=top 41
abbrev s_q11:Stmt:=top 42
abbrev s_q26:Stmt:=top 43
abbrev s_q21:Stmt:=top 45
abbrev s_q2:Stmt:=top 46
abbrev s_q25:Stmt:=top 47
abbrev s_q37:Stmt:=top 48
abbrev s_q18:Stmt:=top 49
abbrev s_q0:Stmt:=top 51
abbrev s_q10:Stmt:=top 52
abbrev s_q22:Stmt:=top 53
abbrev s_q33:Stmt:=top 55
abbrev s_q24:Stmt:=top 56
abbrev s_q34:Stmt:=top 57
abbrev s_q35:Stmt:=top 58
abbrev s_q41:Stmt:=top 59
abbrev s_q28:Stmt:=top 60
abbrev s_law:Stmt:=top 61
set_option genInjectivity false in
structure Adr where
  f_q23:Addr
  d_q23:FuncData
  f_q12:Addr
  d_q12:FuncData
  f_q1:Addr
  d_q1:FuncData
  f_q8:Addr
  d_q8:FuncData
  f_q3:Addr
  d_q3:FuncData
  f_q7:Addr
  d_q7:FuncData
  f_q20:Addr
  d_q20:FuncData
  f_q17:Addr
  d_q17:FuncData
  f_q32:Addr
  d_q32:FuncData
  f_q4:Addr
  d_q4:FuncData
  f_q19:Addr
  d_q19:FuncData
  f_q43:Addr
  d_q43:FuncData
  f_q44:Addr
  d_q44:FuncData
  f_q38:Addr
  d_q38:FuncData
  f_q45:Addr
  d_q45:FuncData
  f_q5:Addr
  d_q5:FuncData
  f_q40:Addr
  d_q40:FuncData
  f_q9:Addr
  d_q9:FuncData
  f_q39:Addr
  d_q39:FuncData
  f_q6:Addr
  d_q6:FuncData
  f_q36:Addr
  d_q36:FuncData
  f_q13:Addr
  d_q13:FuncData
  f_q42:Addr
  d_q42:FuncData
  f_q11:Addr
  d_q11:FuncData
  f_q26:Addr
  d_q26:FuncData
  f_q21:Addr
  d_q21:FuncData
  f_q2:Addr
  d_q2:FuncData
  f_q25:Addr
  d_q25:FuncData
  f_q37:Addr
  d_q37:FuncData
  f_q18:Addr
  d_q18:FuncData
  f_q0:Addr
  d_q0:FuncData
  f_q10:Addr
  d_q10:FuncData
  f_q22:Addr
  d_q22:FuncData
  f_q33:Addr
  d_q33:FuncData
  f_q24:Addr
  d_q24:FuncData
  f_q34:Addr
  d_q34:FuncData
  f_q35:Addr
  d_q35:FuncData
  f_q41:Addr
  d_q41:FuncData
  f_q28:Addr
  d_q28:FuncData
  f_law:Addr
  d_law:FuncData
  c_q14:Addr
  c_q29:Addr
  c_q30:Addr
  c_q15:Addr
  c_q27:Addr
  c_q16:Addr
  c_q31:Addr
  n_q29:Addr
  n_q30:Addr
  n_q16:Addr
  n_q31:Addr
  nd_q29:FuncData
  nd_q30:FuncData
  nd_q16:FuncData
  nd_q31:FuncData
set_option genInjectivity false in
structure Txt (K:PySem.W.Frag) (mg:Str → Option Value) (A:Adr):Prop where
  F_q23:Fun K "is_whole" "is_whole" s_q23 A.f_q23 A.d_q23
  b_q23:Binds K A.d_q23 ["thing"] []
  k_q23:PySem.W.keepIn K (.ref A.f_q23) = true
  m_q23:mg "is_whole" = some (.ref A.f_q23)
  F_q12:Fun K "is_between" "is_between" s_q12 A.f_q12 A.d_q12
  b_q12:Binds K A.d_q12 ["thing","least","most"] []
  k_q12:PySem.W.keepIn K (.ref A.f_q12) = true
  m_q12:mg "is_between" = some (.ref A.f_q12)
  F_q1:Fun K "greatest_common" "greatest_common" s_q1 A.f_q1 A.d_q1
  b_q1:Binds K A.d_q1 ["number","bottom"] []
  k_q1:PySem.W.keepIn K (.ref A.f_q1) = true
  m_q1:mg "greatest_common" = some (.ref A.f_q1)
  F_q8:Fun K "is_fraction" "is_fraction" s_q8 A.f_q8 A.d_q8
  b_q8:Binds K A.d_q8 ["thing"] []
  k_q8:PySem.W.keepIn K (.ref A.f_q8) = true
  m_q8:mg "is_fraction" = some (.ref A.f_q8)
  F_q3:Fun K "has_two_lists" "has_two_lists" s_q3 A.f_q3 A.d_q3
  b_q3:Binds K A.d_q3 ["thing"] []
  k_q3:PySem.W.keepIn K (.ref A.f_q3) = true
  m_q3:mg "has_two_lists" = some (.ref A.f_q3)
  F_q7:Fun K "look_at_tree" "look_at_tree" s_q7 A.f_q7 A.d_q7
  b_q7:Binds K A.d_q7 ["thing"] []
  k_q7:PySem.W.keepIn K (.ref A.f_q7) = true
  m_q7:mg "look_at_tree" = some (.ref A.f_q7)
  F_q20:Fun K "is_place" "is_place" s_q20 A.f_q20 A.d_q20
  b_q20:Binds K A.d_q20 ["tree","thing"] []
  k_q20:PySem.W.keepIn K (.ref A.f_q20) = true
  m_q20:mg "is_place" = some (.ref A.f_q20)
  F_q17:Fun K "are_ends" "are_ends" s_q17 A.f_q17 A.d_q17
  b_q17:Binds K A.d_q17 ["tree","one","other"] []
  k_q17:PySem.W.keepIn K (.ref A.f_q17) = true
  m_q17:mg "are_ends" = some (.ref A.f_q17)
  F_q32:Fun K "is_ask" "is_ask" s_q32 A.f_q32 A.d_q32
  b_q32:Binds K A.d_q32 ["tree","thing"] []
  k_q32:PySem.W.keepIn K (.ref A.f_q32) = true
  m_q32:mg "is_ask" = some (.ref A.f_q32)
  F_q4:Fun K "look_at_asks" "look_at_asks" s_q4 A.f_q4 A.d_q4
  b_q4:Binds K A.d_q4 ["tree","thing"] []
  k_q4:PySem.W.keepIn K (.ref A.f_q4) = true
  m_q4:mg "look_at_asks" = some (.ref A.f_q4)
  F_q19:Fun K "fraction" "fraction" s_q19 A.f_q19 A.d_q19
  b_q19:Binds K A.d_q19 ["top","bottom"] []
  k_q19:PySem.W.keepIn K (.ref A.f_q19) = true
  m_q19:mg "fraction" = some (.ref A.f_q19)
  F_q43:Fun K "minus" "minus" s_q43 A.f_q43 A.d_q43
  b_q43:Binds K A.d_q43 ["one","other"] []
  k_q43:PySem.W.keepIn K (.ref A.f_q43) = true
  m_q43:mg "minus" = some (.ref A.f_q43)
  F_q44:Fun K "times" "times" s_q44 A.f_q44 A.d_q44
  b_q44:Binds K A.d_q44 ["one","other"] []
  k_q44:PySem.W.keepIn K (.ref A.f_q44) = true
  m_q44:mg "times" = some (.ref A.f_q44)
  F_q38:Fun K "sum_of" "sum_of" s_q38 A.f_q38 A.d_q38
  b_q38:Binds K A.d_q38 ["some"] []
  k_q38:PySem.W.keepIn K (.ref A.f_q38) = true
  m_q38:mg "sum_of" = some (.ref A.f_q38)
  F_q45:Fun K "under" "under" s_q45 A.f_q45 A.d_q45
  b_q45:Binds K A.d_q45 ["one","other"] []
  k_q45:PySem.W.keepIn K (.ref A.f_q45) = true
  m_q45:mg "under" = some (.ref A.f_q45)
  F_q5:Fun K "look_at_ends" "look_at_ends" s_q5 A.f_q5 A.d_q5
  b_q5:Binds K A.d_q5 ["tree","one","other"] []
  k_q5:PySem.W.keepIn K (.ref A.f_q5) = true
  m_q5:mg "look_at_ends" = some (.ref A.f_q5)
  F_q40:Fun K "climb" "climb" s_q40 A.f_q40 A.d_q40
  b_q40:Binds K A.d_q40 ["tree","one","other"] []
  k_q40:PySem.W.keepIn K (.ref A.f_q40) = true
  m_q40:mg "climb" = some (.ref A.f_q40)
  F_q9:Fun K "way_between" "way_between" s_q9 A.f_q9 A.d_q9
  b_q9:Binds K A.d_q9 ["tree","one","other"] []
  k_q9:PySem.W.keepIn K (.ref A.f_q9) = true
  m_q9:mg "way_between" = some (.ref A.f_q9)
  F_q39:Fun K "way_of" "way_of" s_q39 A.f_q39 A.d_q39
  b_q39:Binds K A.d_q39 ["tree","ask"] []
  k_q39:PySem.W.keepIn K (.ref A.f_q39) = true
  m_q39:mg "way_of" = some (.ref A.f_q39)
  F_q6:Fun K "look_at_keep" "look_at_keep" s_q6 A.f_q6 A.d_q6
  b_q6:Binds K A.d_q6 ["tree","asks","thing"] []
  k_q6:PySem.W.keepIn K (.ref A.f_q6) = true
  m_q6:mg "look_at_keep" = some (.ref A.f_q6)
  F_q36:Fun K "lay_on" "lay_on" s_q36 A.f_q36 A.d_q36
  b_q36:Binds K A.d_q36 ["ask","way","load"] []
  k_q36:PySem.W.keepIn K (.ref A.f_q36) = true
  m_q36:mg "lay_on" = some (.ref A.f_q36)
  F_q13:Fun K "load_with" "load_with" s_q13 A.f_q13 A.d_q13
  b_q13:Binds K A.d_q13 ["tree","ask","load"] []
  k_q13:PySem.W.keepIn K (.ref A.f_q13) = true
  m_q13:mg "load_with" = some (.ref A.f_q13)
  F_q42:Fun K "loads" "loads" s_q42 A.f_q42 A.d_q42
  b_q42:Binds K A.d_q42 ["tree","asks","keep"] []
  k_q42:PySem.W.keepIn K (.ref A.f_q42) = true
  m_q42:mg "loads" = some (.ref A.f_q42)
  F_q11:Fun K "first_over" "first_over" s_q11 A.f_q11 A.d_q11
  b_q11:Binds K A.d_q11 ["tree","asks","keep"] []
  k_q11:PySem.W.keepIn K (.ref A.f_q11) = true
  m_q11:mg "first_over" = some (.ref A.f_q11)
  F_q26:Fun K "worth_of" "worth_of" s_q26 A.f_q26 A.d_q26
  b_q26:Binds K A.d_q26 ["tree","asks","keep"] []
  k_q26:PySem.W.keepIn K (.ref A.f_q26) = true
  m_q26:mg "worth_of" = some (.ref A.f_q26)
  F_q21:Fun K "is_price" "is_price" s_q21 A.f_q21 A.d_q21
  b_q21:Binds K A.d_q21 ["thing"] []
  k_q21:PySem.W.keepIn K (.ref A.f_q21) = true
  m_q21:mg "is_price" = some (.ref A.f_q21)
  F_q2:Fun K "look_at_prices" "look_at_prices" s_q2 A.f_q2 A.d_q2
  b_q2:Binds K A.d_q2 ["tree","thing"] []
  k_q2:PySem.W.keepIn K (.ref A.f_q2) = true
  m_q2:mg "look_at_prices" = some (.ref A.f_q2)
  F_q25:Fun K "spare_of" "spare_of" s_q25 A.f_q25 A.d_q25
  b_q25:Binds K A.d_q25 ["tree","ask","weight","prices"] []
  k_q25:PySem.W.keepIn K (.ref A.f_q25) = true
  m_q25:mg "spare_of" = some (.ref A.f_q25)
  F_q37:Fun K "spares" "spares" s_q37 A.f_q37 A.d_q37
  b_q37:Binds K A.d_q37 ["tree","asks","prices"] []
  k_q37:PySem.W.keepIn K (.ref A.f_q37) = true
  m_q37:mg "spares" = some (.ref A.f_q37)
  F_q18:Fun K "bound_of" "bound_of" s_q18 A.f_q18 A.d_q18
  b_q18:Binds K A.d_q18 ["tree","asks","prices"] []
  k_q18:PySem.W.keepIn K (.ref A.f_q18) = true
  m_q18:mg "bound_of" = some (.ref A.f_q18)
  F_q0:Fun K "is_keep_that_fits" "is_keep_that_fits" s_q0 A.f_q0 A.d_q0
  b_q0:Binds K A.d_q0 ["tree","asks","thing"] []
  k_q0:PySem.W.keepIn K (.ref A.f_q0) = true
  m_q0:mg "is_keep_that_fits" = some (.ref A.f_q0)
  F_q10:Fun K "are_prices" "are_prices" s_q10 A.f_q10 A.d_q10
  b_q10:Binds K A.d_q10 ["tree","thing"] []
  k_q10:PySem.W.keepIn K (.ref A.f_q10) = true
  m_q10:mg "are_prices" = some (.ref A.f_q10)
  F_q22:Fun K "is_share" "is_share" s_q22 A.f_q22 A.d_q22
  b_q22:Binds K A.d_q22 ["tree","asks","thing"] []
  k_q22:PySem.W.keepIn K (.ref A.f_q22) = true
  m_q22:mg "is_share" = some (.ref A.f_q22)
  F_q33:Fun K "_law_cell" "_law_cell" s_q33 A.f_q33 A.d_q33
  b_q33:Binds K A.d_q33 ["_law_script","_law_k"] []
  k_q33:PySem.W.keepIn K (.ref A.f_q33) = true
  m_q33:mg "_law_cell" = some (.ref A.f_q33)
  F_q24:Fun K "_law_source" "_law_source" s_q24 A.f_q24 A.d_q24
  b_q24:Binds K A.d_q24 ["_law_cell_here","_law_k"] []
  k_q24:PySem.W.keepIn K (.ref A.f_q24) = true
  m_q24:mg "_law_source" = some (.ref A.f_q24)
  F_q34:Fun K "_law_draw" "_law_draw" s_q34 A.f_q34 A.d_q34
  b_q34:Binds K A.d_q34 ["_law_source_here","_law_many"] []
  k_q34:PySem.W.keepIn K (.ref A.f_q34) = true
  m_q34:mg "_law_draw" = some (.ref A.f_q34)
  F_q35:Fun K "_law_tree" "_law_tree" s_q35 A.f_q35 A.d_q35
  b_q35:Binds K A.d_q35 ["_law_source_here","_law_most"] []
  k_q35:PySem.W.keepIn K (.ref A.f_q35) = true
  m_q35:mg "_law_tree" = some (.ref A.f_q35)
  F_q41:Fun K "_law_ask" "_law_ask" s_q41 A.f_q41 A.d_q41
  b_q41:Binds K A.d_q41 ["_law_source_here","_law_many","_law_sizes","_law_worths"] []
  k_q41:PySem.W.keepIn K (.ref A.f_q41) = true
  m_q41:mg "_law_ask" = some (.ref A.f_q41)
  F_q28:Fun K "_law_thing" "_law_thing" s_q28 A.f_q28 A.d_q28
  b_q28:Binds K A.d_q28 ["_law_many","_law_asks","_law_source_here"] []
  k_q28:PySem.W.keepIn K (.ref A.f_q28) = true
  m_q28:mg "_law_thing" = some (.ref A.f_q28)
  F_law:Fun K "law" "law" s_law A.f_law A.d_law
  b_law:Binds K A.d_law ["_law_script"] []
  k_law:PySem.W.keepIn K (.ref A.f_law) = true
  m_law:mg "law" = some (.ref A.f_law)
  z_ValueError:mg "ValueError" = none
  z_abs:mg "abs" = none
  z_bool:mg "bool" = none
  z_enumerate:mg "enumerate" = none
  z_int:mg "int" = none
  z_isinstance:mg "isinstance" = none
  z_len:mg "len" = none
  z_list:mg "list" = none
  z_max:mg "max" = none
  z_min:mg "min" = none
  z_range:mg "range" = none
  z_sorted:mg "sorted" = none
  z_sum:mg "sum" = none
  z_tuple:mg "tuple" = none
  z_zip:mg "zip" = none
  c_MOST_TIES:∃ t,mg "MOST_TIES" = some (.int 23 t)
  c_MOST_ROOM:∃ t,mg "MOST_ROOM" = some (.int 1000000 t)
  c_MOST_ASKS:∃ t,mg "MOST_ASKS" = some (.int 30 t)
  c_MOST_SIZE:∃ t,mg "MOST_SIZE" = some (.int 1000000 t)
  c_MOST_WORTH:∃ t,mg "MOST_WORTH" = some (.int 1000000000000 t)
  m_q14:mg "AskError" = some (.ref A.c_q14)
  m_q29:mg "NoAsks" = some (.ref A.c_q29)
  m_q30:mg "NoKeep" = some (.ref A.c_q30)
  m_q15:mg "NoNumber" = some (.ref A.c_q15)
  m_q27:mg "NoPlace" = some (.ref A.c_q27)
  m_q16:mg "NoPrices" = some (.ref A.c_q16)
  m_q31:mg "NoTree" = some (.ref A.c_q31)
  x_q14:xcIn K A.c_q14 bmV none = true
  x_q29:xcIn K A.c_q29 ([.ref A.c_q14] ++ bmV) (some (.ref A.n_q29)) = true
  x_q30:xcIn K A.c_q30 ([.ref A.c_q14] ++ bmV) (some (.ref A.n_q30)) = true
  x_q15:xcIn K A.c_q15 ([.ref A.c_q14] ++ bmV) none = true
  x_q27:xcIn K A.c_q27 ([.ref A.c_q14] ++ bmV) none = true
  x_q16:xcIn K A.c_q16 ([.ref A.c_q14] ++ bmV) (some (.ref A.n_q16)) = true
  x_q31:xcIn K A.c_q31 ([.ref A.c_q14] ++ bmV) (some (.ref A.n_q31)) = true
  o_q29:xcOk K A.c_q29 = true
  v_q29:PySem.W.kitOne K (.ref A.c_q29) (.type "ValueError") = some true
  o_q30:xcOk K A.c_q30 = true
  v_q30:PySem.W.kitOne K (.ref A.c_q30) (.type "ValueError") = some true
  o_q15:xcOk K A.c_q15 = true
  v_q15:PySem.W.kitOne K (.ref A.c_q15) (.type "ValueError") = some true
  o_q27:xcOk K A.c_q27 = true
  v_q27:PySem.W.kitOne K (.ref A.c_q27) (.type "ValueError") = some true
  o_q16:xcOk K A.c_q16 = true
  v_q16:PySem.W.kitOne K (.ref A.c_q16) (.type "ValueError") = some true
  o_q31:xcOk K A.c_q31 = true
  v_q31:PySem.W.kitOne K (.ref A.c_q31) (.type "ValueError") = some true
  I_q29:Fun K "__init__" "NoAsks.__init__" (inClass (top 3) 0) A.n_q29 A.nd_q29
  bi_q29:Binds K A.nd_q29 ["self","number"] []
  fi_q29:PySem.W.typeIn K (.ref A.n_q29) = some (.type "function")
  kc_q29:PySem.W.keepIn K (.ref A.c_q29) = true
  xa_q29_number:xaOk K A.c_q29 "number"
  I_q30:Fun K "__init__" "NoKeep.__init__" (inClass (top 4) 0) A.n_q30 A.nd_q30
  bi_q30:Binds K A.nd_q30 ["self","number"] []
  fi_q30:PySem.W.typeIn K (.ref A.n_q30) = some (.type "function")
  kc_q30:PySem.W.keepIn K (.ref A.c_q30) = true
  xa_q30_number:xaOk K A.c_q30 "number"
  I_q16:Fun K "__init__" "NoPrices.__init__" (inClass (top 5) 0) A.n_q16 A.nd_q16
  bi_q16:Binds K A.nd_q16 ["self","number"] []
  fi_q16:PySem.W.typeIn K (.ref A.n_q16) = some (.type "function")
  kc_q16:PySem.W.keepIn K (.ref A.c_q16) = true
  xa_q16_number:xaOk K A.c_q16 "number"
  I_q31:Fun K "__init__" "NoTree.__init__" (inClass (top 2) 0) A.n_q31 A.nd_q31
  bi_q31:Binds K A.nd_q31 ["self","part","number"] []
  fi_q31:PySem.W.typeIn K (.ref A.n_q31) = some (.type "function")
  kc_q31:PySem.W.keepIn K (.ref A.c_q31) = true
  xa_q31_part:xaOk K A.c_q31 "part"
  xa_q31_number:xaOk K A.c_q31 "number"
  B_q14:BaseIn K A.c_q14
theorem sc_q23:FnScope ["thing"] ["thing"] (defScope s_q23):=⟨rfl,rfl,rfl,by decide +kernel,rfl,by decide +kernel,by decide +kernel⟩
theorem sc_q12:FnScope ["thing","least","most"] ["thing","least","most"] (defScope s_q12):=⟨rfl,rfl,rfl,by decide +kernel,rfl,by decide +kernel,by decide +kernel⟩
theorem sc_q1:FnScope ["number","bottom"] ["number","bottom"] (defScope s_q1):=⟨rfl,rfl,rfl,by decide +kernel,rfl,by decide +kernel,by decide +kernel⟩
theorem sc_q8:FnScope ["thing","top","bottom"] ["thing"] (defScope s_q8):=⟨rfl,rfl,rfl,by decide +kernel,rfl,by decide +kernel,by decide +kernel⟩
theorem sc_q3:FnScope ["thing","parents","rooms"] ["thing"] (defScope s_q3):=⟨rfl,rfl,rfl,by decide +kernel,rfl,by decide +kernel,by decide +kernel⟩
theorem sc_q7:FnScope ["thing","parents","rooms","number","parent","room"] ["thing"] (defScope s_q7):=⟨rfl,rfl,rfl,by decide +kernel,rfl,by decide +kernel,by decide +kernel⟩
theorem sc_q20:FnScope ["tree","thing"] ["tree","thing"] (defScope s_q20):=⟨rfl,rfl,rfl,by decide +kernel,rfl,by decide +kernel,by decide +kernel⟩
theorem sc_q17:FnScope ["tree","one","other"] ["tree","one","other"] (defScope s_q17):=⟨rfl,rfl,rfl,by decide +kernel,rfl,by decide +kernel,by decide +kernel⟩
theorem sc_q32:FnScope ["tree","thing","one","other","size","worth"] ["tree","thing"] (defScope s_q32):=⟨rfl,rfl,rfl,by decide +kernel,rfl,by decide +kernel,by decide +kernel⟩
theorem sc_q4:FnScope ["tree","thing","number","ask"] ["tree","thing"] (defScope s_q4):=⟨rfl,rfl,rfl,by decide +kernel,rfl,by decide +kernel,by decide +kernel⟩
theorem sc_q19:FnScope ["top","bottom","common"] ["top","bottom"] (defScope s_q19):=⟨rfl,rfl,rfl,by decide +kernel,rfl,by decide +kernel,by decide +kernel⟩
theorem sc_q43:FnScope ["one","other"] ["one","other"] (defScope s_q43):=⟨rfl,rfl,rfl,by decide +kernel,rfl,by decide +kernel,by decide +kernel⟩
theorem sc_q44:FnScope ["one","other"] ["one","other"] (defScope s_q44):=⟨rfl,rfl,rfl,by decide +kernel,rfl,by decide +kernel,by decide +kernel⟩
theorem sc_q38:FnScope ["some","bottom","one"] ["some"] (defScope s_q38):=⟨rfl,rfl,rfl,by decide +kernel,rfl,by decide +kernel,by decide +kernel⟩
theorem sc_q45:FnScope ["one","other"] ["one","other"] (defScope s_q45):=⟨rfl,rfl,rfl,by decide +kernel,rfl,by decide +kernel,by decide +kernel⟩
theorem sc_q5:FnScope ["tree","one","other"] ["tree","one","other"] (defScope s_q5):=⟨rfl,rfl,rfl,by decide +kernel,rfl,by decide +kernel,by decide +kernel⟩
theorem sc_q40:FnScope ["tree","one","other","way","low"] ["tree","one","other"] (defScope s_q40):=⟨rfl,rfl,rfl,by decide +kernel,rfl,by decide +kernel,by decide +kernel⟩
theorem sc_q9:FnScope ["tree","one","other","way","meeting"] ["tree","one","other"] (defScope s_q9):=⟨rfl,rfl,rfl,by decide +kernel,rfl,by decide +kernel,by decide +kernel⟩
theorem sc_q39:FnScope ["tree","ask"] ["tree","ask"] (defScope s_q39):=⟨rfl,rfl,rfl,by decide +kernel,rfl,by decide +kernel,by decide +kernel⟩
theorem sc_q6:FnScope ["tree","asks","thing","least","place","number"] ["tree","asks","thing"] (defScope s_q6):=⟨rfl,rfl,rfl,by decide +kernel,rfl,by decide +kernel,by decide +kernel⟩
theorem sc_q36:FnScope ["ask","way","load","tie"] ["ask","way","load"] (defScope s_q36):=⟨rfl,rfl,rfl,by decide +kernel,rfl,by decide +kernel,by decide +kernel⟩
theorem sc_q13:FnScope ["tree","ask","load","found"] ["tree","ask","load"] (defScope s_q13):=⟨rfl,rfl,rfl,by decide +kernel,rfl,by decide +kernel,by decide +kernel⟩
theorem sc_q42:FnScope ["tree","asks","keep","found","number"] ["tree","asks","keep"] (defScope s_q42):=⟨rfl,rfl,rfl,by decide +kernel,rfl,by decide +kernel,by decide +kernel⟩
theorem sc_q11:FnScope ["tree","asks","keep","number","load"] ["tree","asks","keep"] (defScope s_q11):=⟨rfl,rfl,rfl,by decide +kernel,rfl,by decide +kernel,by decide +kernel⟩
theorem sc_q26:FnScope ["tree","asks","keep"] ["tree","asks","keep"] (defScope s_q26):=⟨rfl,rfl,rfl,by decide +kernel,rfl,by decide +kernel,by decide +kernel⟩
theorem sc_q21:FnScope ["thing"] ["thing"] (defScope s_q21):=⟨rfl,rfl,rfl,by decide +kernel,rfl,by decide +kernel,by decide +kernel⟩
theorem sc_q2:FnScope ["tree","thing","ties","number","price"] ["tree","thing"] (defScope s_q2):=⟨rfl,rfl,rfl,by decide +kernel,rfl,by decide +kernel,by decide +kernel⟩
theorem sc_q25:FnScope ["tree","ask","weight","prices","paid","spare"] ["tree","ask","weight","prices"] (defScope s_q25):=⟨rfl,rfl,rfl,by decide +kernel,rfl,by decide +kernel,by decide +kernel⟩
theorem sc_q37:FnScope ["tree","asks","prices"] ["tree","asks","prices"] (defScope s_q37):=⟨rfl,rfl,rfl,by decide +kernel,rfl,by decide +kernel,by decide +kernel⟩
theorem sc_q18:FnScope ["tree","asks","prices","spared","paid"] ["tree","asks","prices"] (defScope s_q18):=⟨rfl,rfl,rfl,by decide +kernel,rfl,by decide +kernel,by decide +kernel⟩
theorem sc_q0:FnScope ["tree","asks","thing"] ["tree","asks","thing"] (defScope s_q0):=⟨rfl,rfl,rfl,by decide +kernel,rfl,by decide +kernel,by decide +kernel⟩
theorem sc_q10:FnScope ["tree","thing"] ["tree","thing"] (defScope s_q10):=⟨rfl,rfl,rfl,by decide +kernel,rfl,by decide +kernel,by decide +kernel⟩
theorem sc_q22:FnScope ["tree","asks","thing","keep","prices","often","worth"] ["tree","asks","thing"] (defScope s_q22):=⟨rfl,rfl,rfl,by decide +kernel,rfl,by decide +kernel,by decide +kernel⟩
theorem sc_q33:FnScope ["_law_script","_law_k"] ["_law_script","_law_k"] (defScope s_q33):=⟨rfl,rfl,rfl,by decide +kernel,rfl,by decide +kernel,by decide +kernel⟩
theorem sc_q24:FnScope ["_law_cell_here","_law_k","_law_number","_law_seed"] ["_law_cell_here","_law_k"] (defScope s_q24):=⟨rfl,rfl,rfl,by decide +kernel,rfl,by decide +kernel,by decide +kernel⟩
theorem sc_q34:FnScope ["_law_source_here","_law_many","_law_digit","_law_found"] ["_law_source_here","_law_many"] (defScope s_q34):=⟨rfl,rfl,rfl,by decide +kernel,rfl,by decide +kernel,by decide +kernel⟩
theorem sc_q35:FnScope ["_law_source_here","_law_most","_law_many","_law_style","_law_parents","_law_k","_law_wide"] ["_law_source_here","_law_most"] (defScope s_q35):=⟨rfl,rfl,rfl,by decide +kernel,rfl,by decide +kernel,by decide +kernel⟩
theorem sc_q41:FnScope ["_law_source_here","_law_many","_law_sizes","_law_worths","_law_one","_law_other","_law_size"] ["_law_source_here","_law_many","_law_sizes","_law_worths"] (defScope s_q41):=⟨rfl,rfl,rfl,by decide +kernel,rfl,by decide +kernel,by decide +kernel⟩
theorem sc_q28:FnScope ["_law_many","_law_asks","_law_source_here","_law_prices","_law_good","_law_some"] ["_law_many","_law_asks","_law_source_here"] (defScope s_q28):=⟨rfl,rfl,rfl,by decide +kernel,rfl,by decide +kernel,by decide +kernel⟩
theorem sc_law:FnScope ["_law_script","_law_tree_here","_law_asks","_law_k","_law_source_here","_law_thing_here","_law_paper"] ["_law_script"] (defScope s_law):=⟨rfl,rfl,rfl,by decide +kernel,rfl,by decide +kernel,by decide +kernel⟩
theorem sci_q29:FnScope ["self","number"] ["self","number"] (defScope (inClass (top 3) 0)):=⟨rfl,rfl,rfl,by decide +kernel,rfl,by decide +kernel,by decide +kernel⟩
theorem sci_q30:FnScope ["self","number"] ["self","number"] (defScope (inClass (top 4) 0)):=⟨rfl,rfl,rfl,by decide +kernel,rfl,by decide +kernel,by decide +kernel⟩
theorem sci_q16:FnScope ["self","number"] ["self","number"] (defScope (inClass (top 5) 0)):=⟨rfl,rfl,rfl,by decide +kernel,rfl,by decide +kernel,by decide +kernel⟩
theorem sci_q31:FnScope ["self","part","number"] ["self","part","number"] (defScope (inClass (top 2) 0)):=⟨rfl,rfl,rfl,by decide +kernel,rfl,by decide +kernel,by decide +kernel⟩
section
variable {P:Program} {w:World} {K:PySem.W.Frag} {mg:Str → Option Value} {base:Heap} {A:Adr}
theorem oki_q29 (T:Txt K mg A):FnOk P w K mg base CX0 1 A.n_q29 A.nd_q29 ["self","number"] (spInit A.c_q29 ["number"]):=by
  refine T.I_q29.ok (k:=0) sci_q29 (fun vs H Q E h => by obtain ⟨e,xs,rfl,h,_⟩:=h; rw [List.length_cons,h]; rfl) (fun cdv Ar outer s H vs Q E hr h => ?_)
  obtain ⟨e,xs,rfl,hl,hv,hH,q⟩:=h
  obtain ⟨x1,rfl⟩:∃ x1,xs = [x1]:=match xs,hl with | [x1],_ => ⟨x1,rfl⟩
  refine ⟨_,pss_cons (ps_expr (pe_binit T.B_q14 T.x_q29 rfl T.m_q14 (pa_cons (pv 0) (pa_cons (pe_join (pj_lit (pj_var (pv 1) pj_nil))) pa_nil)))) (pss_one (ps_x0 T.x_q29 T.o_q29 T.xa_q29_number (pv 0) (pv 1))),?_⟩
  refine ⟨_,rfl,⟨trivial,⟨⟨x1,rfl,hv x1 (by simp)⟩,trivial⟩⟩,fun y => ?_⟩
  refine ⟨e,y,none,rfl,hH,?_⟩
  refine ⟨_,rfl,_,rfl,e,rfl,upd_same,fun d hd => ?_⟩
  have hde:d ≠ e:=fun z => by rw [z,upd_same] at hd; cases hd
  have hd0:H d = none:=by rw [upd_ne hde] at hd; exact hd
  have:=q d hd0
  simp only [upd_upd]
  exact this
theorem oki_q30 (T:Txt K mg A):FnOk P w K mg base CX0 1 A.n_q30 A.nd_q30 ["self","number"] (spInit A.c_q30 ["number"]):=by
  refine T.I_q30.ok (k:=0) sci_q30 (fun vs H Q E h => by obtain ⟨e,xs,rfl,h,_⟩:=h; rw [List.length_cons,h]; rfl) (fun cdv Ar outer s H vs Q E hr h => ?_)
  obtain ⟨e,xs,rfl,hl,hv,hH,q⟩:=h
  obtain ⟨x1,rfl⟩:∃ x1,xs = [x1]:=match xs,hl with | [x1],_ => ⟨x1,rfl⟩
  refine ⟨_,pss_cons (ps_expr (pe_binit T.B_q14 T.x_q30 rfl T.m_q14 (pa_cons (pv 0) (pa_cons (pe_join (pj_lit (pj_var (pv 1) pj_nil))) pa_nil)))) (pss_one (ps_x0 T.x_q30 T.o_q30 T.xa_q30_number (pv 0) (pv 1))),?_⟩
  refine ⟨_,rfl,⟨trivial,⟨⟨x1,rfl,hv x1 (by simp)⟩,trivial⟩⟩,fun y => ?_⟩
  refine ⟨e,y,none,rfl,hH,?_⟩
  refine ⟨_,rfl,_,rfl,e,rfl,upd_same,fun d hd => ?_⟩
  have hde:d ≠ e:=fun z => by rw [z,upd_same] at hd; cases hd
  have hd0:H d = none:=by rw [upd_ne hde] at hd; exact hd
  have:=q d hd0
  simp only [upd_upd]
  exact this
theorem oki_q16 (T:Txt K mg A):FnOk P w K mg base CX0 1 A.n_q16 A.nd_q16 ["self","number"] (spInit A.c_q16 ["number"]):=by
  refine T.I_q16.ok (k:=0) sci_q16 (fun vs H Q E h => by obtain ⟨e,xs,rfl,h,_⟩:=h; rw [List.length_cons,h]; rfl) (fun cdv Ar outer s H vs Q E hr h => ?_)
  obtain ⟨e,xs,rfl,hl,hv,hH,q⟩:=h
  obtain ⟨x1,rfl⟩:∃ x1,xs = [x1]:=match xs,hl with | [x1],_ => ⟨x1,rfl⟩
  refine ⟨_,pss_cons (ps_expr (pe_binit T.B_q14 T.x_q16 rfl T.m_q14 (pa_cons (pv 0) (pa_cons (pe_join (pj_lit (pj_var (pv 1) pj_nil))) pa_nil)))) (pss_one (ps_x0 T.x_q16 T.o_q16 T.xa_q16_number (pv 0) (pv 1))),?_⟩
  refine ⟨_,rfl,⟨trivial,⟨⟨x1,rfl,hv x1 (by simp)⟩,trivial⟩⟩,fun y => ?_⟩
  refine ⟨e,y,none,rfl,hH,?_⟩
  refine ⟨_,rfl,_,rfl,e,rfl,upd_same,fun d hd => ?_⟩
  have hde:d ≠ e:=fun z => by rw [z,upd_same] at hd; cases hd
  have hd0:H d = none:=by rw [upd_ne hde] at hd; exact hd
  have:=q d hd0
  simp only [upd_upd]
  exact this
theorem oki_q31 (T:Txt K mg A):FnOk P w K mg base CX0 1 A.n_q31 A.nd_q31 ["self","part","number"] (spInit A.c_q31 ["part","number"]):=by
  refine T.I_q31.ok (k:=0) sci_q31 (fun vs H Q E h => by obtain ⟨e,xs,rfl,h,_⟩:=h; rw [List.length_cons,h]; rfl) (fun cdv Ar outer s H vs Q E hr h => ?_)
  obtain ⟨e,xs,rfl,hl,hv,hH,q⟩:=h
  obtain ⟨x1,x2,rfl⟩:∃ x1 x2,xs = [x1,x2]:=match xs,hl with | [x1,x2],_ => ⟨x1,x2,rfl⟩
  refine ⟨_,pss_cons (ps_expr (pe_binit T.B_q14 T.x_q31 rfl T.m_q14 (pa_cons (pv 0) (pa_cons (pe_join (pj_lit (pj_var (pv 1) (pj_lit (pj_var (pv 2) pj_nil))))) pa_nil)))) (pss_cons (ps_x0 T.x_q31 T.o_q31 T.xa_q31_part (pv 0) (pv 1)) (pss_one (ps_x1 T.x_q31 T.o_q31 T.xa_q31_number (pv 0) (pv 2)))),?_⟩
  refine ⟨_,rfl,⟨trivial,⟨⟨x1,rfl,hv x1 (by simp)⟩,⟨trivial,⟨⟨x2,rfl,hv x2 (by simp)⟩,trivial⟩⟩⟩⟩,fun y => ?_⟩
  refine ⟨e,y,none,rfl,hH,?_⟩
  refine ⟨_,rfl,_,rfl,e,rfl,upd_same,fun d hd => ?_⟩
  have hde:d ≠ e:=fun z => by rw [z,upd_same] at hd; cases hd
  have hd0:H d = none:=by rw [upd_ne hde] at hd; exact hd
  refine ⟨_,rfl,_,rfl,e,d,_,rfl,by rw [upd_ne (Ne.symm hde),upd_same],upd_same,hde,by simp,rfl,?_⟩
  have:=q d hd0
  simp only [upd_upd]
  exact this
theorem ok_q23 (T:Txt K mg A):FnOk P w K mg base CX0 1 A.f_q23 A.d_q23 ["thing"] (spOf [false] false (sdWhole)):=by
  have S:=sc_q23
  refine fnD T.F_q23 S ⟨[false],[false],false⟩ _ ?hl rfl rfl fun cdv Ar outer s H E hr => ⟨_,(qss_one (qs_ret (qe_and (qe_isT rfl T.z_isinstance bt_isinstance (qe_var 0) (pe_bltn (v:=.ty "int") rfl T.z_int bt_int rfl)) (qe_one (qe_not (qe_isT rfl T.z_isinstance bt_isinstance (qe_var 0) (pe_bltn (v:=.ty "bool") rfl T.z_bool bt_bool rfl))))))),fun ds q h => ?_⟩
  case hl => intro ds q h; obtain ⟨d,rfl,_⟩:=h; rfl
  obtain ⟨d,rfl,hs,q0⟩:=h
  cases d <;> first | exact q0 | cases hs
theorem ok_q12 (T:Txt K mg A):FnOk P w K mg base CX0 2 A.f_q12 A.d_q12 ["thing","least","most"] (spOf [false,false,false] false (sdBetween)):=by
  have G_q23:=ok_q23 (P:=P) (w:=w) (base:=base) T
  have S:=sc_q12
  refine fnD T.F_q12 S ⟨[false,false,false],[false,false,false],false⟩ _ ?hl rfl rfl fun cdv Ar outer s H E hr => ⟨_,(qss_one (qs_ret (qe_and (qe_call (G_q23) (hr.mono (by decide)) rfl T.m_q23 T.k_q23 T.b_q23 (qk_s (qe_var 0) qk_nil)) (qe_one (qe_chain op_le op_le dB dB (qe_var 1) (qe_var 0) (qe_var 2)))))),fun ds q h => ?_⟩
  case hl => intro ds q h; obtain ⟨d,lo,hi,rfl,_⟩:=h; rfl
  obtain ⟨d,lo,hi,rfl,hs,q0⟩:=h
  refine ⟨d,rfl,hs,?_⟩
  cases d
  case int i =>
    refine (ite2 (c:=decide (lo ≤ i) = true) (fun c => ?_) (fun c => ?_))
    · have:btw lo hi (.int i) = decide (i ≤ hi):=by show (decide (lo ≤ i) && decide (i ≤ hi)) = _; rw [c,Bool.true_and]
      rw [this] at q0; exact q0
    · have:btw lo hi (.int i) = false:=by show (decide (lo ≤ i) && decide (i ≤ hi)) = _; rw [Bool.eq_false_iff.mpr c,Bool.false_and]
      rw [this] at q0; exact q0
  all_goals first | exact q0 | cases hs
theorem ok_q3 (T:Txt K mg A):FnOk P w K mg base CX0 1 A.f_q3 A.d_q3 ["thing"] (spOf [false] false (sdTwoD)):=by
  have S:=sc_q3
  refine fnD T.F_q3 S ⟨[false],[false,false,false],false⟩ _ ?hl rfl rfl fun cdv Ar outer s H E hr => ⟨_,(qss_cons (qs_if (QW.qt (qw_or (qt_not (qt_val (qe_isT rfl T.z_isinstance bt_isinstance (qe_var 0) (pe_bltn (v:=.ty "tuple") rfl T.z_tuple bt_tuple rfl)))) (qw_or1 (qt_cmp (op_neD hr.units) dNe (qe_callB call_len_seq dLen rfl T.z_len bt_len (qa_cons (qe_var 0) qa_nil)) qe_int (nomark _))))) (qss_one (qs_ret qe_bl)) qss_nil)
      (qss_cons (qs_asg (qe_var 0) (qg_tup rfl (qgs_cons (qg_name (i:=1) S.nd rfl (Or.inl rfl)) (qgs_cons (qg_name (i:=2) S.nd rfl (Or.inl rfl)) qgs_nil)) (takes_cons1 (takes_cons1 takes_nil))))
      (qss_cons (qs_if (QW.qt (qw_or (qt_not (qt_val (qe_isT rfl T.z_isinstance bt_isinstance (qe_var 1) (pe_bltn (v:=.ty "list") rfl T.z_list bt_list rfl)))) (qw_or1 (qt_not (qt_val (qe_isT rfl T.z_isinstance bt_isinstance (qe_var 2) (pe_bltn (v:=.ty "list") rfl T.z_list bt_list rfl))))))) (qss_one (qs_ret qe_bl)) qss_nil)
      (qss_one (qs_ret (qe_and (qe_cmp (op_eqD hr.units) dEq (qe_callB call_len_seq dLen rfl T.z_len bt_len (qa_cons (qe_var 1) qa_nil)) (qe_callB call_len_seq dLen rfl T.z_len bt_len (qa_cons (qe_var 2) qa_nil)) (nomark _)) (qe_one (qe_chain op_le op_le dB dB qe_int (qe_callB call_len_seq dLen rfl T.z_len bt_len (qa_cons (qe_var 1) qa_nil)) (qe_globI (i:=23) rfl T.c_MOST_TIES))))))))),fun ds q h => ?_⟩
  case hl => intro ds q h; obtain ⟨d,rfl,_⟩:=h; rfl
  obtain ⟨d,rfl,hp,q0⟩:=h
  cases d with
  | tup ds =>
    refine (ite2 (c:=(!decide ((ds.length:Int) = 2)) = true) (fun c => ?_) (fun c => ?_))
    · have:twoL (.tup ds) = false:=by
        cases h:twoL (.tup ds) with
        | false => rfl
        | true =>
          obtain ⟨ps,rs,e,_⟩:=twoL_shape h
          cases e; simp at c
      rw [this] at q0; exact q0
    · obtain ⟨a,b,rfl⟩:∃ a b,ds = [a,b]:=by
        have hl:ds.length = 2:=by simp at c; exact zo139 c
        match ds,hl with
        | [a,b],_ => exact ⟨a,b,rfl⟩
      rw [pln,plns_cons,plns_cons] at hp
      have ha:=pln_isS hp.1
      have hb:=pln_isS hp.2.1
      cases a with
      | lst ps =>
        cases b with
        | lst rs =>
          refine (ite2 (c:=decide ((ps.length:Int) = (rs.length:Int)) = true) (fun c1 => ?_) (fun c1 => ?_))
          · refine (ite2 (c:=decide ((1:Int) ≤ (ps.length:Int)) = true) (fun c2 => ?_) (fun c2 => ?_))
            · have e:twoL (.tup [.lst ps,.lst rs]) = decide ((ps.length:Int) ≤ 23):=by
                have c1':ps.length = rs.length:=by have:=of_decide_eq_true c1; exact zo103 this
                have c2' : 1 ≤ ps.length:=by simp at c2; exact zo237 c1' c2
                show (decide (ps.length = rs.length) && (decide (1 ≤ ps.length) && decide (ps.length ≤ 23))) = _
                rw [decide_eq_true c1',decide_eq_true c2',Bool.true_and,Bool.true_and]
                exact decide_eq_decide.mpr (by (first|lia|omega))
              rw [e] at q0; exact q0
            · have e:twoL (.tup [.lst ps,.lst rs]) = false:=by
                have c2' : ¬ 1 ≤ ps.length:=by simp at c2; exact zo277 c2
                show (decide (ps.length = rs.length) && (decide (1 ≤ ps.length) && decide (ps.length ≤ 23))) = _
                rw [decide_eq_false c2',Bool.false_and,Bool.and_false]
              rw [e] at q0; exact q0
          · have e:twoL (.tup [.lst ps,.lst rs]) = false:=by
              have c1' : ¬ ps.length = rs.length:=fun z => c1 (decide_eq_true (by exact zo234 z))
              show (decide (ps.length = rs.length) && (decide (1 ≤ ps.length) && decide (ps.length ≤ 23))) = _
              rw [decide_eq_false c1',Bool.false_and]
            rw [e] at q0; exact q0
        | _ => first | exact q0 | cases hb
      | _ => first | exact q0 | cases ha
  | _ => first | exact q0 | (rw [pln] at hp; cases hp)
theorem okx_q7 (T:Txt K mg A):FnOk P w K mg base (CX1 P w) 3 A.f_q7 A.d_q7 ["thing"] (spOfX [false] false ((sdLookT A.c_q31))):=by
  have G_q3:=ok_q3 (P:=P) (w:=w) (base:=base) T
  have G_q12:=ok_q12 (P:=P) (w:=w) (base:=base) T
  have S:=sc_q7
  refine fnX T.F_q7 S ⟨[false],[false,false,false,false,false,false],false⟩ _ ?hl rfl rfl fun cdv Ar outer s H E hr => ⟨_,(qxs_cons (qx_if (qt_not (qt_val (qe_call (G_q3) (hr.mono (by decide)) rfl T.m_q3 T.k_q3 T.b_q3 (qk_s (qe_var 0) qk_nil)))) (qxs_one (qx_raise1 (oki_q31 T) (hr.mono (by decide)) T.bi_q31 T.x_q31 T.fi_q31 T.kc_q31 rfl T.m_q31 (qa_cons qe_str (qa_cons qe_non qa_nil)))) qxs_nil)
      (qxs_cons (qx_of (qs_asg (qe_var 0) (qg_tup rfl (qgs_cons (qg_name (i:=1) S.nd rfl (Or.inl rfl)) (qgs_cons (qg_name (i:=2) S.nd rfl (Or.inl rfl)) qgs_nil)) (takes_cons1 (takes_cons1 takes_nil)))))
      (qxs_cons (qx_for rfl (qi_enum rfl T.z_enumerate (qa_cons (qe_var 1) qa_nil)) (qg_tup rfl (qgs_cons (qg_name (i:=3) S.nd rfl (Or.inl rfl)) (qgs_cons (qg_name (i:=4) S.nd rfl (Or.inl rfl)) qgs_nil)) (takes_cons1 (takes_cons1 takes_nil))) (qxs_one (qx_if (qt_not (qt_val (qe_call (G_q12) (hr.mono (by decide)) rfl T.m_q12 T.k_q12 T.b_q12 (qk_s (qe_var 4) (qk_s qe_int (qk_s (qe_var 3) qk_nil)))))) (qxs_one (qx_raise1 (oki_q31 T) (hr.mono (by decide)) T.bi_q31 T.x_q31 T.fi_q31 T.kc_q31 rfl T.m_q31 (qa_cons qe_str (qa_cons (qe_var 3) qa_nil)))) qxs_nil)))
      (qxs_one (qx_for rfl (qi_enum rfl T.z_enumerate (qa_cons (qe_var 2) qa_nil)) (qg_tup rfl (qgs_cons (qg_name (i:=3) S.nd rfl (Or.inl rfl)) (qgs_cons (qg_name (i:=5) S.nd rfl (Or.inl rfl)) qgs_nil)) (takes_cons1 (takes_cons1 takes_nil))) (qxs_one (qx_if (qt_not (qt_val (qe_call (G_q12) (hr.mono (by decide)) rfl T.m_q12 T.k_q12 T.b_q12 (qk_s (qe_var 5) (qk_s qe_int (qk_s (qe_globI (i:=1000000) rfl T.c_MOST_ROOM) qk_nil)))))) (qxs_one (qx_raise1 (oki_q31 T) (hr.mono (by decide)) T.bi_q31 T.x_q31 T.fi_q31 T.kc_q31 rfl T.m_q31 (qa_cons qe_str (qa_cons (qe_var 3) qa_nil)))) qxs_nil))))))),fun ds q qx h => ?_⟩
  case hl => intro ds q qx h; obtain ⟨d,rfl,_⟩:=h; rfl
  obtain ⟨d,rfl,hp,q0,x0⟩:=h
  refine ⟨d,rfl,hp,?_⟩
  cases hT:twoL d with
  | false => exact ⟨rfl,fmt2 (fmt_str (by decide)) fmt_non,x0 _ _ (treeErr_no hT)⟩
  | true =>
    obtain ⟨ps,rs,rfl,hl,h1,h2⟩:=twoL_shape hT
    rw [treeErr_two hT] at q0 x0
    rw [pln,plns_cons,plns_cons,pln,pln] at hp
    refine ⟨fun i ρ => ∃ v1 v2 v3,ρ = [some (.tup [.lst ps,.lst rs]),some (.lst ps),some (.lst rs),v1,v2,v3] ∧ firstBad fPar ps 0 = firstBad fPar (ps.drop i) i,⟨_,_,_,rfl,rfl⟩,?_,?_⟩
    · rintro i d ρ hd ⟨v1,v2,v3,rfl,hf⟩
      obtain ⟨d',hd',rfl⟩:=enuD_at hd
      have hi:i < ps.length:=(List.getElem?_eq_some_iff.mp hd').1
      refine ⟨d',0,(i:Int),rfl,pln_isS (plns_at hp.1 hd'),?_⟩
      rw [firstBad_step hd'] at hf
      cases hb:btw 0 (i:Int) d' with
      | true =>
        rw [if_pos (show fPar i d' = true from hb)] at hf
        exact ⟨_,_,_,rfl,hf⟩
      | false =>
        rw [if_neg (show ¬ fPar i d' = true by show ¬ btw 0 (i:Int) d' = true; rw [hb]; decide)] at hf
        exact ⟨rfl,fmt2 (fmt_str (by decide)) (fmt_nat (Nat.lt_trans (show i < 23 by exact zo154 hl h1 h2 hi) (by decide))),x0 _ _ (by rw [hf])⟩
    · rintro ρ ⟨v1,v2,v3,rfl,hf⟩
      rw [show (enuD ps).length = ps.length by simp [enuD],List.drop_length] at hf
      have hf:firstBad fPar ps 0 = none:=hf
      rw [hf] at q0 x0
      refine ⟨fun i ρ => ∃ v1 v2 v3,ρ = [some (.tup [.lst ps,.lst rs]),some (.lst ps),some (.lst rs),v1,v2,v3] ∧ firstBad fRoom rs 0 = firstBad fRoom (rs.drop i) i,⟨_,_,_,rfl,rfl⟩,?_,?_⟩
      · rintro i d ρ hd ⟨v1,v2,v3,rfl,hg⟩
        obtain ⟨d',hd',rfl⟩:=enuD_at hd
        have hi:i < rs.length:=(List.getElem?_eq_some_iff.mp hd').1
        refine ⟨d',1,1000000,rfl,pln_isS (plns_at hp.2.1 hd'),?_⟩
        rw [firstBad_step hd'] at hg
        cases hb:btw 1 1000000 d' with
        | true =>
          rw [if_pos (show fRoom i d' = true from hb)] at hg
          exact ⟨_,_,_,rfl,hg⟩
        | false =>
          rw [if_neg (show ¬ fRoom i d' = true by show ¬ btw 1 1000000 d' = true; rw [hb]; decide)] at hg
          exact ⟨rfl,fmt2 (fmt_str (by decide)) (fmt_nat (Nat.lt_trans (show i < 23 by exact zo160 hl h1 h2 hi) (by decide))),x0 _ _ (by rw [hg])⟩
      · rintro ρ ⟨v1,v2,v3,rfl,hg⟩
        rw [show (enuD rs).length = rs.length by simp [enuD],List.drop_length] at hg
        have hg:firstBad fRoom rs 0 = none:=hg
        rw [hg] at q0
        exact q0 rfl
theorem ok_q7 (T:Txt K mg A):FnOk P w K mg base CX0 3 A.f_q7 A.d_q7 ["thing"] (spOf [false] false (sdLook)):=by
  have G_q3:=ok_q3 (P:=P) (w:=w) (base:=base) T
  have G_q12:=ok_q12 (P:=P) (w:=w) (base:=base) T
  have S:=sc_q7
  refine fnD T.F_q7 S ⟨[false],[false,false,false,false,false,false],false⟩ _ ?hl rfl rfl fun cdv Ar outer s H E hr => ⟨_,(qss_cons (qs_if (qt_not (qt_val (qe_call (G_q3) (hr.mono (by decide)) rfl T.m_q3 T.k_q3 T.b_q3 (qk_s (qe_var 0) qk_nil)))) (qss_one qs_never) qss_nil)
      (qss_cons (qs_asg (qe_var 0) (qg_tup rfl (qgs_cons (qg_name (i:=1) S.nd rfl (Or.inl rfl)) (qgs_cons (qg_name (i:=2) S.nd rfl (Or.inl rfl)) qgs_nil)) (takes_cons1 (takes_cons1 takes_nil))))
      (qss_cons (qs_for PassesOwn.never rfl (qi_enum rfl T.z_enumerate (qa_cons (qe_var 1) qa_nil)) (qg_tup rfl (qgs_cons (qg_name (i:=3) S.nd rfl (Or.inl rfl)) (qgs_cons (qg_name (i:=4) S.nd rfl (Or.inl rfl)) qgs_nil)) (takes_cons1 (takes_cons1 takes_nil))) (qss_one (qs_if (qt_not (qt_val (qe_call (G_q12) (hr.mono (by decide)) rfl T.m_q12 T.k_q12 T.b_q12 (qk_s (qe_var 4) (qk_s qe_int (qk_s (qe_var 3) qk_nil)))))) (qss_one qs_never) qss_nil)))
      (qss_one (qs_for PassesOwn.never rfl (qi_enum rfl T.z_enumerate (qa_cons (qe_var 2) qa_nil)) (qg_tup rfl (qgs_cons (qg_name (i:=3) S.nd rfl (Or.inl rfl)) (qgs_cons (qg_name (i:=5) S.nd rfl (Or.inl rfl)) qgs_nil)) (takes_cons1 (takes_cons1 takes_nil))) (qss_one (qs_if (qt_not (qt_val (qe_call (G_q12) (hr.mono (by decide)) rfl T.m_q12 T.k_q12 T.b_q12 (qk_s (qe_var 5) (qk_s qe_int (qk_s (qe_globI (i:=1000000) rfl T.c_MOST_ROOM) qk_nil)))))) (qss_one qs_never) qss_nil))))))),fun ds q h => ?_⟩
  case hl => intro ds q h; obtain ⟨ps,rs,rfl,_⟩:=h; rfl
  obtain ⟨ps,rs,rfl,hT,q0⟩:=h
  refine ⟨dPair ps rs,rfl,pln_pair ps rs,?_⟩
  rw [twoL_pair hT]
  refine ⟨fun _ ρ => ∃ v1 v2 v3,ρ = [some (dPair ps rs),some (dInts ps),some (dInts rs),v1,v2,v3],⟨_,_,_,rfl⟩,?_,?_⟩
  · rintro i d ρ hd ⟨v1,v2,v3,rfl⟩
    obtain ⟨d',h1,rfl⟩:=enuD_at hd
    obtain ⟨z,hz,rfl⟩:=map_at h1
    have hb:=hT.par i z hz
    refine ⟨.int z,0,(i:Int),rfl,rfl,?_⟩
    rw [btw_int hb.1 hb.2]
    exact ⟨_,_,_,rfl⟩
  · rintro ρ ⟨v1,v2,v3,rfl⟩
    refine ⟨fun _ ρ => ∃ v1 v2 v3,ρ = [some (dPair ps rs),some (dInts ps),some (dInts rs),v1,v2,v3],⟨_,_,_,rfl⟩,?_,?_⟩
    · rintro i d ρ hd ⟨v1,v2,v3,rfl⟩
      obtain ⟨d',h1,rfl⟩:=enuD_at hd
      obtain ⟨z,hz,rfl⟩:=map_at h1
      have hb:=hT.room i z hz
      refine ⟨.int z,1,1000000,rfl,rfl,?_⟩
      rw [btw_int hb.1 hb.2]
      exact ⟨_,_,_,rfl⟩
    · rintro ρ ⟨v1,v2,v3,rfl⟩
      exact q0
theorem ok_q20 (T:Txt K mg A):FnOk P w K mg base CX0 3 A.f_q20 A.d_q20 ["tree","thing"] (spOf [false,false] false (sdPlace)):=by
  have G_q12:=ok_q12 (P:=P) (w:=w) (base:=base) T
  have S:=sc_q20
  refine fnD T.F_q20 S ⟨[false,false],[false,false],false⟩ _ ?hl rfl rfl fun cdv Ar outer s H E hr => ⟨_,(qss_one (qs_ret (qe_call (G_q12) (hr.mono (by decide)) rfl T.m_q12 T.k_q12 T.b_q12 (qk_s (qe_var 1) (qk_s qe_int (qk_s (qe_callB call_len_seq dLen rfl T.z_len bt_len (qa_cons (qe_ix ix_seq dIx (qe_var 0) qe_int (fun _ _ => rfl)) qa_nil)) qk_nil)))))),fun ds q h => ?_⟩
  case hl => intro ds q h; obtain ⟨ps,rs,d,rfl,_⟩:=h; rfl
  obtain ⟨ps,rs,d,rfl,hs,q0⟩:=h
  refine ⟨d,0,((ps.map D.int).length:Int),rfl,hs,?_⟩
  rw [List.length_map]; exact q0
theorem ok_q17 (T:Txt K mg A):FnOk P w K mg base CX0 4 A.f_q17 A.d_q17 ["tree","one","other"] (spOf [false,false,false] false (sdEndsD)):=by
  have G_q20:=ok_q20 (P:=P) (w:=w) (base:=base) T
  have S:=sc_q17
  refine fnD T.F_q17 S ⟨[false,false,false],[false,false,false],false⟩ _ ?hl rfl rfl fun cdv Ar outer s H E hr => ⟨_,(qss_one (qs_ret (qe_and (qe_call (G_q20) (hr.mono (by decide)) rfl T.m_q20 T.k_q20 T.b_q20 (qk_s (qe_var 0) (qk_s (qe_var 1) qk_nil))) (qe_and (qe_call (G_q20) (hr.mono (by decide)) rfl T.m_q20 T.k_q20 T.b_q20 (qk_s (qe_var 0) (qk_s (qe_var 2) qk_nil))) (qe_one (qe_cmp (op_neD hr.units) dNe (qe_var 1) (qe_var 2) (nomark _))))))),fun ds q h => ?_⟩
  case hl => intro ds q h; obtain ⟨ps,rs,a,b,rfl,_⟩:=h; rfl
  obtain ⟨ps,rs,a,b,rfl,ha,hb,q0⟩:=h
  refine ⟨ps,rs,a,rfl,pln_isS ha,?_⟩
  unfold endsB at q0
  cases h1:btw 0 ps.length a with
  | false => rw [h1,Bool.false_and] at q0; exact q0
  | true =>
    rw [h1,Bool.true_and] at q0
    refine ⟨ps,rs,b,rfl,pln_isS hb,?_⟩
    cases h2:btw 0 ps.length b with
    | false => rw [h2,Bool.false_and] at q0; exact q0
    | true =>
      rw [h2,Bool.true_and] at q0
      obtain ⟨i,rfl,_⟩:=btw_shape h1
      obtain ⟨j,rfl,_⟩:=btw_shape h2
      exact q0
theorem ok_q5 (T:Txt K mg A):FnOk P w K mg base CX0 5 A.f_q5 A.d_q5 ["tree","one","other"] (spOf [false,false,false] false (sdLookEnds)):=by
  have G_q17:=ok_q17 (P:=P) (w:=w) (base:=base) T
  have G_q7:=ok_q7 (P:=P) (w:=w) (base:=base) T
  have S:=sc_q5
  refine fnD T.F_q5 S ⟨[false,false,false],[false,false,false],false⟩ _ ?hl rfl rfl fun cdv Ar outer s H E hr => ⟨_,(qss_cons (qs_expr (qe_call (G_q7) (hr.mono (by decide)) rfl T.m_q7 T.k_q7 T.b_q7 (qk_s (qe_var 0) qk_nil)))
      (qss_one (qs_if (qt_not (qt_val (qe_call (G_q17) (hr.mono (by decide)) rfl T.m_q17 T.k_q17 T.b_q17 (qk_s (qe_var 0) (qk_s (qe_var 1) (qk_s (qe_var 2) qk_nil)))))) (qss_one qs_never) qss_nil))),fun ds q h => ?_⟩
  case hl => intro ds q h; obtain ⟨ps,rs,a,b,rfl,_⟩:=h; rfl
  obtain ⟨ps,rs,a,b,rfl,hT,he,q0⟩:=h
  refine ⟨ps,rs,rfl,hT,?_⟩
  refine ⟨ps,rs,.int a,.int b,rfl,rfl,rfl,?_⟩
  rw [endsB_to he]
  exact q0
theorem ok_q40 (T:Txt K mg A):FnOk P w K mg base CX0 1 A.f_q40 A.d_q40 ["tree","one","other"] (spOf [false,false,false] true (sdClimb)):=by
  have S:=sc_q40
  refine fnD T.F_q40 S ⟨[false,false,false],[false,false,false,true,false],true⟩ _ ?hl rfl rfl fun cdv Ar outer s H E hr => ⟨_,(qss_cons (qs_setO (i:=3) S.nd rfl (Or.inl rfl) (qf_lst qa_nil))
      (qss_cons (qs_while PassesOwn.never (qt_cmp (op_neD hr.units) dNe (qe_var 1) (qe_var 2) (nomark _)) (qss_cons (qs_set (i:=4) S.nd rfl (Or.inl rfl) (qe_callB (call_max2 rfl) dMax rfl T.z_max bt_max (qa_cons (qe_var 1) (qa_cons (qe_var 2) qa_nil))))
      (qss_cons (qs_append (i:=3) rfl (QE.qf (qe_var 4)))
      (qss_one (qs_par (i:=1) (j:=2) rfl S.nd rfl rfl (by decide) rfl rfl (qe_callB (call_min2 rfl) dMin rfl T.z_min bt_min (qa_cons (qe_var 1) (qa_cons (qe_var 2) qa_nil))) (qe_ix ix_seq dIx (qe_ix ix_seq dIx (qe_var 0) qe_int (fun _ _ => rfl)) (qe_op op_sub dI (qe_var 4) qe_int) (fun _ _ => rfl)) rfl)))))
      (qss_one (qs_retM (qm_tup (qms_cons (QF.qm (QF.bor [3] (qf_callB call_sortedI dSortI rfl T.z_sorted bt_sorted (qa_cons (qe_var 3) qa_nil)))) (qms_cons (QF.qm (QE.qf (qe_var 1))) qms_nil))))))),fun ds q h => ?_⟩
  case hl => intro ds q h; obtain ⟨ps,rs,a,b,rfl,_⟩:=h; rfl
  obtain ⟨ps,rs,a,b,rfl,hT,a0,a1,b0,b1,q0⟩:=h
  refine ⟨rfl,?_⟩
  refine ⟨fun k ρ => ∃ a' b' acc v,ρ = [some (dPair ps rs),some (.int a'),some (.int b'),some (dInts acc),v] ∧ 0 ≤ a' ∧ a' ≤ ps.length ∧ 0 ≤ b' ∧ b' ≤ ps.length ∧ k = (a' + b').toNat ∧ acc.length + (a' + b').toNat ≤ 46 ∧ (∀ w m,Climb ps a' b' w m → Climb ps a b (acc ++ w) m),⟨_,a,b,[],_,rfl,a0,a1,b0,b1,rfl,by have:=hT.hi; simp; exact zo178 a1 b1 this,fun w m h => h⟩,?_⟩
  rintro k ρ ⟨a',b',acc,v,rfl,a0',a1',b0',b1',rfl,hl,hc⟩
  have hi:=hT.hi
  refine (ite2 (c:=(!decide (a' = b')) = true) (fun c => ?_) (fun c => ?_))
  · have hne:a' ≠ b':=by simpa using c
    have key:∀ (low hig:Int),low = (if b' > a' then b' else a') → hig = (if b' < a' then b' else a') → 0 < low ∧ low ≤ ps.length ∧ 0 ≤ hig ∧ hig ≤ ps.length ∧ low + hig = a' + b' ∧ (∀ w m,Climb ps hig (parZ ps low) w m → Climb ps a' b' (low :: w) m):=by
      intro low hig e1 e2
      by_cases hlt:b' < a'
      · rw [if_neg (by exact zo230 hlt)] at e1; rw [if_pos hlt] at e2; subst e1; subst e2
        exact ⟨by exact zo82 a0' b0' hlt,a1',b0',b1',by exact zo263,fun w m h => .left hlt h⟩
      · rw [if_pos (by exact zo96 hne hlt)] at e1; rw [if_neg hlt] at e2; subst e1; subst e2
        exact ⟨by exact zo95 b0' a0' hne hlt,b1',a0',a1',by exact zo235,fun w m h => .right (by exact zo147 hne hlt) h⟩
    obtain ⟨L,hL⟩:∃ L,L = (if b' > a' then b' else a'):=⟨_,rfl⟩
    obtain ⟨J,hJ⟩:∃ J,J = (if b' < a' then b' else a'):=⟨_,rfl⟩
    obtain ⟨k1,k2,k3,k4,k5,k6⟩:=key L J hL hJ
    have hp:=hT.up k1 k2
    refine ⟨rfl,?_⟩
    refine ⟨by show (acc.map D.int).length < 1000; rw [List.length_map]; exact zo6 hl hne hL hJ k5,?_⟩
    refine atD_of (atI_ints (by rw [← hL]; exact zo132 hL k1) (by rw [← hL]; exact zo134 hL k2)) ?_
    refine ⟨(J + parZ ps L).toNat,by exact zo1 a0' a1' hl hi hne hL hJ k3 k4 k5 hp,J,parZ ps L,acc ++ [L],some (.int L),?_,k3,k4,hp.1,by exact zo56 hL k2 hp,rfl,by rw [List.length_append]; show acc.length + 1 + _ ≤ 46; exact zo0 a0' a1' hl hi hne hL hJ k3 k4 k5 hp,fun w m h => by rw [List.append_assoc]; exact hc _ _ (k6 _ _ h)⟩
    show [some (dPair ps rs),some (.int (if b' < a' then b' else a')),some (.int (parZ ps (if b' > a' then b' else a'))),some (D.lst (acc.map D.int ++ [D.int (if b' > a' then b' else a')])),some (.int (if b' > a' then b' else a'))] = _
    rw [← hL,← hJ,dInts,List.map_append]; rfl
  · have:a' = b':=by simpa using c
    subst this
    have hw:=hc [] a' (.same a')
    rw [List.append_nil] at hw
    have hln:=hw.len hT a0 b0 a1 b1
    refine ⟨acc,rfl,by exact zo124 a1 b1 hi hln,imms_ints _,rfl,?_⟩
    exact q0 acc a' hw
theorem ok_q9 (T:Txt K mg A):FnOk P w K mg base CX0 6 A.f_q9 A.d_q9 ["tree","one","other"] (spOf [false,false,false] true (sdWay)):=by
  have G_q40:=ok_q40 (P:=P) (w:=w) (base:=base) T
  have G_q5:=ok_q5 (P:=P) (w:=w) (base:=base) T
  have S:=sc_q9
  refine fnD T.F_q9 S ⟨[false,false,false],[false,false,false,true,false],true⟩ _ ?hl rfl rfl fun cdv Ar outer s H E hr => ⟨_,(qss_cons (qs_expr (qe_call (G_q5) (hr.mono (by decide)) rfl T.m_q5 T.k_q5 T.b_q5 (qk_s (qe_var 0) (qk_s (qe_var 1) (qk_s (qe_var 2) qk_nil)))))
      (qss_cons (qs_asgF rfl (QF.qm (qf_call (G_q40) (hr.mono (by decide)) rfl T.m_q40 T.k_q40 T.b_q40 (qk_s (qe_var 0) (qk_s (qe_var 1) (qk_s (qe_var 2) qk_nil))))) (qgf_own (i:=3) S.nd rfl (Or.inl rfl) (qgf_sh (i:=4) S.nd rfl (Or.inl rfl) qgf_nil)) (takes_cons1 (takes_cons1 takes_nil)))
      (qss_one (qs_retM (qm_move 3))))),fun ds q h => ?_⟩
  case hl => intro ds q h; obtain ⟨ps,rs,a,b,rfl,_⟩:=h; rfl
  obtain ⟨ps,rs,a,b,rfl,hT,he,q0⟩:=h
  refine ⟨ps,rs,a,b,rfl,hT,he,?_⟩
  refine ⟨ps,rs,a,b,rfl,hT,he.a0,he.a1,he.b0,he.b1,fun w m hw => ?_⟩
  exact q0 w m hw
theorem ok_q39 (T:Txt K mg A):FnOk P w K mg base CX0 7 A.f_q39 A.d_q39 ["tree","ask"] (spOf [false,false] true (sdWayOf)):=by
  have G_q9:=ok_q9 (P:=P) (w:=w) (base:=base) T
  have S:=sc_q39
  refine fnD T.F_q39 S ⟨[false,false],[false,false],true⟩ _ ?hl rfl rfl fun cdv Ar outer s H E hr => ⟨_,(qss_one (qs_retM (QF.qm (qf_call (G_q9) (hr.mono (by decide)) rfl T.m_q9 T.k_q9 T.b_q9 (qk_s (qe_var 0) (qk_s (qe_ix ix_seq dIx (qe_var 1) qe_int (fun _ _ => rfl)) (qk_s (qe_ix ix_seq dIx (qe_var 1) qe_int (fun _ _ => rfl)) qk_nil))))))),fun ds q h => ?_⟩
  case hl => intro ds q h; obtain ⟨ps,rs,a,rfl,_⟩:=h; rfl
  obtain ⟨ps,rs,a,rfl,hT,he,q0⟩:=h
  refine ⟨ps,rs,a.one,a.other,rfl,hT,he,fun w m hw => ?_⟩
  rw [(hw.way hT he.a0 he.b0 he.a1 he.b1).1]
  exact q0
theorem ok_q32 (T:Txt K mg A):FnOk P w K mg base CX0 5 A.f_q32 A.d_q32 ["tree","thing"] (spOf [false,false] false (sdIsAskD)):=by
  have G_q17:=ok_q17 (P:=P) (w:=w) (base:=base) T
  have G_q12:=ok_q12 (P:=P) (w:=w) (base:=base) T
  have S:=sc_q32
  refine fnD T.F_q32 S ⟨[false,false],[false,false,false,false,false,false],false⟩ _ ?hl rfl rfl fun cdv Ar outer s H E hr => ⟨_,(qss_cons (qs_if (QW.qt (qw_or (qt_not (qt_val (qe_isT rfl T.z_isinstance bt_isinstance (qe_var 1) (pe_bltn (v:=.ty "tuple") rfl T.z_tuple bt_tuple rfl)))) (qw_or1 (qt_cmp (op_neD hr.units) dNe (qe_callB call_len_seq dLen rfl T.z_len bt_len (qa_cons (qe_var 1) qa_nil)) qe_int (nomark _))))) (qss_one (qs_ret qe_bl)) qss_nil)
      (qss_cons (qs_asg (qe_var 1) (qg_tup rfl (qgs_cons (qg_name (i:=2) S.nd rfl (Or.inl rfl)) (qgs_cons (qg_name (i:=3) S.nd rfl (Or.inl rfl)) (qgs_cons (qg_name (i:=4) S.nd rfl (Or.inl rfl)) (qgs_cons (qg_name (i:=5) S.nd rfl (Or.inl rfl)) qgs_nil)))) (takes_cons1 (takes_cons1 (takes_cons1 (takes_cons1 takes_nil))))))
      (qss_one (qs_ret (qe_and (qe_call (G_q17) (hr.mono (by decide)) rfl T.m_q17 T.k_q17 T.b_q17 (qk_s (qe_var 0) (qk_s (qe_var 2) (qk_s (qe_var 3) qk_nil)))) (qe_and (qe_call (G_q12) (hr.mono (by decide)) rfl T.m_q12 T.k_q12 T.b_q12 (qk_s (qe_var 4) (qk_s qe_int (qk_s (qe_globI (i:=1000000) rfl T.c_MOST_SIZE) qk_nil)))) (qe_one (qe_call (G_q12) (hr.mono (by decide)) rfl T.m_q12 T.k_q12 T.b_q12 (qk_s (qe_var 5) (qk_s qe_int (qk_s (qe_globI (i:=1000000000000) rfl T.c_MOST_WORTH) qk_nil))))))))))),fun ds q h => ?_⟩
  case hl => intro ds q h; obtain ⟨ps,rs,d,rfl,_⟩:=h; rfl
  obtain ⟨ps,rs,d,rfl,hp,q0⟩:=h
  cases d with
  | tup ds =>
    refine (ite2 (c:=(!decide ((ds.length:Int) = 4)) = true) (fun c => ?_) (fun c => ?_))
    · have:askB ps.length (.tup ds) = false:=by
        cases h:askB ps.length (.tup ds) with
        | false => rfl
        | true =>
          obtain ⟨a,e,_⟩:=askB_of h
          unfold dAsk at e; cases e; simp at c
      rw [this] at q0; exact q0
    · obtain ⟨a,b,s',w',rfl⟩:∃ a b s w,ds = [a,b,s,w]:=by
        have hl:ds.length = 4:=by simp at c; exact zo249 c
        match ds,hl with
        | [a,b,s,w],_ => exact ⟨a,b,s,w,rfl⟩
      rw [pln,plns_cons,plns_cons,plns_cons,plns_cons] at hp
      have e:askB ps.length (.tup [a,b,s',w']) = (endsB ps.length a b && (btw 1 1000000 s' && btw 1 1000000000000 w')):=rfl
      rw [e] at q0
      refine ⟨ps,rs,a,b,rfl,hp.1,hp.2.1,?_⟩
      cases h1:endsB ps.length a b with
      | false => rw [h1,Bool.false_and] at q0; exact q0
      | true =>
        rw [h1,Bool.true_and] at q0
        refine ⟨s',1,1000000,rfl,pln_isS hp.2.2.1,?_⟩
        cases h2:btw 1 1000000 s' with
        | false => rw [h2,Bool.false_and] at q0; exact q0
        | true =>
          rw [h2,Bool.true_and] at q0
          exact ⟨w',1,1000000000000,rfl,pln_isS hp.2.2.2.1,q0⟩
  | _ => first | exact q0 | (rw [pln] at hp; cases hp)
theorem okx_q4 (T:Txt K mg A):FnOk P w K mg base (CX1 P w) 6 A.f_q4 A.d_q4 ["tree","thing"] (spOfX [false,false] false ((sdAsksX A.c_q31 A.c_q29))):=by
  have G_q32:=ok_q32 (P:=P) (w:=w) (base:=base) T
  have GX_q7:=okx_q7 (P:=P) (w:=w) (base:=base) T
  have S:=sc_q4
  refine fnX T.F_q4 S ⟨[false,false],[false,false,false,false],false⟩ _ ?hl rfl rfl fun cdv Ar outer s H E hr => ⟨_,(qxs_cons (qx_drop (qxe_call (GX_q7) (hr.mono (by decide)) rfl T.m_q7 T.k_q7 T.b_q7 (qk_s (qe_var 0) qk_nil)))
      (qxs_cons (qx_if (QW.qt (qw_or (qt_not (qt_val (qe_isT rfl T.z_isinstance bt_isinstance (qe_var 1) (pe_bltn (v:=.ty "list") rfl T.z_list bt_list rfl)))) (qw_or1 (qt_cmp op_gt dB (qe_callB call_len_seq dLen rfl T.z_len bt_len (qa_cons (qe_var 1) qa_nil)) (qe_globI (i:=30) rfl T.c_MOST_ASKS) (nomark _))))) (qxs_one (qx_raise1 (oki_q29 T) (hr.mono (by decide)) T.bi_q29 T.x_q29 T.fi_q29 T.kc_q29 rfl T.m_q29 (qa_cons qe_non qa_nil))) qxs_nil)
      (qxs_one (qx_for rfl (qi_enum rfl T.z_enumerate (qa_cons (qe_var 1) qa_nil)) (qg_tup rfl (qgs_cons (qg_name (i:=2) S.nd rfl (Or.inl rfl)) (qgs_cons (qg_name (i:=3) S.nd rfl (Or.inl rfl)) qgs_nil)) (takes_cons1 (takes_cons1 takes_nil))) (qxs_one (qx_if (qt_not (qt_val (qe_call (G_q32) (hr.mono (by decide)) rfl T.m_q32 T.k_q32 T.b_q32 (qk_s (qe_var 0) (qk_s (qe_var 3) qk_nil))))) (qxs_one (qx_raise1 (oki_q29 T) (hr.mono (by decide)) T.bi_q29 T.x_q29 T.fi_q29 T.kc_q29 rfl T.m_q29 (qa_cons (qe_var 2) qa_nil))) qxs_nil)))))),fun ds q qx h => ?_⟩
  case hl => intro ds q qx h; obtain ⟨t,x,rfl,_⟩:=h; rfl
  obtain ⟨t,x,rfl,h⟩:=h
  rcases h with ⟨p,n,hp,he,x0⟩ | ⟨ps,rs,rfl,hT,hx,h⟩
  · refine ⟨t,rfl,hp,fun z => ?_,fun p' n' z => ?_⟩
    · rw [he] at z; cases z
    · rw [he] at z; cases z; exact x0
  · refine ⟨dPair ps rs,rfl,pln_pair ps rs,fun _ => ?_,fun p' n' z => by rw [treeErr_tree hT] at z; cases z⟩
    have no:(∃ n,some D.non = some n ∧ qx A.c_q29 nNum [n] []) ∨ (some D.non = none ∧ q .non []) → qx A.c_q29 nNum [.non] []:=fun h => by
      rcases h with ⟨n,e,z⟩ | ⟨e,_⟩
      · cases e; exact z
      · cases e
    cases x with
    | lst ds =>
      have e:asksErr ps.length (.lst ds) = if ds.length ≤ 30 then (firstBad (fAsk ps.length) ds 0).map (fun (i:Nat) => D.int i) else some .non:=rfl
      rw [e] at h
      refine (ite2 (c:=decide ((30:Int) < (ds.length:Int)) = true) (fun c => ?_) (fun c => ?_))
      · have c' : ¬ ds.length ≤ 30:=by have:=of_decide_eq_true c; exact zo291 this
        rw [if_neg c'] at h
        exact ⟨rfl,fmt1 fmt_non,no h⟩
      · have c':ds.length ≤ 30:=by have : ¬ ((30:Int) < (ds.length:Int)):=fun z => c (decide_eq_true z); exact zo285 this
        rw [if_pos c'] at h
        rw [pln] at hx
        refine ⟨fun i ρ => ∃ v1 v2,ρ = [some (dPair ps rs),some (.lst ds),v1,v2] ∧ firstBad (fAsk ps.length) ds 0 = firstBad (fAsk ps.length) (ds.drop i) i,⟨_,_,rfl,rfl⟩,?_,?_⟩
        · rintro i d ρ hd ⟨v1,v2,rfl,hf⟩
          obtain ⟨d',hd',rfl⟩:=enuD_at hd
          have hi:i < ds.length:=(List.getElem?_eq_some_iff.mp hd').1
          refine ⟨ps,rs,d',rfl,plns_at hx hd',?_⟩
          rw [firstBad_step hd'] at hf
          cases hb:askB ps.length d' with
          | true =>
            rw [if_pos (show fAsk ps.length i d' = true from hb)] at hf
            exact ⟨_,_,rfl,hf⟩
          | false =>
            rw [if_neg (show ¬ fAsk ps.length i d' = true by show ¬ askB ps.length d' = true; rw [hb]; decide)] at hf
            rw [hf] at h
            refine ⟨rfl,fmt1 (fmt_nat (Nat.lt_trans (show i < 31 by exact zo229 c' hi) (by decide))),?_⟩
            rcases h with ⟨n,e,z⟩ | ⟨e,_⟩
            · cases e; exact z
            · cases e
        · rintro ρ ⟨v1,v2,rfl,hf⟩
          rw [show (enuD ds).length = ds.length by simp [enuD],List.drop_length] at hf
          have hf:firstBad (fAsk ps.length) ds 0 = none:=hf
          rw [hf] at h
          rcases h with ⟨n,e,z⟩ | ⟨_,z⟩
          · cases e
          · exact z
    | _ => first | exact ⟨rfl,fmt1 fmt_non,no h⟩ | (rw [pln] at hx; cases hx)
theorem okx_q6 (T:Txt K mg A):FnOk P w K mg base (CX1 P w) 7 A.f_q6 A.d_q6 ["tree","asks","thing"] (spOfX [false,false,false] false ((sdKeepX A.c_q31 A.c_q29 A.c_q30 hNon))):=by
  have G_q12:=ok_q12 (P:=P) (w:=w) (base:=base) T
  have GX_q4:=okx_q4 (P:=P) (w:=w) (base:=base) T
  have S:=sc_q6
  refine fnX T.F_q6 S ⟨[false,false,false],[false,false,false,false,false,false],false⟩ _ ?hl rfl rfl fun cdv Ar outer s H E hr => ⟨_,(qxs_cons (qx_drop (qxe_call (GX_q4) (hr.mono (by decide)) rfl T.m_q4 T.k_q4 T.b_q4 (qk_s (qe_var 0) (qk_s (qe_var 1) qk_nil))))
      (qxs_cons (qx_if (qt_not (qt_val (qe_isT rfl T.z_isinstance bt_isinstance (qe_var 2) (pe_bltn (v:=.ty "list") rfl T.z_list bt_list rfl)))) (qxs_one (qx_raise1 (oki_q30 T) (hr.mono (by decide)) T.bi_q30 T.x_q30 T.fi_q30 T.kc_q30 rfl T.m_q30 (qa_cons qe_non qa_nil))) qxs_nil)
      (qxs_cons (qx_of (qs_set (i:=3) S.nd rfl (Or.inl rfl) qe_int))
      (qxs_one (qx_for rfl (qi_enum rfl T.z_enumerate (qa_cons (qe_var 2) qa_nil)) (qg_tup rfl (qgs_cons (qg_name (i:=4) S.nd rfl (Or.inl rfl)) (qgs_cons (qg_name (i:=5) S.nd rfl (Or.inl rfl)) qgs_nil)) (takes_cons1 (takes_cons1 takes_nil))) (qxs_cons (qx_if (qt_not (qt_val (qe_call (G_q12) (hr.mono (by decide)) rfl T.m_q12 T.k_q12 T.b_q12 (qk_s (qe_var 5) (qk_s (qe_var 3) (qk_s (qe_op op_sub dI (qe_callB call_len_seq dLen rfl T.z_len bt_len (qa_cons (qe_var 1) qa_nil)) qe_int) qk_nil)))))) (qxs_one (qx_raise1 (oki_q30 T) (hr.mono (by decide)) T.bi_q30 T.x_q30 T.fi_q30 T.kc_q30 rfl T.m_q30 (qa_cons (qe_var 4) qa_nil))) qxs_nil)
      (qxs_one (qx_of (qs_set (i:=3) S.nd rfl (Or.inl rfl) (qe_op op_add dI (qe_var 5) qe_int)))))))))),fun ds q qx h => ?_⟩
  case hl => intro ds q qx h; obtain ⟨t,x,y,rfl,_⟩:=h; rfl
  obtain ⟨t,x,y,rfl,h⟩:=h
  refine ⟨t,x,rfl,?_⟩
  rcases h with h | ⟨ps,rs,rfl,hT,hx,h⟩
  · exact .inl h
  · refine .inr ⟨ps,rs,rfl,hT,hx,?_⟩
    rcases h with h | ⟨as,rfl,ha,hy,hl,h⟩
    · exact .inl h
    · refine .inr ⟨asksErr_ok ha,?_⟩
      cases y with
      | lst ds =>
        have hl:=hl ds rfl
        have hds:keepErr as.length (.lst ds) = (keepBad as.length ds 0 0).map (fun (i:Nat) => D.int i):=rfl
        rw [hds] at h
        rw [pln] at hy
        refine ⟨fun i ρ => ∃ (v1 v2:Option D) (least:Int),ρ = [some (dPair ps rs),some (dAsks as),some (.lst ds),some (.int least),v1,v2] ∧ keepBad as.length ds 0 0 = keepBad as.length (ds.drop i) least i,⟨_,_,0,rfl,rfl⟩,?_,?_⟩
        · rintro i d ρ hd ⟨v1,v2,least,rfl,hf⟩
          obtain ⟨d',hd',rfl⟩:=enuD_at hd
          have hi:i < ds.length:=(List.getElem?_eq_some_iff.mp hd').1
          refine ⟨d',least,((as.map dAsk).length:Int) - 1,rfl,pln_isS (plns_at hy hd'),?_⟩
          rw [len_asks]
          rw [keepBad_step hd'] at hf
          cases hb:btw least ((as.length:Int) - 1) d' with
          | true =>
            rw [if_pos hb] at hf
            obtain ⟨z,rfl,_⟩:=btw_shape hb
            exact ⟨_,_,z + 1,rfl,hf⟩
          | false =>
            rw [if_neg (by rw [hb]; decide)] at hf
            rw [hf] at h
            refine ⟨rfl,fmt1 (fmt_nat (Nat.lt_trans (show i < 10001 by exact zo227 hl hi) (by decide))),?_⟩
            rcases h with ⟨n,e,z⟩ | ⟨ks,_,e,_⟩
            · cases e; exact z
            · cases e
        · rintro ρ ⟨v1,v2,least,rfl,hf⟩
          rw [show (enuD ds).length = ds.length by simp [enuD],List.drop_length] at hf
          have hf:keepBad as.length ds 0 0 = none:=hf
          rw [hf] at h
          rcases h with ⟨n,e,z⟩ | ⟨ks,_,_,_,z⟩
          · cases e
          · exact z
      | _ =>
        first
        | (refine ⟨rfl,fmt1 fmt_non,?_⟩
           rcases h with ⟨n,e,z⟩ | ⟨ks,_,e,_⟩
           · cases e; exact z
           · cases e)
        | (rw [pln] at hy; cases hy)
theorem ok_q1 (T:Txt K mg A):FnOk P w K mg base CX0 1 A.f_q1 A.d_q1 ["number","bottom"] (spOf [false,false] false (sdGcd)):=by
  have S:=sc_q1
  refine fnD T.F_q1 S ⟨[false,false],[false,false],false⟩ _ ?hl rfl rfl fun cdv Ar outer s H E hr => ⟨_,(qss_cons (qs_while PassesOwn.never (qt_cmp (op_neD hr.units) dNe (qe_var 1) qe_int (nomark _)) (qss_one (qs_par (i:=0) (j:=1) rfl S.nd rfl rfl (by decide) rfl rfl (qe_var 1) (qe_op op_mod dIC (qe_var 0) (qe_var 1)) rfl)))
      (qss_one (qs_ret (qe_var 0)))),fun ds q h => ?_⟩
  case hl => intro ds q h; obtain ⟨n,b,rfl,_⟩:=h; rfl
  obtain ⟨n,b,rfl,hb,q0⟩:=h
  refine ⟨fun k ρ => ∃ n' b':Int,ρ = [some (.int n'),some (.int b')] ∧ 0 ≤ b' ∧ b'.toNat = k ∧ gcdP n' b' = gcdP n b,⟨_,n,b,rfl,hb,rfl,rfl⟩,?_⟩
  rintro k ρ ⟨n',b',rfl,hb',hk,hg⟩
  refine (ite2 (c:=(!decide (b' = 0)) = true) (fun c => ?_) (fun c => ?_))
  · have c':b' ≠ 0:=by simpa using c
    have hp : 0 < b':=by exact zo99 hb' c'
    refine ⟨hp,?_⟩
    have:=Int.emod_lt_of_pos n' hp
    have:=Int.emod_nonneg n' (show b' ≠ 0 by exact zo304 c')
    exact ⟨_,by (first|lia|omega),b',n' % b',rfl,by exact zo305 this,rfl,by rw [gcdP_step hp]; exact hg⟩
  · have c':b' = 0:=by simpa using c
    subst c'
    have e:gcdP n b = n':=by rw [← hg]; unfold gcdP; rw [if_pos rfl]
    rw [e] at q0; exact q0
theorem ok_q19 (T:Txt K mg A):FnOk P w K mg base CX0 2 A.f_q19 A.d_q19 ["top","bottom"] (spOf [false,false] false (sdFrac)):=by
  have G_q1:=ok_q1 (P:=P) (w:=w) (base:=base) T
  have G_q23:=ok_q23 (P:=P) (w:=w) (base:=base) T
  have S:=sc_q19
  refine fnD T.F_q19 S ⟨[false,false],[false,false,false],false⟩ _ ?hl rfl rfl fun cdv Ar outer s H E hr => ⟨_,(qss_cons (qs_if (QW.qt (qw_or (qt_not (qt_val (qe_call (G_q23) (hr.mono (by decide)) rfl T.m_q23 T.k_q23 T.b_q23 (qk_s (qe_var 0) qk_nil)))) (qw_or1 (qt_not (qt_val (qe_call (G_q23) (hr.mono (by decide)) rfl T.m_q23 T.k_q23 T.b_q23 (qk_s (qe_var 1) qk_nil))))))) (qss_one qs_never) qss_nil)
      (qss_cons (qs_if (qt_cmp (op_eqD hr.units) dEq (qe_var 1) qe_int (nomark _)) (qss_one qs_never) qss_nil)
      (qss_cons (qs_cut (qs_if (qt_cmp op_lt dB (qe_var 1) qe_int (nomark _)) (qss_one (qs_par (i:=0) (j:=1) rfl S.nd rfl rfl (by decide) rfl rfl (qe_neg (qe_var 0)) (qe_neg (qe_var 1)) rfl)) qss_nil))
      (qss_cons (qs_set (i:=2) S.nd rfl (Or.inl rfl) (qe_call (G_q1) (hr.mono (by decide)) rfl T.m_q1 T.k_q1 T.b_q1 (qk_s (qe_var 0) (qk_s (qe_var 1) qk_nil))))
      (qss_one (qs_ret (qe_tup (qa_cons (qe_op op_fdivB dIC (qe_var 0) (qe_var 2)) (qa_cons (qe_op op_fdivB dIC (qe_var 1) (qe_var 2)) qa_nil))))))))),fun ds q h => ?_⟩
  case hl => intro ds q h; obtain ⟨t,b,rfl,_⟩:=h; rfl
  obtain ⟨t,b,rfl,hb,hs,q0⟩:=h
  refine ⟨.int t,rfl,rfl,?_⟩
  refine ⟨.int b,rfl,rfl,?_⟩
  refine (ite2 (c:=decide (b = 0) = true) (fun c => absurd (of_decide_eq_true c) hb) (fun _ => ?_))
  refine ⟨fun ρ => ∃ t' b':Int,ρ = [some (.int t'),some (.int b'),none] ∧ 0 < b' ∧ Sm b' ∧ Rat.divInt t' b' = Rat.divInt t b,?_,?_⟩
  · refine (ite2 (c:=decide (b < 0) = true) (fun c => ?_) (fun c => ?_))
    · have c':b < 0:=by simpa using c
      exact ⟨-t,-b,rfl,by exact zo284 c',by show (-b).natAbs < _; rw [Int.natAbs_neg]; exact hs,Rat.neg_divInt_neg t b⟩
    · have c' : ¬ b < 0:=by simpa using c
      exact ⟨t,b,rfl,by exact zo248 hb c',hs,rfl⟩
  · rintro ρ ⟨t',b',rfl,hp,hs',he⟩
    refine ⟨t',b',rfl,Int.le_of_lt hp,?_⟩
    have g:=gcdP_pos (n:=t') hp
    have gl:=gcdP_le (n:=t') hp
    have gs:Sm (gcdP t' b'):=by show (gcdP t' b').natAbs < _; exact Nat.lt_of_le_of_lt (by (first|lia|omega)) hs'
    refine ⟨⟨g,gs⟩,⟨g,gs⟩,?_⟩
    rw [quo_num hp,quo_den hp,he]
    exact q0
theorem ok_q8 (T:Txt K mg A):FnOk P w K mg base CX0 2 A.f_q8 A.d_q8 ["thing"] (spOf [false] false (sdFrD)):=by
  have G_q1:=ok_q1 (P:=P) (w:=w) (base:=base) T
  have G_q23:=ok_q23 (P:=P) (w:=w) (base:=base) T
  have S:=sc_q8
  refine fnD T.F_q8 S ⟨[false],[false,false,false],false⟩ _ ?hl rfl rfl fun cdv Ar outer s H E hr => ⟨_,(qss_cons (qs_if (QW.qt (qw_or (qt_not (qt_val (qe_isT rfl T.z_isinstance bt_isinstance (qe_var 0) (pe_bltn (v:=.ty "tuple") rfl T.z_tuple bt_tuple rfl)))) (qw_or1 (qt_cmp (op_neD hr.units) dNe (qe_callB call_len_seq dLen rfl T.z_len bt_len (qa_cons (qe_var 0) qa_nil)) qe_int (nomark _))))) (qss_one (qs_ret qe_bl)) qss_nil)
      (qss_cons (qs_asg (qe_var 0) (qg_tup rfl (qgs_cons (qg_name (i:=1) S.nd rfl (Or.inl rfl)) (qgs_cons (qg_name (i:=2) S.nd rfl (Or.inl rfl)) qgs_nil)) (takes_cons1 (takes_cons1 takes_nil))))
      (qss_cons (qs_if (QW.qt (qw_or (qt_not (qt_val (qe_call (G_q23) (hr.mono (by decide)) rfl T.m_q23 T.k_q23 T.b_q23 (qk_s (qe_var 1) qk_nil)))) (qw_or1 (qt_not (qt_val (qe_call (G_q23) (hr.mono (by decide)) rfl T.m_q23 T.k_q23 T.b_q23 (qk_s (qe_var 2) qk_nil))))))) (qss_one (qs_ret qe_bl)) qss_nil)
      (qss_one (qs_ret (qe_and (qe_cmp op_ge dB (qe_var 2) qe_int (nomark _)) (qe_one (qe_cmp (op_eqD hr.units) dEq (qe_call (G_q1) (hr.mono (by decide)) rfl T.m_q1 T.k_q1 T.b_q1 (qk_s (qe_var 1) (qk_s (qe_var 2) qk_nil))) qe_int (nomark _))))))))),fun ds q h => ?_⟩
  case hl => intro ds q h; obtain ⟨d,rfl,_⟩:=h; rfl
  obtain ⟨d,rfl,hp,q0⟩:=h
  cases d with
  | tup ds =>
    refine (ite2 (c:=(!decide ((ds.length:Int) = 2)) = true) (fun c => ?_) (fun c => ?_))
    · have:frB (.tup ds) = false:=by
        unfold frB; split
        · rename_i e; cases e; simp at c
        · rfl
      rw [this] at q0; exact q0
    · obtain ⟨x,y,rfl⟩:∃ x y,ds = [x,y]:=by
        have hl:ds.length = 2:=by simp at c; exact zo139 c
        match ds,hl with
        | [a,b],_ => exact ⟨a,b,rfl⟩
      rw [pln,plns_cons,plns_cons] at hp
      refine ⟨x,rfl,pln_isS hp.1,?_⟩
      cases x with
      | int t =>
        refine ⟨y,rfl,pln_isS hp.2.1,?_⟩
        cases y with
        | int b =>
          have e:frB (.tup [.int t,.int b]) = (decide (1 ≤ b) && decide (gcdP t b = 1)):=rfl
          rw [e] at q0
          refine (ite2 (c:=decide (1 ≤ b) = true) (fun c => ?_) (fun c => ?_))
          · have hb : 1 ≤ b:=of_decide_eq_true c
            refine ⟨t,b,rfl,by exact zo290 hb,?_⟩
            rw [c,Bool.true_and] at q0; exact q0
          · rw [Bool.eq_false_iff.mpr c,Bool.false_and] at q0; exact q0
        | _ => first | exact q0 | (have:=hp.2.1; rw [pln] at this; cases this)
      | _ => first | exact q0 | (have:=hp.1; rw [pln] at this; cases this)
  | _ => first | exact q0 | (rw [pln] at hp; cases hp)
theorem ok_q21 (T:Txt K mg A):FnOk P w K mg base CX0 3 A.f_q21 A.d_q21 ["thing"] (spOf [false] false (sdPrD)):=by
  have G_q8:=ok_q8 (P:=P) (w:=w) (base:=base) T
  have S:=sc_q21
  refine fnD T.F_q21 S ⟨[false],[false],false⟩ _ ?hl rfl rfl fun cdv Ar outer s H E hr => ⟨_,(qss_one (qs_ret (qe_and (qe_call (G_q8) (hr.mono (by decide)) rfl T.m_q8 T.k_q8 T.b_q8 (qk_s (qe_var 0) qk_nil)) (qe_one (qe_cmp op_ge dB (qe_ix ix_seq dIx (qe_var 0) qe_int (fun _ _ => rfl)) qe_int (nomark _)))))),fun ds q h => ?_⟩
  case hl => intro ds q h; obtain ⟨d,rfl,_⟩:=h; rfl
  obtain ⟨d,rfl,hp,q0⟩:=h
  refine ⟨d,rfl,hp,?_⟩
  cases hf:frB d with
  | false =>
    have:prB d = false:=by
      unfold prB frB at *; split at hf
      · rename_i t b; show ((decide (1 ≤ b) && decide (gcdP t b = 1)) && decide (0 ≤ t)) = false; rw [hf]; rfl
      · rfl
    rw [this] at q0; exact q0
  | true =>
    obtain ⟨t,b,rfl⟩:∃ t b,d = .tup [.int t,.int b]:=by
      unfold frB at hf; split at hf
      · exact ⟨_,_,rfl⟩
      · cases hf
    have e:prB (.tup [.int t,.int b]) = (frB (.tup [.int t,.int b]) && decide (0 ≤ t)):=rfl
    rw [e,hf,Bool.true_and] at q0
    exact q0
theorem okx_q2 (T:Txt K mg A):FnOk P w K mg base (CX1 P w) 4 A.f_q2 A.d_q2 ["tree","thing"] (spOfX [false,false] false ((sdPricesX A.c_q31 A.c_q16))):=by
  have G_q21:=ok_q21 (P:=P) (w:=w) (base:=base) T
  have GX_q7:=okx_q7 (P:=P) (w:=w) (base:=base) T
  have S:=sc_q2
  refine fnX T.F_q2 S ⟨[false,false],[false,false,false,false,false],false⟩ _ ?hl rfl rfl fun cdv Ar outer s H E hr => ⟨_,(qxs_cons (qx_drop (qxe_call (GX_q7) (hr.mono (by decide)) rfl T.m_q7 T.k_q7 T.b_q7 (qk_s (qe_var 0) qk_nil)))
      (qxs_cons (qx_if (qt_not (qt_val (qe_isT rfl T.z_isinstance bt_isinstance (qe_var 1) (pe_bltn (v:=.ty "list") rfl T.z_list bt_list rfl)))) (qxs_one (qx_raise1 (oki_q16 T) (hr.mono (by decide)) T.bi_q16 T.x_q16 T.fi_q16 T.kc_q16 rfl T.m_q16 (qa_cons qe_non qa_nil))) qxs_nil)
      (qxs_cons (qx_of (qs_set (i:=2) S.nd rfl (Or.inl rfl) (qe_callB call_len_seq dLen rfl T.z_len bt_len (qa_cons (qe_ix ix_seq dIx (qe_var 0) qe_int (fun _ _ => rfl)) qa_nil))))
      (qxs_cons (qx_for rfl (qi_enum rfl T.z_enumerate (qa_cons (qe_slice (qe_var 1) qo_none (qo_some (qe_var 2))) qa_nil)) (qg_tup rfl (qgs_cons (qg_name (i:=3) S.nd rfl (Or.inl rfl)) (qgs_cons (qg_name (i:=4) S.nd rfl (Or.inl rfl)) qgs_nil)) (takes_cons1 (takes_cons1 takes_nil))) (qxs_one (qx_if (qt_not (qt_val (qe_call (G_q21) (hr.mono (by decide)) rfl T.m_q21 T.k_q21 T.b_q21 (qk_s (qe_var 4) qk_nil)))) (qxs_one (qx_raise1 (oki_q16 T) (hr.mono (by decide)) T.bi_q16 T.x_q16 T.fi_q16 T.kc_q16 rfl T.m_q16 (qa_cons (qe_var 3) qa_nil))) qxs_nil)))
      (qxs_one (qx_if (qt_cmp (op_neD hr.units) dNe (qe_callB call_len_seq dLen rfl T.z_len bt_len (qa_cons (qe_var 1) qa_nil)) (qe_var 2) (nomark _)) (qxs_one (qx_raise1 (oki_q16 T) (hr.mono (by decide)) T.bi_q16 T.x_q16 T.fi_q16 T.kc_q16 rfl T.m_q16 (qa_cons (qe_callB (call_min2 rfl) dMin rfl T.z_min bt_min (qa_cons (qe_callB call_len_seq dLen rfl T.z_len bt_len (qa_cons (qe_var 1) qa_nil)) (qa_cons (qe_var 2) qa_nil))) qa_nil))) qxs_nil)))))),fun ds q qx h => ?_⟩
  case hl => intro ds q qx h; obtain ⟨t,x,rfl,_⟩:=h; rfl
  obtain ⟨t,x,rfl,h⟩:=h
  rcases h with ⟨p,n,hp,he,x0⟩ | ⟨ps,rs,rfl,hT,hx,hlen,h⟩
  · refine ⟨t,rfl,hp,fun z => ?_,fun p' n' z => ?_⟩
    · rw [he] at z; cases z
    · rw [he] at z; cases z; exact x0
  · refine ⟨dPair ps rs,rfl,pln_pair ps rs,fun _ => ?_,fun p' n' z => by rw [treeErr_tree hT] at z; cases z⟩
    have hti:=hT.hi
    cases x with
    | lst ds =>
      have hl:=hlen ds rfl
      rw [pln] at hx
      have e:pricesErr ps.length (.lst ds) = (match firstBad fPr (ds.take ps.length) 0 with | some i => some (.int i) | none => if ds.length = ps.length then none else some (.int (min ds.length ps.length:Nat))):=rfl
      rw [e] at h
      have ec:cutD ds none (some ((ps.map D.int).length:Int)) = ds.take ps.length:=by rw [cutD_take (by exact zo54),Int.toNat_natCast,List.length_map]
      show ∃ I:Nat → DSt → Prop,_
      rw [ec]
      have htl:(ds.take ps.length).length ≤ 23:=Nat.le_trans (List.length_take_le ..) hti
      refine ⟨fun i ρ => ∃ v1 v2,ρ = [some (dPair ps rs),some (.lst ds),some (.int ((ps.map D.int).length:Int)),v1,v2] ∧ firstBad fPr (ds.take ps.length) 0 = firstBad fPr ((ds.take ps.length).drop i) i,⟨_,_,rfl,rfl⟩,?_,?_⟩
      · rintro i d ρ hd ⟨v1,v2,rfl,hf⟩
        obtain ⟨d',hd',rfl⟩:=enuD_at hd
        have hi:i < (ds.take ps.length).length:=(List.getElem?_eq_some_iff.mp hd').1
        refine ⟨d',rfl,plns_at (plns_take hx ps.length) hd',?_⟩
        rw [firstBad_step hd'] at hf
        cases hb:prB d' with
        | true =>
          rw [if_pos (show fPr i d' = true from hb)] at hf
          exact ⟨_,_,rfl,hf⟩
        | false =>
          rw [if_neg (show ¬ fPr i d' = true by show ¬ prB d' = true; rw [hb]; decide)] at hf
          rw [hf] at h
          refine ⟨rfl,fmt1 (fmt_nat (Nat.lt_trans (show i < 31 by exact zo189 htl hi) (by decide))),?_⟩
          rcases h with ⟨n,e,z⟩ | ⟨e,_⟩
          · cases e; exact z
          · cases e
      · rintro ρ ⟨v1,v2,rfl,hf⟩
        rw [show (enuD (ds.take ps.length)).length = (ds.take ps.length).length by simp [enuD],List.drop_length] at hf
        have hf:firstBad fPr (ds.take ps.length) 0 = none:=hf
        rw [hf] at h
        have h:(∃ n,(if ds.length = ps.length then none else some (D.int (min ds.length ps.length:Nat))) = some n ∧ qx A.c_q16 nNum [n] []) ∨ ((if ds.length = ps.length then none else some (D.int (min ds.length ps.length:Nat))) = none ∧ q .non []):=h
        refine (ite2 (c:=(!decide ((ds.length:Int) = ((ps.map D.int).length:Int))) = true) (fun c => ?_) (fun c => ?_))
        · have c' : ¬ ds.length = ps.length:=by rw [len_ints] at c; simp at c; exact zo225 c
          rw [if_neg c'] at h
          have em:(if ((ps.map D.int).length:Int) < (ds.length:Int) then ((ps.map D.int).length:Int) else (ds.length:Int)) = ((min ds.length ps.length:Nat):Int):=by
            rw [len_ints]; split <;> (first|lia|omega)
          have hx:qx A.c_q16 nNum [.int (min ds.length ps.length:Nat)] []:=by
            rcases h with ⟨n,e,z⟩ | ⟨e,_⟩
            · cases e; exact z
            · cases e
          have hfm:(min ds.length ps.length:Nat) < 31:=Nat.lt_of_le_of_lt (Nat.min_le_right _ _) (Nat.lt_of_le_of_lt hti (by decide))
          generalize (min ds.length ps.length:Nat) = mm at em hx hfm
          have hx':qx A.c_q16 nNum [.int (if ((ps.map D.int).length:Int) < (ds.length:Int) then ((ps.map D.int).length:Int) else (ds.length:Int))] []:=by rw [em]; exact hx
          exact ⟨rfl,fmt1 (em ▸ fmt_nat (Nat.lt_trans hfm (by decide))),hx'⟩
        · have c':ds.length = ps.length:=by rw [len_ints] at c; simp at c; exact zo103 c
          rw [if_pos c'] at h
          rcases h with ⟨n,e,z⟩ | ⟨_,z⟩
          · cases e
          · exact z
    | _ =>
      first
      | (refine ⟨rfl,fmt1 fmt_non,?_⟩
         rcases h with ⟨n,e,z⟩ | ⟨e,_⟩
         · cases e; exact z
         · cases e)
      | (rw [pln] at hx; cases hx)
end
end K29
namespace K29
open PySem L2
section
variable {P:Program} {w:World} {K:PySem.W.Frag} {mg:Str → Option Value} {base:Heap} {A:Adr}
def sdLayOn:SpD:=fun ds q => ∃ a w l,ds = [dAsk a,dInts w,dInts l] ∧ (∀ t ∈ w,0 < t ∧ t ≤ (l.length:Int)) ∧ q .non [some (dInts (addW l w a.size))]
theorem ok_q36 (T:Txt K mg A):FnOk P w K mg base CX0 1 A.f_q36 A.d_q36 ["ask","way","load"] (spOf [false,false,true] false (sdLayOn)):=by
  have S:=sc_q36
  refine fnD T.F_q36 S ⟨[false,false,true],[false,false,true,false],false⟩ _ ?hl rfl rfl fun cdv Ar outer s H E hr => ⟨_,(qss_one (qs_for PassesOwn.never rfl (qi_list (qe_var 1)) (qg_name (i:=3) S.nd rfl (Or.inl rfl)) (qss_one (qs_augI (i:=2) rfl (qe_ix ix_seq dIx (qe_var 0) qe_int (fun _ _ => rfl)) (qe_op op_sub dI (qe_var 3) qe_int))))),fun ds q h => ?_⟩
  case hl => intro ds q h; obtain ⟨a,w,l,rfl,_⟩:=h; rfl
  obtain ⟨a,w,l,rfl,hw,q0⟩:=h
  refine ⟨fun i ρ => ∃ v,ρ = [some (dAsk a),some (dInts w),some (dInts (addW l (w.take i) a.size)),v],⟨_,rfl⟩,?_,?_⟩
  · rintro i d ρ hd ⟨v,rfl⟩
    obtain ⟨z,hz,rfl⟩:=map_at hd
    have hm:=hw z (List.mem_of_getElem? hz)
    have hlen:(addW l (w.take i) a.size).length = l.length:=addW_len _ _ _
    refine ⟨by exact zo48 hm,?_⟩
    rw [atI_ints (by exact zo48 hm) (by exact zo83 hm hlen)]
    show (match ixN ((addW l (w.take i) a.size).map D.int).length (z - 1) with | some _ => _ | none => False)
    rw [len_ints,ixN_nat (by exact zo48 hm) (by exact zo83 hm hlen)]
    refine ⟨some (.int z),?_⟩
    rw [List.take_add_one,hz]
    show _ = [_,_,some (dInts (addW l (_ ++ [z]) a.size)),_]
    rw [addW_snoc,addT,← set_dInts]; rfl
  · rintro ρ ⟨v,rfl⟩
    rw [len_ints,List.take_length]
    exact q0
theorem ok_q13 (T:Txt K mg A):FnOk P w K mg base CX0 8 A.f_q13 A.d_q13 ["tree","ask","load"] (spOf [false,false,false] true (sdLoadWith)):=by
  have G_q36:=ok_q36 (P:=P) (w:=w) (base:=base) T
  have G_q39:=ok_q39 (P:=P) (w:=w) (base:=base) T
  have S:=sc_q13
  refine fnD T.F_q13 S ⟨[false,false,false],[false,false,false,true],true⟩ _ ?hl rfl rfl fun cdv Ar outer s H E hr => ⟨_,(qss_cons (qs_setO (i:=3) S.nd rfl (Or.inl rfl) (qf_callTy call_list_of dList rfl T.z_list bt_list (qa_cons (qe_var 2) qa_nil)))
      (qss_cons (qs_expr (qe_call (G_q36) (hr.mono (by decide)) rfl T.m_q36 T.k_q36 T.b_q36 (qk_s (qe_var 1) (qk_s (QF.qe (qf_call (G_q39) (hr.mono (by decide)) rfl T.m_q39 T.k_q39 T.b_q39 (qk_s (qe_var 0) (qk_s (qe_var 1) qk_nil)))) (qk_m 3 qk_nil)))))
      (qss_one (qs_retM (qm_move 3))))),fun ds q h => ?_⟩
  case hl => intro ds q h; obtain ⟨ps,rs,a,l,rfl,_⟩:=h; rfl
  obtain ⟨ps,rs,a,l,rfl,hT,he,hl,q0⟩:=h
  refine ⟨imms_ints _,?_⟩
  refine ⟨ps,rs,a,rfl,hT,he,?_⟩
  refine ⟨a,askWay ps a,l,rfl,fun t ht => ?_,q0⟩
  have hm:=way_mem hT he ht
  rw [hl]; exact ⟨by exact zo281 hm,by exact zo271 hm⟩
theorem okx_q42 (T:Txt K mg A):FnOk P w K mg base (CX1 P w) 9 A.f_q42 A.d_q42 ["tree","asks","keep"] (spOfX [false,false,false] true ((sdKeepX A.c_q31 A.c_q29 A.c_q30 hLoads))):=by
  have G_q13:=ok_q13 (P:=P) (w:=w) (base:=base) T
  have GX_q6:=okx_q6 (P:=P) (w:=w) (base:=base) T
  have S:=sc_q42
  refine fnX T.F_q42 S ⟨[false,false,false],[false,false,false,true,false],true⟩ _ ?hl rfl rfl fun cdv Ar outer s H E hr => ⟨_,(qxs_cons (qx_drop (qxe_call (GX_q6) (hr.mono (by decide)) rfl T.m_q6 T.k_q6 T.b_q6 (qk_s (qe_var 0) (qk_s (qe_var 1) (qk_s (qe_var 2) qk_nil)))))
      (qxs_cons (qx_of (qs_setO (i:=3) S.nd rfl (Or.inl rfl) (qf_mk op_rep dRep (qe_lst (qa_cons qe_int qa_nil)) (qe_callB call_len_seq dLen rfl T.z_len bt_len (qa_cons (qe_ix ix_seq dIx (qe_var 0) qe_int (fun _ _ => rfl)) qa_nil)))))
      (qxs_cons (qx_of (qs_for PassesOwn.never rfl (qi_list (qe_var 2)) (qg_name (i:=4) S.nd rfl (Or.inl rfl)) (qss_one (qs_setO (i:=3) S.nd rfl (Or.inl rfl) (QF.bor [3] (qf_call (G_q13) (hr.mono (by decide)) rfl T.m_q13 T.k_q13 T.b_q13 (qk_s (qe_var 0) (qk_s (qe_ix ix_seq dIx (qe_var 1) (qe_var 4) (fun _ _ => rfl)) (qk_s (qe_var 3) qk_nil)))))))))
      (qxs_one (qx_of (qs_retM (qm_move 3))))))),fun ds q qx h => ?_⟩
  case hl => intro ds q qx h; obtain ⟨t,x,y,rfl,_⟩:=h; rfl
  obtain ⟨t,x,y,rfl,h⟩:=h
  refine ⟨t,x,y,rfl,?_⟩
  rcases h with h | ⟨ps,rs,rfl,hT,hx,h | ⟨as,rfl,ha,hy,hl,h | ⟨ks,rfl,hn,hk,q0⟩⟩⟩
  · exact .inl h
  · exact .inr ⟨ps,rs,rfl,hT,hx,.inl h⟩
  · exact .inr ⟨ps,rs,rfl,hT,hx,.inr ⟨as,rfl,ha,hy,hl,.inl h⟩⟩
  refine .inr ⟨ps,rs,rfl,hT,hx,.inr ⟨as,rfl,ha,hy,hl,.inr ⟨ks,rfl,hn,hk,?_⟩⟩⟩
  have hi:=hT.hi
  refine ⟨⟨by rw [len_ints]; exact zo253 hi,by rw [len_ints]; exact zo280 hi,by rw [len_ints]; simp; exact zo288 hi⟩,?_⟩
  rw [len_ints,rep_flat,show Int.toNat ((ps.length:Nat):Int) = ps.length by exact zo120 hi,rep_ints0]
  refine ⟨imms_ints _,?_⟩
  refine ⟨fun i ρ => ∃ v,ρ = [some (dPair ps rs),some (dAsks as),some (dInts ks),some (dInts (loadsZ ps as (ks.take i))),v],⟨_,rfl⟩,?_,?_⟩
  · rintro i d ρ hd ⟨v,rfl⟩
    obtain ⟨z,hz,rfl⟩:=map_at hd
    have hz1:=hk.lo z (List.mem_of_getElem? hz)
    refine atD_of (atI_asks hz1.1 hz1.2) ?_
    have hmem:=getD_ask (as:=as) (k:=z.toNat) (by exact zo32 hz1)
    refine ⟨ps,rs,as.getD z.toNat ask0,loadsZ ps as (ks.take i),rfl,hT,(ha.ok _ hmem).ends,loadsZ_len _ _ _,?_⟩
    refine ⟨some (.int z),?_⟩
    rw [List.take_add_one,hz]
    show _ = [_,_,_,some (dInts (loadsZ ps as (_ ++ [z]))),_]
    rw [loadsZ_snoc]; rfl
  · rintro ρ ⟨v,rfl⟩
    rw [len_ints,List.take_length]
    exact q0
theorem okx_q11 (T:Txt K mg A):FnOk P w K mg base (CX1 P w) 10 A.f_q11 A.d_q11 ["tree","asks","keep"] (spOfX [false,false,false] false ((sdKeepX A.c_q31 A.c_q29 A.c_q30 hFirst))):=by
  have GX_q42:=okx_q42 (P:=P) (w:=w) (base:=base) T
  have S:=sc_q11
  refine fnX T.F_q11 S ⟨[false,false,false],[false,false,false,false,false],false⟩ _ ?hl rfl rfl fun cdv Ar outer s H E hr => ⟨_,(qxs_cons (qx_forX rfl (qxi_enum rfl T.z_enumerate (QXF.qe (qxf_call (GX_q42) (hr.mono (by decide)) rfl T.m_q42 T.k_q42 T.b_q42 (qk_s (qe_var 0) (qk_s (qe_var 1) (qk_s (qe_var 2) qk_nil)))))) (qg_tup rfl (qgs_cons (qg_name (i:=3) S.nd rfl (Or.inl rfl)) (qgs_cons (qg_name (i:=4) S.nd rfl (Or.inl rfl)) qgs_nil)) (takes_cons1 (takes_cons1 takes_nil))) (qxs_one (qx_of (qs_if (qt_cmp op_gt dB (qe_var 4) (qe_ix ix_seq dIx (qe_ix ix_seq dIx (qe_var 0) qe_int (fun _ _ => rfl)) (qe_var 3) (fun _ _ => rfl)) (nomark _)) (qss_one (qs_ret (qe_op op_add dI (qe_var 3) qe_int))) qss_nil))))
      (qxs_one (qx_of (qs_ret qe_non)))),fun ds q qx h => ?_⟩
  case hl => intro ds q qx h; obtain ⟨t,x,y,rfl,_⟩:=h; rfl
  obtain ⟨t,x,y,rfl,h⟩:=h
  refine ⟨t,x,y,rfl,?_⟩
  rcases h with h | ⟨ps,rs,rfl,hT,hx,h | ⟨as,rfl,ha,hy,hl,h | ⟨ks,rfl,hn,hk,q0⟩⟩⟩
  · exact .inl h
  · exact .inr ⟨ps,rs,rfl,hT,hx,.inl h⟩
  · exact .inr ⟨ps,rs,rfl,hT,hx,.inr ⟨as,rfl,ha,hy,hl,.inl h⟩⟩
  refine .inr ⟨ps,rs,rfl,hT,hx,.inr ⟨as,rfl,ha,hy,hl,.inr ⟨ks,rfl,hn,hk,?_⟩⟩⟩
  unfold hLoads
  unfold hFirst at q0
  have hll:=loadsZ_len ps as ks
  generalize loadsZ ps as ks = ld at *
  refine ⟨fun i ρ => ∃ v1 v2,ρ = [some (dPair ps rs),some (dAsks as),some (dInts ks),v1,v2] ∧ ∀ j:Nat,j < i → ¬ ld.getD j 0 > rs.getD j 0,⟨_,_,rfl,fun j h => absurd h (Nat.not_lt_zero _)⟩,?_,?_⟩
  · rintro i d ρ hd ⟨v1,v2,rfl,hj⟩
    obtain ⟨d',h1,rfl⟩:=enuD_at hd
    obtain ⟨z,hz,rfl⟩:=map_at h1
    have hil:=(List.getElem?_eq_some_iff.mp hz).1
    have hlr:=hT.len
    have ez:ld.getD i 0 = z:=by rw [List.getD_eq_getElem?_getD,hz]; rfl
    refine atD_of (atI_ints (by exact zo54) (by exact zo183 hll hil hlr)) ?_
    rw [show (((i:Nat):Int)).toNat = i by exact zo66]
    refine (ite2 (c:=decide (rs.getD i 0 < z) = true) (fun c => ?_) (fun c => ?_))
    · have:firstD ld rs = .int ((i:Int) + 1):=by
        have c':rs.getD i 0 < z:=by simpa using c
        obtain ⟨r,hr⟩:=first_over_at (ld:=ld) (rs:=rs) hil (by exact zo169 ez c') hj
        unfold firstD; rw [hr]
      rw [this] at q0; exact q0
    · have c' : ¬ rs.getD i 0 < z:=by simpa using c
      refine ⟨_,_,rfl,fun j h => ?_⟩
      by_cases e:j = i
      · subst e; exact zo163 ez c'
      · exact hj j (by exact zo107 h e)
  · rintro ρ ⟨v1,v2,rfl,hj⟩
    rw [enuD_len,len_ints] at hj
    have:firstD ld rs = .non:=by
      have:overZ ld rs = []:=by
        unfold overZ
        rw [List.map_eq_nil_iff,List.filter_eq_nil_iff]
        intro k hk; simpa using hj k (List.mem_range.mp hk)
      unfold firstD; rw [this]
    rw [this] at q0; exact q0
theorem okx_q26 (T:Txt K mg A):FnOk P w K mg base (CX1 P w) 8 A.f_q26 A.d_q26 ["tree","asks","keep"] (spOfX [false,false,false] false ((sdKeepX A.c_q31 A.c_q29 A.c_q30 hWorth))):=by
  have GX_q6:=okx_q6 (P:=P) (w:=w) (base:=base) T
  have S:=sc_q26
  refine fnX T.F_q26 S ⟨[false,false,false],[false,false,false],false⟩ _ ?hl rfl rfl fun cdv Ar outer s H E hr => ⟨_,(qxs_cons (qx_drop (qxe_call (GX_q6) (hr.mono (by decide)) rfl T.m_q6 T.k_q6 T.b_q6 (qk_s (qe_var 0) (qk_s (qe_var 1) (qk_s (qe_var 2) qk_nil)))))
      (qxs_one (qx_of (qs_ret (qe_callB (call_sumI rfl) dSum rfl T.z_sum bt_sum (qa_cons (qe_comp ["number"] [1] ⟨rfl,rfl,by decide +kernel,rfl,rfl,(by first | exact trivial | exact ⟨rfl,trivial⟩ | exact ⟨rfl,rfl,trivial⟩ | exact ⟨rfl,rfl,rfl,trivial⟩ | exact ⟨rfl,rfl,rfl,rfl,trivial⟩),rfl⟩ rfl (qi_list (qe_var 2)) (cg_name 0) (fun _ _ _ _ => ⟨(pg_name (i:=0) (show List.Nodup (["number","asks"]:List Str) by decide +kernel) rfl (Or.inl rfl)),qif_nil,(qe_ix ix_seq dIx (qe_ix ix_seq dIx (qe_var 1) (qe_var 0) (fun _ _ => rfl)) qe_int (fun _ _ => rfl))⟩)) qa_nil)))))),fun ds q qx h => ?_⟩
  case hl => intro ds q qx h; obtain ⟨t,x,y,rfl,_⟩:=h; rfl
  obtain ⟨t,x,y,rfl,h⟩:=h
  refine ⟨t,x,y,rfl,?_⟩
  rcases h with h | ⟨ps,rs,rfl,hT,hx,h | ⟨as,rfl,ha,hy,hl,h | ⟨ks,rfl,hn,hk,q0⟩⟩⟩
  · exact .inl h
  · exact .inr ⟨ps,rs,rfl,hT,hx,.inl h⟩
  · exact .inr ⟨ps,rs,rfl,hT,hx,.inr ⟨as,rfl,ha,hy,hl,.inl h⟩⟩
  refine .inr ⟨ps,rs,rfl,hT,hx,.inr ⟨as,rfl,ha,hy,hl,.inr ⟨ks,rfl,hn,hk,?_⟩⟩⟩
  have hkl:=hk.len
  have hal:=ha.len
  refine ⟨by rw [len_ints]; exact zo241 hkl hal,?_⟩
  refine compD_map (fun d => match d with | .int k => .int (as.getD k.toNat ask0).worth | _ => .non) ?_ ?_
  · intro d hd k hk'
    obtain ⟨x,hx,rfl⟩:=mem_ints hd
    have:=hk.lo x hx
    refine atD_of (atI_asks this.1 this.2) ?_
    exact hk'
  · refine ⟨ks.map fun k => (as.getD k.toNat ask0).worth,by rw [List.map_map,List.map_map]; rfl,?_⟩
    exact q0
def sdFitK:SpD:=fun ds q => ∃ ps rs as y,ds = [dPair ps rs,dAsks as,y] ∧ Tree ps rs ∧ AsksOk ps as ∧ pln y = true ∧ (∀ ds,y = .lst ds → ds.length ≤ 10000) ∧
  ((∃ n,keepErr as.length y = some n ∧ q (.bl false) []) ∨ ∃ ks,y = dInts ks ∧ keepErr as.length y = none ∧ KeepOk as.length ks ∧ q (.bl (isNon (firstD (loadsZ ps as ks) rs))) [])
def sdAreP:SpD:=fun ds q => ∃ ps rs x,ds = [dPair ps rs,x] ∧ Tree ps rs ∧ pln x = true ∧ (∀ ds,x = .lst ds → ds.length ≤ 10000) ∧ q (.bl (pricesErr ps.length x).isNone) []
theorem ok_q0 (T:Txt K mg A):FnOk P w K mg base CX0 11 A.f_q0 A.d_q0 ["tree","asks","thing"] (spOf [false,false,false] false (sdFitK)):=by
  have GX_q11:=okx_q11 (P:=P) (w:=w) (base:=base) T
  have S:=sc_q0
  refine fnT T.F_q0 S ⟨[false,false,false],[false,false,false],false⟩ _ ?hl rfl rfl fun cdv Ar outer s H E hr => ⟨_,(qxs_one (qx_try0 rfl T.m_q30 T.x_q30 (qxs_one (qx_ret (qxe_cmp (fun _ _ => op_isN) dIsN (qxe_call (GX_q11) (hr.mono (by decide)) rfl T.m_q11 T.k_q11 T.b_q11 (qk_s (qe_var 0) (qk_s (qe_var 1) (qk_s (qe_var 2) qk_nil)))) qe_non (nomark _)))) (fun _ => (qss_one (qs_ret qe_bl))))),fun ds q h => ?_⟩
  case hl => intro ds q h; obtain ⟨ps,rs,as,y,rfl,_⟩:=h; rfl
  obtain ⟨ps,rs,as,y,rfl,hT,ha,hy,hl,h⟩:=h
  refine ⟨dPair ps rs,dAsks as,y,rfl,.inr ⟨ps,rs,rfl,hT,pln_dAsks as,.inr ⟨as,rfl,ha,hy,hl,?_⟩⟩⟩
  rcases h with ⟨n,hn,q0⟩ | ⟨ks,rfl,hn,hk,q0⟩
  · refine .inl ⟨n,hn,?_⟩
    refine ⟨⟨A.c_q30,_,_,rfl,T.x_q30,by simp⟩,fun _ => ?_⟩
    exact q0
  · refine .inr ⟨ks,rfl,hn,hk,?_⟩
    exact q0
theorem ok_q10 (T:Txt K mg A):FnOk P w K mg base CX0 5 A.f_q10 A.d_q10 ["tree","thing"] (spOf [false,false] false (sdAreP)):=by
  have GX_q2:=okx_q2 (P:=P) (w:=w) (base:=base) T
  have S:=sc_q10
  refine fnT T.F_q10 S ⟨[false,false],[false,false],false⟩ _ ?hl rfl rfl fun cdv Ar outer s H E hr => ⟨_,(qxs_cons (qx_try0 rfl T.m_q16 T.x_q16 (qxs_one (qx_drop (qxe_call (GX_q2) (hr.mono (by decide)) rfl T.m_q2 T.k_q2 T.b_q2 (qk_s (qe_var 0) (qk_s (qe_var 1) qk_nil))))) (fun _ => (qss_one (qs_ret qe_bl))))
      (qxs_one (qx_of (qs_ret qe_bl)))),fun ds q h => ?_⟩
  case hl => intro ds q h; obtain ⟨ps,rs,x,rfl,_⟩:=h; rfl
  obtain ⟨ps,rs,x,rfl,hT,hx,hl,q0⟩:=h
  refine ⟨dPair ps rs,x,rfl,.inr ⟨ps,rs,rfl,hT,hx,hl,?_⟩⟩
  cases e:pricesErr ps.length x with
  | some n =>
    rw [e] at q0
    exact .inl ⟨n,rfl,⟨A.c_q16,_,_,rfl,T.x_q16,by simp⟩,fun _ => q0⟩
  | none =>
    rw [e] at q0
    exact .inr ⟨rfl,q0⟩
end
end K29
namespace K29
open PySem L2
section
variable {P:Program} {w:World} {K:PySem.W.Frag} {mg:Str → Option Value} {base:Heap} {A:Adr}
theorem pr_ok {ps:List Int} {prs:List Rat} (hp:PricesOk ps prs):pricesErr ps.length (dQs prs) = none:=by
  have hf:∀ (l:List Rat),(∀ r ∈ l,0 ≤ r) → ∀ k,firstBad fPr (l.map dQ) k = none:=by
    intro l
    induction l with
    | nil => intro _ k; rfl
    | cons r l ih =>
      intro h k
      have e:prB (dQ r) = true:=by
        show ((decide (1 ≤ (r.den:Int)) && decide (gcdP r.num r.den = 1)) && decide (0 ≤ r.num)) = true
        rw [decide_eq_true (gcd_low r),decide_eq_true (num_nn (h r (.head _))),decide_eq_true (by have:=den_posI r; exact zo198 this)]; rfl
      rw [List.map_cons,firstBad,if_pos (show fPr k (dQ r) = true from e)]
      exact ih (fun x hx => h x (.tail _ hx)) (k + 1)
  have e:pricesErr ps.length (dQs prs) = (match firstBad fPr ((prs.map dQ).take ps.length) 0 with | some i => some (.int i) | none => if (prs.map dQ).length = ps.length then none else some (.int (min (prs.map dQ).length ps.length:Nat))):=rfl
  have hl:(prs.map dQ).length = ps.length:=by rw [List.length_map,hp.len]
  rw [e,List.take_of_length_le (by exact zo136 hl),hf prs hp.pos 0,if_pos hl]
theorem pln_dQs (prs:List Rat):pln (dQs prs) = true:=by
  unfold dQs; rw [pln]
  exact plns_of fun d h => by obtain ⟨a,_,rfl⟩:=List.mem_map.mp h; rfl
theorem ok_q4 (T:Txt K mg A):FnOk P w K mg base CX0 6 A.f_q4 A.d_q4 ["tree","thing"] (spOf [false,false] false sdLookAsks):=(okx_q4 T).calm fun ds q h => by
  obtain ⟨ps,rs,as,rfl,hT,ha,q0⟩:=h
  exact ⟨_,_,rfl,.inr ⟨ps,rs,rfl,hT,pln_dAsks as,.inr ⟨asksErr_ok ha,q0⟩⟩⟩
theorem ok_q2 (T:Txt K mg A):FnOk P w K mg base CX0 4 A.f_q2 A.d_q2 ["tree","thing"] (spOf [false,false] false sdLookPr):=(okx_q2 T).calm fun ds q h => by
  obtain ⟨ps,rs,prs,rfl,hT,hp,q0⟩:=h
  refine ⟨_,_,rfl,.inr ⟨ps,rs,rfl,hT,pln_dQs prs,fun ds e => ?_,.inr ⟨pr_ok hp,q0⟩⟩⟩
  cases e
  rw [List.length_map,hp.len]; have:=hT.hi; exact zo80 this
def sdWorthK:SpD:=fun ds q => ∃ ps rs as ks,ds = [dPair ps rs,dAsks as,dInts ks] ∧ Tree ps rs ∧ AsksOk ps as ∧ KeepOk as.length ks ∧ keepErr as.length (dInts ks) = none ∧ q (.int (worthZ as ks)) []
theorem ok_q26 (T:Txt K mg A):FnOk P w K mg base CX0 8 A.f_q26 A.d_q26 ["tree","asks","keep"] (spOf [false,false,false] false sdWorthK):=(okx_q26 T).calm fun ds q h => by
  obtain ⟨ps,rs,as,ks,rfl,hT,ha,hk,he,q0⟩:=h
  refine ⟨_,_,_,rfl,.inr ⟨ps,rs,rfl,hT,pln_dAsks as,.inr ⟨as,rfl,ha,?_,fun ds e => ?_,.inr ⟨ks,rfl,he,hk,q0⟩⟩⟩⟩
  · unfold dInts; rw [pln]; exact plns_of fun d h => by obtain ⟨a,_,rfl⟩:=List.mem_map.mp h; rfl
  · cases e
    rw [List.length_map]; have:=hk.len; have:=ha.len; (first|lia|omega)
theorem ok_q43 (T:Txt K mg A):FnOk P w K mg base CX0 3 A.f_q43 A.d_q43 ["one","other"] (spOf [false,false] false (sdMinus)):=by
  have G_q19:=ok_q19 (P:=P) (w:=w) (base:=base) T
  have S:=sc_q43
  refine fnD T.F_q43 S ⟨[false,false],[false,false],false⟩ _ ?hl rfl rfl fun cdv Ar outer s H E hr => ⟨_,(qss_one (qs_ret (qe_call (G_q19) (hr.mono (by decide)) rfl T.m_q19 T.k_q19 T.b_q19 (qk_s (qe_op op_sub dI (qe_op op_mulB dIC (qe_ix ix_seq dIx (qe_var 0) qe_int (fun _ _ => rfl)) (qe_ix ix_seq dIx (qe_var 1) qe_int (fun _ _ => rfl))) (qe_op op_mulB dIC (qe_ix ix_seq dIx (qe_var 1) qe_int (fun _ _ => rfl)) (qe_ix ix_seq dIx (qe_var 0) qe_int (fun _ _ => rfl)))) (qk_s (qe_op op_mulB dIC (qe_ix ix_seq dIx (qe_var 0) qe_int (fun _ _ => rfl)) (qe_ix ix_seq dIx (qe_var 1) qe_int (fun _ _ => rfl))) qk_nil))))),fun ds q h => ?_⟩
  case hl => intro ds q h; obtain ⟨r,s,rfl,_⟩:=h; rfl
  obtain ⟨r,s,rfl,hr,hs,q0⟩:=h
  refine ⟨⟨hr.smN (by decide),hs.smD (by decide)⟩,⟨hs.smN (by decide),hr.smD (by decide)⟩,⟨hr.smD (by decide),hs.smD (by decide)⟩,?_⟩
  refine ⟨_,_,rfl,Int.ne_of_gt (den_mul_pos r s),Sm.of (n:=7900) (by rw [abs_mulI,Int.natAbs_natCast,Int.natAbs_natCast]; exact lt_mul_pow (m:=3950) (n:=3950) hr.den hs.den) (by decide),?_⟩
  rw [← sub_eq]; exact q0
theorem ok_q44 (T:Txt K mg A):FnOk P w K mg base CX0 3 A.f_q44 A.d_q44 ["one","other"] (spOf [false,false] false (sdTimes)):=by
  have G_q19:=ok_q19 (P:=P) (w:=w) (base:=base) T
  have S:=sc_q44
  refine fnD T.F_q44 S ⟨[false,false],[false,false],false⟩ _ ?hl rfl rfl fun cdv Ar outer s H E hr => ⟨_,(qss_one (qs_ret (qe_call (G_q19) (hr.mono (by decide)) rfl T.m_q19 T.k_q19 T.b_q19 (qk_s (qe_op op_mulB dIC (qe_ix ix_seq dIx (qe_var 0) qe_int (fun _ _ => rfl)) (qe_ix ix_seq dIx (qe_var 1) qe_int (fun _ _ => rfl))) (qk_s (qe_op op_mulB dIC (qe_ix ix_seq dIx (qe_var 0) qe_int (fun _ _ => rfl)) (qe_ix ix_seq dIx (qe_var 1) qe_int (fun _ _ => rfl))) qk_nil))))),fun ds q h => ?_⟩
  case hl => intro ds q h; obtain ⟨r,s,rfl,_⟩:=h; rfl
  obtain ⟨r,s,rfl,hr,hs,q0⟩:=h
  refine ⟨⟨hr.smN (by decide),hs.smN (by decide)⟩,⟨hr.smD (by decide),hs.smD (by decide)⟩,?_⟩
  refine ⟨_,_,rfl,Int.ne_of_gt (den_mul_pos r s),Sm.of (n:=7900) (by rw [abs_mulI,Int.natAbs_natCast,Int.natAbs_natCast]; exact lt_mul_pow (m:=3950) (n:=3950) hr.den hs.den) (by decide),?_⟩
  rw [← mul_eq]; exact q0
theorem ok_q38 (T:Txt K mg A):FnOk P w K mg base CX0 3 A.f_q38 A.d_q38 ["some"] (spOf [false] false (sdSumQ)):=by
  have G_q19:=ok_q19 (P:=P) (w:=w) (base:=base) T
  have G_q1:=ok_q1 (P:=P) (w:=w) (base:=base) T
  have S:=sc_q38
  refine fnD T.F_q38 S ⟨[false],[false,false,false],false⟩ _ ?hl rfl rfl fun cdv Ar outer s H E hr => ⟨_,(qss_cons (qs_set (i:=1) S.nd rfl (Or.inr rfl) qe_int)
      (qss_cons (qs_for PassesOwn.never rfl (qi_list (qe_var 0)) (qg_name (i:=2) S.nd rfl (Or.inl rfl)) (qss_one (qs_set (i:=1) S.nd rfl (Or.inr rfl) (qe_op op_mulB dIC (qe_op op_fdivB dIC (qe_var 1) (qe_call (G_q1) (hr.mono (by decide)) rfl T.m_q1 T.k_q1 T.b_q1 (qk_s (qe_var 1) (qk_s (qe_ix ix_seq dIx (qe_var 2) qe_int (fun _ _ => rfl)) qk_nil)))) (qe_ix ix_seq dIx (qe_var 2) qe_int (fun _ _ => rfl))))))
      (qss_one (qs_ret (qe_call (G_q19) (hr.mono (by decide)) rfl T.m_q19 T.k_q19 T.b_q19 (qk_s (qe_callB (call_sumI rfl) dSum rfl T.z_sum bt_sum (qa_cons (qe_comp ["one"] [1] ⟨rfl,rfl,by decide +kernel,rfl,rfl,(by first | exact trivial | exact ⟨rfl,trivial⟩ | exact ⟨rfl,rfl,trivial⟩ | exact ⟨rfl,rfl,rfl,trivial⟩ | exact ⟨rfl,rfl,rfl,rfl,trivial⟩),rfl⟩ rfl (qi_list (qe_var 0)) (cg_name 0) (fun _ _ _ _ => ⟨(pg_name (i:=0) (show List.Nodup (["one","bottom"]:List Str) by decide +kernel) rfl (Or.inl rfl)),qif_nil,(qe_op op_mulB dIC (qe_ix ix_seq dIx (qe_var 0) qe_int (fun _ _ => rfl)) (qe_op op_fdivB dIC (qe_var 1) (qe_ix ix_seq dIx (qe_var 0) qe_int (fun _ _ => rfl))))⟩)) qa_nil)) (qk_s (qe_var 1) qk_nil))))))),fun ds q h => ?_⟩
  case hl => intro ds q h; obtain ⟨rs,M,rfl,_⟩:=h; rfl
  obtain ⟨rs,M,rfl,hl,hn,hM,hp,q0⟩:=h
  refine ⟨fun i ρ => ∃ (B:Int) (v:Option D),ρ = [some (dQs rs),some (.int B),v] ∧ Com (rs.take i) M B,⟨1,_,rfl,com_nil M⟩,?_,?_⟩
  · rintro i d ρ hd ⟨B,v,rfl,hB⟩
    obtain ⟨r,hr,rfl⟩:∃ r,rs[i]? = some r ∧ dQ r = d:=by rw [List.getElem?_map,Option.map_eq_some_iff] at hd; exact hd
    have hd:=den_posI r
    have hmem:=List.mem_of_getElem? hr
    have hdp:=Nat.le_of_dvd hM (hn r hmem).2
    have hle:=hB.le hM
    have hB0:=hB.pos
    have g:=gcdP_pos (n:=B) hd
    have gl:=gcdP_le (n:=B) hd
    refine ⟨B,r.den,rfl,Int.le_of_lt hd,?_⟩
    refine ⟨⟨g,Sm.of (n:=3900) (by (first|lia|omega)) (by decide)⟩,⟨Sm.of (n:=3900) (Nat.lt_of_le_of_lt (ediv_abs g) (by (first|lia|omega))) (by decide),Sm.of (n:=3900) (by (first|lia|omega)) (by decide)⟩,?_⟩
    refine ⟨_,_,rfl,?_⟩
    rw [List.take_add_one,hr]
    exact com_snoc hB (hn r hmem).2
  · rintro ρ ⟨B,v,rfl,hB⟩
    have el:(rs.map dQ).length = rs.length:=List.length_map _
    rw [el,List.take_length] at hB
    have hle:=hB.le hM
    have hB0:=hB.pos
    refine ⟨by rw [el]; exact zo226 hl el,?_⟩
    refine compD_map (sumF B) ?_ ?_
    · intro d hd k hk
      obtain ⟨r,hr,rfl⟩:=List.mem_map.mp hd
      have hd:=den_posI r
      have hdp:=Nat.le_of_dvd hM (hn r hr).2
      refine ⟨⟨hd,Sm.of (n:=3900) (by (first|lia|omega)) (by decide)⟩,⟨Sm.of (hn r hr).1 (by decide),Sm.of (n:=3900) (Nat.lt_of_le_of_lt (ediv_abs hd) (by (first|lia|omega))) (by decide)⟩,?_⟩
      exact hk
    · rw [sumF_map]
      refine ⟨_,rfl,?_⟩
      refine ⟨_,B,rfl,by exact zo31 hB0,Sm.of (n:=3900) (by (first|lia|omega)) (by decide),?_⟩
      rw [sum_over hB0 hB.dv]
      exact q0
theorem ok_q45 (T:Txt K mg A):FnOk P w K mg base CX0 1 A.f_q45 A.d_q45 ["one","other"] (spOf [false,false] false (sdUnder)):=by
  have S:=sc_q45
  refine fnD T.F_q45 S ⟨[false,false],[false,false],false⟩ _ ?hl rfl rfl fun cdv Ar outer s H E hr => ⟨_,(qss_one (qs_ret (qe_cmp op_lt dB (qe_op op_mulB dIC (qe_ix ix_seq dIx (qe_var 0) qe_int (fun _ _ => rfl)) (qe_ix ix_seq dIx (qe_var 1) qe_int (fun _ _ => rfl))) (qe_op op_mulB dIC (qe_ix ix_seq dIx (qe_var 1) qe_int (fun _ _ => rfl)) (qe_ix ix_seq dIx (qe_var 0) qe_int (fun _ _ => rfl))) (nomark _)))),fun ds q h => ?_⟩
  case hl => intro ds q h; obtain ⟨r,s,rfl,_⟩:=h; rfl
  obtain ⟨r,s,rfl,hr,hs,q0⟩:=h
  refine ⟨⟨hr.smN (by decide),hs.smD (by decide)⟩,⟨hs.smN (by decide),hr.smD (by decide)⟩,?_⟩
  have e:decide (r < s) = decide (r.num * (s.den:Int) < s.num * (r.den:Int)):=decide_eq_decide.mpr (Rat.lt_iff r s)
  rw [e] at q0; exact q0
theorem ok_q25 (T:Txt K mg A):FnOk P w K mg base CX0 8 A.f_q25 A.d_q25 ["tree","ask","weight","prices"] (spOf [false,false,false,false] false (sdSpareOf)):=by
  have G_q43:=ok_q43 (P:=P) (w:=w) (base:=base) T
  have G_q38:=ok_q38 (P:=P) (w:=w) (base:=base) T
  have G_q44:=ok_q44 (P:=P) (w:=w) (base:=base) T
  have G_q45:=ok_q45 (P:=P) (w:=w) (base:=base) T
  have G_q39:=ok_q39 (P:=P) (w:=w) (base:=base) T
  have S:=sc_q25
  refine fnD T.F_q25 S ⟨[false,false,false,false],[false,false,false,false,false,false],false⟩ _ ?hl rfl rfl fun cdv Ar outer s H E hr => ⟨_,(qss_cons (qs_set (i:=4) S.nd rfl (Or.inl rfl) (qe_call (G_q38) (hr.mono (by decide)) rfl T.m_q38 T.k_q38 T.b_q38 (qk_s (qe_comp ["tie"] [3] ⟨rfl,rfl,by decide +kernel,rfl,rfl,(by first | exact trivial | exact ⟨rfl,trivial⟩ | exact ⟨rfl,rfl,trivial⟩ | exact ⟨rfl,rfl,rfl,trivial⟩ | exact ⟨rfl,rfl,rfl,rfl,trivial⟩),rfl⟩ rfl (qi_list (QF.qe (qf_call (G_q39) (hr.mono (by decide)) rfl T.m_q39 T.k_q39 T.b_q39 (qk_s (qe_var 0) (qk_s (qe_var 1) qk_nil))))) (cg_name 0) (fun _ _ _ _ => ⟨(pg_name (i:=0) (show List.Nodup (["tie","prices"]:List Str) by decide +kernel) rfl (Or.inl rfl)),qif_nil,(qe_ix ix_seq dIx (qe_var 1) (qe_op op_sub dI (qe_var 0) qe_int) (fun _ _ => rfl))⟩)) qk_nil)))
      (qss_cons (qs_set (i:=5) S.nd rfl (Or.inl rfl) (qe_call (G_q43) (hr.mono (by decide)) rfl T.m_q43 T.k_q43 T.b_q43 (qk_s (qe_tup (qa_cons (qe_ix ix_seq dIx (qe_var 1) qe_int (fun _ _ => rfl)) (qa_cons qe_int qa_nil))) (qk_s (qe_call (G_q44) (hr.mono (by decide)) rfl T.m_q44 T.k_q44 T.b_q44 (qk_s (qe_tup (qa_cons (qe_var 2) (qa_cons qe_int qa_nil))) (qk_s (qe_var 4) qk_nil))) qk_nil))))
      (qss_one (qs_ret (qe_ifExp (qt_val (qe_call (G_q45) (hr.mono (by decide)) rfl T.m_q45 T.k_q45 T.b_q45 (qk_s (qe_tup (qa_cons qe_int (qa_cons qe_int qa_nil))) (qk_s (qe_var 5) qk_nil)))) (qe_var 5) (qe_tup (qa_cons qe_int (qa_cons qe_int qa_nil)))))))),fun ds q h => ?_⟩
  case hl => intro ds q h; obtain ⟨ps,rs,a,w,prs,rfl,_⟩:=h; rfl
  obtain ⟨ps,rs,a,w,prs,rfl,hT,ha,hw,hp,q0⟩:=h
  have hwl:=way_len46 hT ha.ends
  have hpl:=hp.len
  have hpb:=paid_bt hT ha.ends hp
  have hpa:=paid_all hT ha.ends hp
  refine ⟨ps,rs,a,rfl,hT,ha.ends,?_⟩
  refine ⟨by rw [len_ints]; exact Nat.le_trans hwl (by decide),?_⟩
  refine compD_map (priceF prs) ?_ ?_
  · intro d hd k hk
    obtain ⟨t,ht,rfl⟩:=mem_ints hd
    have hm:=way_mem hT ha.ends ht
    refine atD_of (atI_dQ (by exact zo48 hm) (by exact zo192 hpl hm)) ?_
    exact hk
  · rw [priceF_map]
    refine ⟨_,prodD prs,rfl,by rw [List.length_map]; exact Nat.le_trans hwl (by decide),fun r hr => ⟨Nat.lt_of_lt_of_le (hp.bt r (hpa r hr)).num (two_le (by decide)),prodD_dvN (hpa r hr)⟩,prodD_pos prs,?_,?_⟩
    · exact Nat.lt_of_le_of_lt (prod_bt hp.bt) (Nat.pow_lt_pow_right (by decide) (by have:=hT.hi; exact zo164 hpl this))
    have e1:D.tup [.int w,.int 1] = dQ (w:Rat):=dQ_int w
    have e2:D.tup [.int a.worth,.int 1] = dQ (a.worth:Rat):=dQ_int a.worth
    have bw:Bt (w:Rat) 20:=intBt 1000000 hw (by decide) (by decide)
    have ba:Bt (a.worth:Rat) 40:=intBt 1000000000000 (by have:=ha.w0; have:=ha.w1; (first|lia|omega)) (by decide) (by decide)
    have bt:Bt ((w:Rat) * paidQ ps a prs) 3020:=(bw.mul hpb).mono (by decide)
    have bm:Bt ((a.worth:Rat) - (w:Rat) * paidQ ps a prs) 3061:=(ba.sub bt).mono (by decide)
    refine ⟨(w:Rat),paidQ ps a prs,by rw [← e1]; rfl,bw.mono (by decide),hpb.mono (by decide),?_⟩
    refine ⟨(a.worth:Rat),(w:Rat) * paidQ ps a prs,by rw [← e2],ba.mono (by decide),bt.mono (by decide),?_⟩
    refine ⟨0,(a.worth:Rat) - (w:Rat) * paidQ ps a prs,rfl,bt0 (by decide),bm.mono (by decide),?_⟩
    have eq:spareQ ps a w prs = posQ ((a.worth:Rat) - (w:Rat) * paidQ ps a prs):=rfl
    rw [eq] at q0
    unfold posQ at q0
    refine (ite2 (c:=decide ((0:Rat) < (a.worth:Rat) - (w:Rat) * paidQ ps a prs) = true) (fun c => ?_) (fun c => ?_))
    · rw [if_pos (of_decide_eq_true c)] at q0; exact q0
    · rw [if_neg (fun z => c (decide_eq_true z))] at q0; exact q0
theorem ok_q37 (T:Txt K mg A):FnOk P w K mg base CX0 9 A.f_q37 A.d_q37 ["tree","asks","prices"] (spOf [false,false,false] true (sdSpares)):=by
  have G_q4:=ok_q4 (P:=P) (w:=w) (base:=base) T
  have G_q2:=ok_q2 (P:=P) (w:=w) (base:=base) T
  have G_q25:=ok_q25 (P:=P) (w:=w) (base:=base) T
  have S:=sc_q37
  refine fnD T.F_q37 S ⟨[false,false,false],[false,false,false],true⟩ _ ?hl rfl rfl fun cdv Ar outer s H E hr => ⟨_,(qss_cons (qs_expr (qe_call (G_q4) (hr.mono (by decide)) rfl T.m_q4 T.k_q4 T.b_q4 (qk_s (qe_var 0) (qk_s (qe_var 1) qk_nil))))
      (qss_cons (qs_expr (qe_call (G_q2) (hr.mono (by decide)) rfl T.m_q2 T.k_q2 T.b_q2 (qk_s (qe_var 0) (qk_s (qe_var 2) qk_nil))))
      (qss_one (qs_retM (QF.qm (qf_comp ["ask"] [0,2] ⟨rfl,rfl,by decide +kernel,rfl,rfl,(by first | exact trivial | exact ⟨rfl,trivial⟩ | exact ⟨rfl,rfl,trivial⟩ | exact ⟨rfl,rfl,rfl,trivial⟩ | exact ⟨rfl,rfl,rfl,rfl,trivial⟩),rfl⟩ rfl (qi_list (qe_var 1)) (cg_name 0) (fun _ _ _ _ => ⟨(pg_name (i:=0) (show List.Nodup (["ask","tree","prices"]:List Str) by decide +kernel) rfl (Or.inl rfl)),qif_nil,(qe_call (G_q25) (hr.mono (by decide)) rfl T.m_q25 T.k_q25 T.b_q25 (qk_s (qe_var 1) (qk_s (qe_var 0) (qk_s (qe_ix ix_seq dIx (qe_var 0) qe_int (fun _ _ => rfl)) (qk_s (qe_var 2) qk_nil)))))⟩))))))),fun ds q h => ?_⟩
  case hl => intro ds q h; obtain ⟨ps,rs,as,prs,rfl,_⟩:=h; rfl
  obtain ⟨ps,rs,as,prs,rfl,hT,ha,hp,q0⟩:=h
  have hal:=ha.len
  refine ⟨ps,rs,as,rfl,hT,ha,?_⟩
  refine ⟨ps,rs,prs,rfl,hT,hp,?_⟩
  refine ⟨by rw [List.length_map]; exact zo289 hal,?_⟩
  refine compD_map (spareF ps prs) ?_ ?_
  · intro d hd k hk
    obtain ⟨a,hm,rfl⟩:=List.mem_map.mp hd
    have hok:=ha.ok a hm
    refine ⟨ps,rs,a,a.size,prs,rfl,hT,hok,by have:=hok.s0; have:=hok.s1; (first|lia|omega),hp,?_⟩
    exact hk
  · rw [spareF_map]
    refine ⟨imms_dQs _,?_⟩
    exact q0
theorem ok_q18 (T:Txt K mg A):FnOk P w K mg base CX0 10 A.f_q18 A.d_q18 ["tree","asks","prices"] (spOf [false,false,false] false (sdBound)):=by
  have G_q37:=ok_q37 (P:=P) (w:=w) (base:=base) T
  have G_q38:=ok_q38 (P:=P) (w:=w) (base:=base) T
  have G_q44:=ok_q44 (P:=P) (w:=w) (base:=base) T
  have S:=sc_q18
  refine fnD T.F_q18 S ⟨[false,false,false],[false,false,false,false,false],false⟩ _ ?hl rfl rfl fun cdv Ar outer s H E hr => ⟨_,(qss_cons (qs_set (i:=3) S.nd rfl (Or.inl rfl) (QF.qe (qf_call (G_q37) (hr.mono (by decide)) rfl T.m_q37 T.k_q37 T.b_q37 (qk_s (qe_var 0) (qk_s (qe_var 1) (qk_s (qe_var 2) qk_nil))))))
      (qss_cons (qs_setComp (i:=4) ["room","price"] [] ⟨rfl,rfl,by decide +kernel,rfl,rfl,(by first | exact trivial | exact ⟨rfl,trivial⟩ | exact ⟨rfl,rfl,trivial⟩ | exact ⟨rfl,rfl,rfl,trivial⟩ | exact ⟨rfl,rfl,rfl,rfl,trivial⟩),rfl⟩ rfl S.nd rfl (Or.inl rfl) (qi_zip rfl T.z_zip (qa_cons (qe_ix ix_seq dIx (qe_var 0) qe_int (fun _ _ => rfl)) (qa_cons (qe_var 2) qa_nil))) (cg_tup (cgs_cons (cg_name 0) (cgs_cons (cg_name 1) cgs_nil)) (takes_cons1 (takes_cons1 takes_nil))) (fun _ _ _ _ => ⟨(pg_tup rfl (pgs_cons (pg_name (i:=0) (show List.Nodup (["room","price"]:List Str) by decide +kernel) rfl (Or.inl rfl)) (pgs_cons (pg_name (i:=1) (show List.Nodup (["room","price"]:List Str) by decide +kernel) rfl (Or.inl rfl)) pgs_nil))),qif_nil,(qe_call (G_q44) (hr.mono (by decide)) rfl T.m_q44 T.k_q44 T.b_q44 (qk_s (qe_tup (qa_cons (qe_var 0) (qa_cons qe_int qa_nil))) (qk_s (qe_var 1) qk_nil)))⟩))
      (qss_one (qs_ret (qe_call (G_q38) (hr.mono (by decide)) rfl T.m_q38 T.k_q38 T.b_q38 (qk_s (qe_mk op_cat dCat (qe_var 4) (qe_var 3)) qk_nil)))))),fun ds q h => ?_⟩
  case hl => intro ds q h; obtain ⟨ps,rs,as,prs,rfl,_⟩:=h; rfl
  obtain ⟨ps,rs,as,prs,rfl,hT,ha,hp,q0⟩:=h
  have hal:=ha.len
  have hpl:=hp.len
  have hi:=hT.hi
  have hlr:=hT.len
  refine ⟨ps,rs,as,prs,rfl,hT,ha,hp,?_⟩
  have hzl:(zipD (rs.map D.int) (prs.map dQ)).length = ps.length:=by unfold zipD; rw [List.length_zipWith,List.length_map,List.length_map]; (first|lia|omega)
  refine ⟨by rw [hzl]; exact zo105 hpl hi hlr hzl,?_⟩
  refine compD_map boundF ?_ ?_
  · intro d hd k hk
    obtain ⟨j,hj⟩:=List.getElem?_of_mem hd
    obtain ⟨x,y,e1,e2,rfl⟩:=zipD_at hj
    obtain ⟨z,hz,rfl⟩:=map_at e1
    obtain ⟨p,hpm,rfl⟩:∃ r,prs[j]? = some r ∧ dQ r = y:=by rw [List.getElem?_map,Option.map_eq_some_iff] at e2; exact e2
    have bz:=room_bt hT (List.mem_of_getElem? hz)
    have bp:=hp.bt p (List.mem_of_getElem? hpm)
    refine ⟨(z:Rat),p,by rw [← dQ_int],bz.mono (by decide),bp.mono (by decide),?_⟩
    rw [boundF_dQ] at hk
    exact hk
  · rw [boundF_map]
    have hpal:=paidR_len rs prs
    have hpr:=paidR_all hT hp
    have emap:(paidRooms rs prs).map dQ ++ (as.map fun a => spareQ ps a a.size prs).map dQ = (paidRooms rs prs ++ as.map fun a => spareQ ps a a.size prs).map dQ:=by rw [List.map_append]
    refine ⟨by rw [List.length_map,List.length_map,List.length_map]; (first|lia|omega),?_⟩
    refine ⟨paidRooms rs prs ++ as.map fun a => spareQ ps a a.size prs,prodD prs,by rw [emap]; rfl,by rw [List.length_append,List.length_map]; (first|lia|omega),fun r hr => ?_,prodD_pos prs,Nat.lt_of_le_of_lt (prod_bt hp.bt) (Nat.pow_lt_pow_right (by decide) (by exact zo79 hpl hi hlr hzl)),?_⟩
    · rcases List.mem_append.mp hr with hr | hr
      · exact ⟨Nat.lt_of_lt_of_le (hpr r hr).1.num (two_le (by decide)),(hpr r hr).2⟩
      · obtain ⟨a,hm,rfl⟩:=List.mem_map.mp hr
        exact ⟨Nat.lt_of_lt_of_le (spare_bt hT (ha.ok a hm) hp).num (two_le (by decide)),spare_den hT (ha.ok a hm).ends hpl⟩
    · rw [List.sum_append]
      exact q0
end
end K29
namespace K29
open PySem L2
section
variable {P:Program} {w:World} {K:PySem.W.Frag} {mg:Str → Option Value} {base:Heap} {A:Adr}
theorem wz_bt {ps:List Int} {as:List Ask} {ks:List Int} (ha:AsksOk ps as) (hk:KeepOk as.length ks):Bt ((worthZ as ks:Int):Rat) 60:=by
  have h:=sum_abs_le (n:=1000000000001) (ns:=ks.map fun k => (as.getD k.toNat ask0).worth) fun x hx => by
    obtain ⟨k,hm,rfl⟩:=List.mem_map.mp hx
    have:=hk.lo k hm
    have hok:=ha.ok _ (getD_ask (as:=as) (k:=k.toNat) (by exact zo32 this))
    have:=hok.w0; have:=hok.w1; (first|lia|omega)
  rw [List.length_map] at h
  have h2:=Nat.mul_le_mul_right 1000000000001 (Nat.le_trans hk.len ha.len)
  exact intBt 30000000000030 (show (worthZ as ks).natAbs ≤ _ by unfold worthZ; exact zo187 h h2) (by decide) (by decide)
theorem ok_q22 (T:Txt K mg A):FnOk P w K mg base CX0 12 A.f_q22 A.d_q22 ["tree","asks","thing"] (spOf [false,false,false] false (sdShareN)):=by
  have G_q10:=ok_q10 (P:=P) (w:=w) (base:=base) T
  have G_q18:=ok_q18 (P:=P) (w:=w) (base:=base) T
  have G_q8:=ok_q8 (P:=P) (w:=w) (base:=base) T
  have G_q0:=ok_q0 (P:=P) (w:=w) (base:=base) T
  have G_q4:=ok_q4 (P:=P) (w:=w) (base:=base) T
  have G_q44:=ok_q44 (P:=P) (w:=w) (base:=base) T
  have G_q45:=ok_q45 (P:=P) (w:=w) (base:=base) T
  have G_q26:=ok_q26 (P:=P) (w:=w) (base:=base) T
  have S:=sc_q22
  refine fnD T.F_q22 S ⟨[false,false,false],[false,false,false,false,false,false,false],false⟩ _ ?hl rfl rfl fun cdv Ar outer s H E hr => ⟨_,(qss_cons (qs_expr (qe_call (G_q4) (hr.mono (by decide)) rfl T.m_q4 T.k_q4 T.b_q4 (qk_s (qe_var 0) (qk_s (qe_var 1) qk_nil))))
      (qss_cons (qs_if (QW.qt (qw_or (qt_not (qt_val (qe_isT rfl T.z_isinstance bt_isinstance (qe_var 2) (pe_bltn (v:=.ty "tuple") rfl T.z_tuple bt_tuple rfl)))) (qw_or1 (qt_cmp (op_neD hr.units) dNe (qe_callB call_len_seq dLen rfl T.z_len bt_len (qa_cons (qe_var 2) qa_nil)) qe_int (nomark _))))) (qss_one (qs_ret qe_bl)) qss_nil)
      (qss_cons (qs_asg (qe_var 2) (qg_tup rfl (qgs_cons (qg_name (i:=3) S.nd rfl (Or.inl rfl)) (qgs_cons (qg_name (i:=4) S.nd rfl (Or.inl rfl)) (qgs_cons (qg_name (i:=5) S.nd rfl (Or.inl rfl)) qgs_nil))) (takes_cons1 (takes_cons1 (takes_cons1 takes_nil)))))
      (qss_cons (qs_if (QW.qt (qw_or (qt_not (qt_val (qe_call (G_q0) (hr.mono (by decide)) rfl T.m_q0 T.k_q0 T.b_q0 (qk_s (qe_var 0) (qk_s (qe_var 1) (qk_s (qe_var 3) qk_nil)))))) (qw_or1 (qt_not (qt_val (qe_call (G_q10) (hr.mono (by decide)) rfl T.m_q10 T.k_q10 T.b_q10 (qk_s (qe_var 0) (qk_s (qe_var 4) qk_nil)))))))) (qss_one (qs_ret qe_bl)) qss_nil)
      (qss_cons (qs_if (QW.qt (qw_or (qt_not (qt_val (qe_call (G_q8) (hr.mono (by decide)) rfl T.m_q8 T.k_q8 T.b_q8 (qk_s (qe_var 5) qk_nil)))) (qw_or1 (qt_val (qe_call (G_q45) (hr.mono (by decide)) rfl T.m_q45 T.k_q45 T.b_q45 (qk_s (qe_var 5) (qk_s (qe_tup (qa_cons qe_int (qa_cons qe_int qa_nil))) qk_nil))))))) (qss_one (qs_ret qe_bl)) qss_nil)
      (qss_cons (qs_set (i:=6) S.nd rfl (Or.inl rfl) (qe_call (G_q26) (hr.mono (by decide)) rfl T.m_q26 T.k_q26 T.b_q26 (qk_s (qe_var 0) (qk_s (qe_var 1) (qk_s (qe_var 3) qk_nil)))))
      (qss_one (qs_ret (qe_not (qe_call (G_q45) (hr.mono (by decide)) rfl T.m_q45 T.k_q45 T.b_q45 (qk_s (qe_call (G_q44) (hr.mono (by decide)) rfl T.m_q44 T.k_q44 T.b_q44 (qk_s (qe_var 5) (qk_s (qe_tup (qa_cons (qe_var 6) (qa_cons qe_int qa_nil))) qk_nil))) (qk_s (qe_call (G_q18) (hr.mono (by decide)) rfl T.m_q18 T.k_q18 T.b_q18 (qk_s (qe_var 0) (qk_s (qe_var 1) (qk_s (qe_var 4) qk_nil)))) qk_nil)))))))))))),fun ds q h => ?_⟩
  case hl => intro ds q h; obtain ⟨ps,rs,as,x,rfl,_⟩:=h; rfl
  have h:=shareN_of h
  obtain ⟨ps,rs,as,x,rfl,hT,ha,hx,h⟩:=h
  refine ⟨ps,rs,as,rfl,hT,ha,?_⟩
  rcases h with ⟨hno,q0⟩ | ⟨k,p,o,rfl,hkl,hpl,h⟩
  · cases x with
    | tup ds =>
      refine (ite2 (c:=(!decide ((ds.length:Int) = 3)) = true) (fun c => q0) (fun c => ?_))
      exfalso
      have hl:ds.length = 3:=by simp at c; exact zo250 c
      match ds,hl with
      | [a,b,c],_ => exact hno a b c rfl
    | _ => first | exact q0 | (rw [pln] at hx; cases hx)
  rw [pln,plns_cons,plns_cons,plns_cons] at hx
  refine ⟨ps,rs,as,k,rfl,hT,ha,hx.1,hkl,?_⟩
  rcases h with ⟨n,hn,q0⟩ | ⟨ks,rfl,hn,hk,h⟩
  · exact .inl ⟨n,hn,q0⟩
  refine .inr ⟨ks,rfl,hn,hk,?_⟩
  rcases h with ⟨h1,q0⟩ | ⟨h1,h⟩
  · rw [h1]; exact q0
  rw [h1]
  refine ⟨ps,rs,p,rfl,hT,hx.2.1,hpl,?_⟩
  rcases h with ⟨h2,q0⟩ | ⟨h2,h⟩
  · rw [h2]; exact q0
  rw [h2]
  refine ⟨o,rfl,hx.2.2.1,?_⟩
  rcases h with ⟨h3,q0⟩ | ⟨r,prs,rfl,hr,rfl,hp,h⟩
  · rw [h3]; exact q0
  have hf:frB (dQ r) = true:=by
    show (decide (1 ≤ (r.den:Int)) && decide (gcdP r.num r.den = 1)) = true
    rw [decide_eq_true (gcd_low r),decide_eq_true (by have:=den_posI r; exact zo198 this)]; rfl
  rw [hf]
  refine ⟨r,1,by rw [dQ_one],hr.mono (by decide),bt1 (by decide),?_⟩
  rcases h with ⟨h4,q0⟩ | ⟨h4,q0⟩
  · rw [decide_eq_true h4]; exact q0
  rw [decide_eq_false h4]
  refine ⟨ps,rs,as,ks,rfl,hT,ha,hk,hn,?_⟩
  have hwb:Bt ((worthZ as ks:Int):Rat) 60:=wz_bt ha hk
  refine ⟨r,((worthZ as ks:Int):Rat),by rw [← dQ_int],hr.mono (by decide),hwb.mono (by decide),?_⟩
  refine ⟨ps,rs,as,prs,rfl,hT,ha,hp,?_⟩
  exact ⟨_,_,rfl,(hr.mul hwb).mono (by decide),(bound_bt hT ha hp).mono (by decide),q0⟩
end
end K29
namespace K29
open PySem L2
section
variable {P:Program} {w:World} {K:PySem.W.Frag} {mg:Str → Option Value} {base:Heap} {A:Adr}
theorem ok_q33 (T:Txt K mg A):FnOk P w K mg base CX0 1 A.f_q33 A.d_q33 ["_law_script","_law_k"] (spOf [false,false] false (sdCell K)):=by
  have S:=sc_q33
  refine fnD T.F_q33 S ⟨[false,false],[false,false],false⟩ _ ?hl rfl rfl fun cdv Ar outer s H E hr => ⟨_,(qss_cons (qs_if (qt_cmp op_lt dB (qe_var 1) (qe_callB call_len_seq dLen rfl T.z_len bt_len (qa_cons (qe_var 0) qa_nil)) (nomark _)) (qss_one (qs_ret (qe_ix ix_seq dIx (qe_var 0) (qe_var 1) (fun _ _ => rfl)))) qss_nil)
      (qss_one (qs_ret qe_int))),fun ds q h => ?_⟩
  case hl => intro ds q h; obtain ⟨φ,ns,k,rfl,_⟩:=h; rfl
  obtain ⟨φ,ns,k,rfl,hφ,h0,q0⟩:=h
  refine ⟨hφ,?_⟩
  refine (ite2 (c:=decide (k < (ns.length:Int)) = true) (fun c => ?_) (fun c => ?_))
  · have c':k < ns.length:=by simpa using c
    refine ⟨hφ,?_⟩
    show (match atI ns k with | some n => q (.int n) [] | none => False)
    rw [atI_ns h0 c']; exact q0
  · have c':ns.length ≤ k.toNat:=by simp at c; exact zo137 h0 c
    have e:cellZ ns k = 0:=by unfold cellZ; rw [List.getD_eq_getElem?_getD,List.getElem?_eq_none c']; rfl
    rw [e] at q0; exact q0
theorem ok_q24 (T:Txt K mg A):FnOk P w K mg base CX0 1 A.f_q24 A.d_q24 ["_law_cell_here","_law_k"] (spOf [false,false] true (sdSource)):=by
  have S:=sc_q24
  refine fnD T.F_q24 S ⟨[false,false],[false,false,false,false],true⟩ _ ?hl rfl rfl fun cdv Ar outer s H E hr => ⟨_,(qss_cons (qs_set (i:=2) S.nd rfl (Or.inl rfl) (qe_callB call_abs dAbs rfl T.z_abs bt_abs (qa_cons (qe_var 0) qa_nil)))
      (qss_cons (qs_set (i:=3) S.nd rfl (Or.inl rfl) (qe_op op_mod dIC (qe_op op_mul dIC (qe_op op_add dI (qe_op op_add dI (qe_op op_mod dIC (qe_var 2) qe_int) (qe_op op_mul dIC qe_int (qe_var 1))) qe_int) qe_int) qe_int))
      (qss_cons (qs_if (qt_cmp op_lt dB (qe_var 2) (qe_op op_pow dIC qe_int qe_int) (nomark _)) (qss_one (qs_set (i:=2) S.nd rfl (Or.inl rfl) qe_int)) qss_nil)
      (qss_one (qs_retM (QF.qm (qf_lst (qa_cons (qe_var 2) (qa_cons (qe_var 3) qa_nil))))))))),fun ds q h => ?_⟩
  case hl => intro ds q h; obtain ⟨c,k,rfl,_⟩:=h; rfl
  obtain ⟨c,k,rfl,h0,h1,q0⟩:=h
  obtain ⟨z,hz⟩:∃ z:Int,z = (if c < 0 then -c else c):=⟨_,rfl⟩
  have hz0 : 0 ≤ z:=by rw [hz]; split <;> (first|lia|omega)
  refine ⟨(show (0:Int) < 1000003 by decide),Or.inl ⟨by decide,by decide⟩,Or.inr ⟨by decide,by decide⟩,(show (0:Int) < 2147483647 by decide),?_⟩
  refine ⟨⟨by decide,by decide,by decide⟩,?_⟩
  refine (ite2 (c:=decide ((if c < 0 then -c else c) < 10 ^ 18) = true) (fun c => ?_) (fun c => ?_))
  · exact ⟨rfl,q0 _ _ (Int.le_refl 0)⟩
  · exact ⟨rfl,q0 _ _ (by rw [← hz]; exact hz0)⟩
theorem ok_q34 (T:Txt K mg A):FnOk P w K mg base CX0 1 A.f_q34 A.d_q34 ["_law_source_here","_law_many"] (spOf [true,false] false (sdTake)):=by
  have S:=sc_q34
  refine fnD T.F_q34 S ⟨[true,false],[true,false,false,false],false⟩ _ ?hl rfl rfl fun cdv Ar outer s H E hr => ⟨_,(qss_cons (qs_if (QT.bor [0] (qt_cmp op_gt dB (qe_ix ix_seq dIx (qe_var 0) qe_int (fun _ _ => rfl)) qe_int (nomark _))) (qss_cons (qs_set (i:=2) S.nd rfl (Or.inl rfl) (QE.bor [0] (qe_op op_mod dIC (qe_ix ix_seq dIx (qe_var 0) qe_int (fun _ _ => rfl)) (qe_var 1))))
      (qss_cons (qs_setI (i:=0) rfl (QF.bor [0] (QE.qf (qe_op op_fdivB dIC (qe_ix ix_seq dIx (qe_var 0) qe_int (fun _ _ => rfl)) (qe_var 1)))) qe_int)
      (qss_one (qs_ret (qe_var 2))))) qss_nil)
      (qss_cons (qs_setI (i:=0) rfl (QF.bor [0] (QE.qf (qe_op op_mod dIC (qe_op op_add dI (qe_op op_mul dIC (qe_ix ix_seq dIx (qe_var 0) qe_int (fun _ _ => rfl)) qe_int) qe_int) qe_int))) qe_int)
      (qss_cons (qs_set (i:=3) S.nd rfl (Or.inl rfl) (QE.bor [0] (qe_op op_fdiv dIC (qe_op op_mod dIC (qe_op op_mul dIC (qe_ix ix_seq dIx (qe_var 0) qe_int (fun _ _ => rfl)) (qe_ix ix_seq dIx (qe_var 0) qe_int (fun _ _ => rfl))) qe_int) qe_int)))
      (qss_cons (qs_if (qt_cmp op_gt dB (qe_var 1) (qe_op op_pow dIC qe_int qe_int) (nomark _)) (qss_cons (qs_setI (i:=0) rfl (QF.bor [0] (QE.qf (qe_op op_mod dIC (qe_op op_add dI (qe_op op_mul dIC (qe_ix ix_seq dIx (qe_var 0) qe_int (fun _ _ => rfl)) qe_int) qe_int) qe_int))) qe_int)
      (qss_one (qs_set (i:=3) S.nd rfl (Or.inl rfl) (QE.bor [0] (qe_op op_add dI (qe_op op_mul dIC (qe_var 3) qe_int) (qe_op op_fdiv dIC (qe_op op_mod dIC (qe_op op_mul dIC (qe_ix ix_seq dIx (qe_var 0) qe_int (fun _ _ => rfl)) (qe_ix ix_seq dIx (qe_var 0) qe_int (fun _ _ => rfl))) qe_int) qe_int)))))) qss_nil)
      (qss_one (qs_ret (qe_op op_mod dIC (qe_var 3) (qe_var 1)))))))),fun ds q h => ?_⟩
  case hl => intro ds q h; obtain ⟨c,m,many,rfl,_⟩:=h; rfl
  obtain ⟨c,m,many,rfl,h0,hm,hs,q0⟩:=h
  refine (ite2 (c:=decide (0 < c) = true) (fun c1 => ?_) (fun c1 => ?_))
  · refine ⟨hm,rfl,?_⟩
    refine ⟨⟨hm,hs⟩,rfl,?_⟩
    exact q0 _ (c / many) m (Int.emod_nonneg _ (Int.ne_of_gt hm)) (Int.emod_lt_of_pos _ hm) (Int.ediv_nonneg h0 (Int.le_of_lt hm))
  · refine ⟨Or.inr ⟨by decide,by decide⟩,(show (0:Int) < 2147483647 by decide),rfl,?_⟩
    obtain ⟨m1,hm1⟩:∃ m1,m1 = (m * 48271 + 11) % 2147483647:=⟨_,rfl⟩
    have a1:=Int.emod_nonneg (m * 48271 + 11) (show (2147483647:Int) ≠ 0 by decide)
    have a2:=Int.emod_lt_of_pos (m * 48271 + 11) (show (0:Int) < 2147483647 by decide)
    rw [← hm1] at a1 a2
    rw [hm1] at a1 a2
    have cm:∀ x:Int,CMul ((m * 48271 + 11) % 2147483647) x:=fun x => Or.inl ⟨by exact zo104,by exact zo123⟩
    refine ⟨cm _,(show (0:Int) < 2147483629 by decide),⟨by decide,by decide⟩,rfl,?_⟩
    refine ⟨⟨by decide,by decide,by decide⟩,?_⟩
    refine (ite2 (c:=decide ((10:Int) ^ Int.toNat 7 < many) = true) (fun c2 => ?_) (fun c2 => ?_))
    · refine ⟨cm _,(show (0:Int) < 2147483647 by decide),rfl,?_⟩
      have b1:=Int.emod_nonneg ((m * 48271 + 11) % 2147483647 * 39373 + 17) (show (2147483647:Int) ≠ 0 by decide)
      have b2:=Int.emod_lt_of_pos ((m * 48271 + 11) % 2147483647 * 39373 + 17) (show (0:Int) < 2147483647 by decide)
      refine ⟨Or.inr ⟨by decide,by decide⟩,⟨Or.inl ⟨by exact zo62 b1,by exact zo69 b1⟩,(show (0:Int) < 2147483629 by decide),⟨by decide,by decide⟩,rfl,?_⟩⟩
      refine ⟨hm,?_⟩
      exact q0 _ c _ (Int.emod_nonneg _ (Int.ne_of_gt hm)) (Int.emod_lt_of_pos _ hm) h0
    · refine ⟨hm,?_⟩
      exact q0 _ c _ (Int.emod_nonneg _ (Int.ne_of_gt hm)) (Int.emod_lt_of_pos _ hm) h0
theorem ok_q35 (T:Txt K mg A):FnOk P w K mg base CX0 2 A.f_q35 A.d_q35 ["_law_source_here","_law_most"] (spOf [true,false] true (sdTree2)):=by
  have G_q34:=ok_q34 (P:=P) (w:=w) (base:=base) T
  have S:=sc_q35
  refine fnD T.F_q35 S ⟨[true,false],[true,false,false,false,true,false,false],true⟩ _ ?hl rfl rfl fun cdv Ar outer s H E hr => ⟨_,(qss_cons (qs_set (i:=2) S.nd rfl (Or.inl rfl) (qe_op op_add dI qe_int (qe_call (G_q34) (hr.mono (by decide)) rfl T.m_q34 T.k_q34 T.b_q34 (qk_m 0 (qk_s (qe_var 1) qk_nil)))))
      (qss_cons (qs_set (i:=3) S.nd rfl (Or.inl rfl) (qe_call (G_q34) (hr.mono (by decide)) rfl T.m_q34 T.k_q34 T.b_q34 (qk_m 0 (qk_s qe_int qk_nil))))
      (qss_cons (qs_setO (i:=4) S.nd rfl (Or.inl rfl) (qf_lst qa_nil))
      (qss_cons (qs_for PassesOwn.never rfl (qi_range1 rfl T.z_range (qa_cons (qe_var 2) qa_nil)) (qg_name (i:=5) S.nd rfl (Or.inl rfl)) (qss_one (qs_append (i:=4) rfl (QE.qf (qe_ix ix_seq dIx (qe_lst (qa_cons (qe_call (G_q34) (hr.mono (by decide)) rfl T.m_q34 T.k_q34 T.b_q34 (qk_m 0 (qk_s (qe_op op_add dI (qe_var 5) qe_int) qk_nil))) (qa_cons (qe_var 5) (qa_cons qe_int (qa_cons (qe_op op_fdiv dIC (qe_var 5) qe_int) qa_nil))))) (qe_var 3) (fun _ _ => rfl))))))
      (qss_cons (qs_set (i:=6) S.nd rfl (Or.inr rfl) (qe_ix ix_seq dIx (qe_lst (qa_cons qe_int (qa_cons qe_int (qa_cons qe_int (qa_cons (qe_op op_pow dIC qe_int qe_int) qa_nil))))) (qe_call (G_q34) (hr.mono (by decide)) rfl T.m_q34 T.k_q34 T.b_q34 (qk_m 0 (qk_s qe_int qk_nil))) (fun _ _ => rfl)))
      (qss_one (qs_retM (qm_tup (qms_cons (qm_move 4) (qms_cons (QF.qm (qf_compM ["_law_k"] [0,6] 0 1 ⟨rfl,rfl,by decide +kernel,rfl,rfl,(by first | exact trivial | exact ⟨rfl,trivial⟩ | exact ⟨rfl,rfl,trivial⟩ | exact ⟨rfl,rfl,rfl,trivial⟩ | exact ⟨rfl,rfl,rfl,rfl,trivial⟩),rfl⟩ rfl (qi_range1 rfl T.z_range (qa_cons (qe_var 2) qa_nil)) (cgm_name 0) (fun _ _ _ _ => ⟨(pg_name (i:=0) (show List.Nodup (["_law_k","_law_source_here","_law_wide"]:List Str) by decide +kernel) rfl (Or.inl rfl)),qif_nil,(qe_op op_add dI qe_int (qe_call (G_q34) (hr.mono (by decide)) rfl T.m_q34 T.k_q34 T.b_q34 (qk_m 1 (qk_s (qe_var 2) qk_nil))))⟩))) qms_nil)))))))))),fun ds q h => ?_⟩
  case hl => intro ds q h; obtain ⟨c,m,most,rfl,_⟩:=h; rfl
  obtain ⟨c,m,most,rfl,h0,hm0,hm1,q0⟩:=h
  refine ⟨c,m,most,rfl,h0,hm0,sm_of (n:=23) (by (first|lia|omega)) (by decide +kernel),fun n c1 m1 n0 n1 h1 => ?_⟩
  refine ⟨c1,m1,4,rfl,h1,by decide,sm_of (n:=4) (by decide) (by decide +kernel),fun w0 c2 m2 w00 w01 h2 => ?_⟩
  refine ⟨rfl,?_⟩
  refine ⟨⟨by exact zo129 n0,by exact zo55 hm0 hm1 n1⟩,?_⟩
  refine ⟨fun i ρ => ∃ (ps:List Int) (c m:Int) (v:Option D),ρ = [some (dInts [c,m]),some (.int most),some (.int (1 + n)),some (.int w0),some (dInts ps),v,none] ∧ 0 ≤ c ∧ ps.length = i ∧ (∀ (j:Nat) (x:Int),ps[j]? = some x → 0 ≤ x ∧ x ≤ j),⟨[],c2,m2,_,rfl,h2,rfl,(fun j x h => by simp at h)⟩,?_,?_⟩
  · rintro i d ρ hd ⟨ps,c3,m3,v,rfl,h3,lp,hpar⟩
    obtain ⟨hi,rfl⟩:=rngD_at hd
    have hi2:i < 23:=by exact zo45 hm0 hm1 n0 n1 hi
    refine ⟨c3,m3,0 + (i:Int) + 1,rfl,h3,by exact zo108 lp hi2,sm_of (n:=23) (by (first|lia|omega)) (by decide +kernel),fun r c4 m4 r0 r1 h4 => ?_⟩
    refine ⟨⟨(show (0:Int) < 2 by decide),(show (2:Int) < 1073741824 by decide)⟩,?_⟩
    obtain ⟨y,hy,y1,y2⟩:∃ y:Int,atI [D.int r,D.int (0 + (i:Int)),D.int 0,D.int ((0 + (i:Int)) / 2)] w0 = some (.int y) ∧ 0 ≤ y ∧ y ≤ i:=by
      have:w0 = 0 ∨ w0 = 1 ∨ w0 = 2 ∨ w0 = 3:=by exact zo8 w00 w01
      rcases this with rfl | rfl | rfl | rfl
      all_goals exact ⟨_,rfl,by (first|lia|omega),by (first|lia|omega)⟩
    refine atD_of hy ?_
    refine ⟨rfl,by rw [len_ints]; exact zo118 lp hi2,?_⟩
    refine ⟨ps ++ [y],c4,m4,some (.int (0 + (i:Int))),?_,h4,by rw [List.length_append,lp]; rfl,snoc_at hpar ⟨y1,by exact zo114 lp y2⟩⟩
    rw [← ints_snoc]; rfl
  · rintro ρ ⟨ps,c3,m3,v,rfl,h3,lp,hpar⟩
    rw [rngD_len] at lp
    refine ⟨⟨by decide,by decide,by decide⟩,?_⟩
    refine ⟨c3,m3,4,rfl,h3,by decide,sm_of (n:=4) (by decide) (by decide +kernel),fun r c4 m4 r0 r1 h4 => ?_⟩
    obtain ⟨z,hz,z1,z2⟩:∃ z:Int,atI [D.int 1,D.int 3,D.int 60,D.int (10 ^ Int.toNat 6)] r = some (.int z) ∧ 1 ≤ z ∧ z ≤ 1000000:=by
      have:r = 0 ∨ r = 1 ∨ r = 2 ∨ r = 3:=by exact zo8 r0 r1
      rcases this with rfl | rfl | rfl | rfl
      all_goals exact ⟨_,rfl,by decide,by decide⟩
    refine atD_of hz ?_
    refine ⟨⟨by exact zo129 n0,by exact zo55 hm0 hm1 n1⟩,?_⟩
    refine ⟨by rw [rngD_len]; exact zo70 hm0 hm1 n0 n1,?_⟩
    refine ⟨fun i es d => ∃ (rs:List Int) (c m:Int),es = rs.map D.int ∧ d = dInts [c,m] ∧ 0 ≤ c ∧ rs.length = i ∧ (∀ (j:Nat) (x:Int),rs[j]? = some x → 1 ≤ x ∧ x ≤ 1000000),⟨[],c4,m4,rfl,rfl,h4,rfl,(fun j x h => by simp at h)⟩,?_,?_⟩
    · rintro j x es d hx ⟨rs,c5,m5,rfl,rfl,h5,lr,hroom⟩
      refine ⟨c5,m5,z,rfl,h5,by exact zo146 z1 z2,sm_of (n:=1000000) (by (first|lia|omega)) (by decide +kernel),fun u c6 m6 u0 u1 h6 => ?_⟩
      exact ⟨rs ++ [1 + u],c6,m6,(List.map_append (l₂:=[1 + u])).symm,rfl,h6,by rw [List.length_append,lr]; rfl,snoc_at hroom ⟨by exact zo19 u0,by exact zo52 z1 z2 u1⟩⟩
    · rintro es d ⟨rs,c5,m5,rfl,rfl,h5,lr,hroom⟩
      rw [rngD_len] at lr
      refine ⟨imms_ints _,?_⟩
      exact q0 ps rs c5 m5 ⟨by exact zo49 lp lr,by exact zo27 n0 lp lr,by exact zo26 hm0 hm1 n0 n1 lp lr,hpar,hroom⟩ (by exact zo34 n0 n1 lp lr) h5
theorem ok_q41 (T:Txt K mg A):FnOk P w K mg base CX0 2 A.f_q41 A.d_q41 ["_law_source_here","_law_many","_law_sizes","_law_worths"] (spOf [true,false,false,false] false (sdAskG)):=by
  have G_q34:=ok_q34 (P:=P) (w:=w) (base:=base) T
  have S:=sc_q41
  refine fnD T.F_q41 S ⟨[true,false,false,false],[true,false,false,false,false,false,false],false⟩ _ ?hl rfl rfl fun cdv Ar outer s H E hr => ⟨_,(qss_cons (qs_set (i:=4) S.nd rfl (Or.inl rfl) (qe_call (G_q34) (hr.mono (by decide)) rfl T.m_q34 T.k_q34 T.b_q34 (qk_m 0 (qk_s (qe_op op_add dI (qe_var 1) qe_int) qk_nil))))
      (qss_cons (qs_set (i:=5) S.nd rfl (Or.inl rfl) (qe_op op_mod dIC (qe_op op_add dI (qe_op op_add dI (qe_var 4) qe_int) (qe_call (G_q34) (hr.mono (by decide)) rfl T.m_q34 T.k_q34 T.b_q34 (qk_m 0 (qk_s (qe_var 1) qk_nil)))) (qe_op op_add dI (qe_var 1) qe_int)))
      (qss_cons (qs_set (i:=6) S.nd rfl (Or.inl rfl) (qe_op op_add dI qe_int (qe_call (G_q34) (hr.mono (by decide)) rfl T.m_q34 T.k_q34 T.b_q34 (qk_m 0 (qk_s (qe_ix ix_seq dIx (qe_var 2) (qe_call (G_q34) (hr.mono (by decide)) rfl T.m_q34 T.k_q34 T.b_q34 (qk_m 0 (qk_s (qe_callB call_len_seq dLen rfl T.z_len bt_len (qa_cons (qe_var 2) qa_nil)) qk_nil))) (fun _ _ => rfl)) qk_nil)))))
      (qss_one (qs_ret (qe_tup (qa_cons (qe_var 4) (qa_cons (qe_var 5) (qa_cons (qe_var 6) (qa_cons (qe_op op_add dI qe_int (qe_call (G_q34) (hr.mono (by decide)) rfl T.m_q34 T.k_q34 T.b_q34 (qk_m 0 (qk_s (qe_ix ix_seq dIx (qe_var 3) (qe_call (G_q34) (hr.mono (by decide)) rfl T.m_q34 T.k_q34 T.b_q34 (qk_m 0 (qk_s (qe_callB call_len_seq dLen rfl T.z_len bt_len (qa_cons (qe_var 3) qa_nil)) qk_nil))) (fun _ _ => rfl)) qk_nil)))) qa_nil)))))))))),fun ds q h => ?_⟩
  case hl => intro ds q h; obtain ⟨c,m,ps,rs,n,sizes,worths,rfl,_⟩:=h; rfl
  obtain ⟨c,m,ps,rs,n,sizes,worths,rfl,h0,hT,hn,hs0,hs1,hs,hw0,hw1,hw,q0⟩:=h
  have hi:=hT.hi
  have hlo:=hT.lo
  refine ⟨c,m,n + 1,rfl,h0,by exact zo60 hn hi hlo,sm_of (n:=24) (by (first|lia|omega)) (by decide +kernel),fun a c1 m1 a0 a1 h1 => ?_⟩
  refine ⟨c1,m1,n,rfl,h1,by exact zo201 hn hi hlo,sm_of (n:=24) (by (first|lia|omega)) (by decide +kernel),fun r c2 m2 r0 r1 h2 => ?_⟩
  refine ⟨(show (0:Int) < n + 1 by exact zo60 hn hi hlo),?_⟩
  refine ⟨c2,m2,((sizes.map D.int).length:Int),rfl,h2,by rw [len_ints]; exact zo98 hs0 hs1,sm_of (n:=100) (by rw [len_ints]; (first|lia|omega)) (by decide +kernel),fun k c3 m3 k0 k1 h3 => ?_⟩
  rw [len_ints] at k1
  refine atD_of (atI_ints k0 (by exact zo303 k1)) ?_
  have hz:=hs _ (L2.getD_mem (show k.toNat < sizes.length by exact zo50 hs0 hs1 k1))
  generalize sizes.getD k.toNat 0 = z at hz
  refine ⟨c3,m3,z,rfl,h3,by exact zo149 hz,sm_of (n:=1000000) (by (first|lia|omega)) (by decide +kernel),fun s c4 m4 s0 s1 h4 => ?_⟩
  refine ⟨c4,m4,((worths.map D.int).length:Int),rfl,h4,by rw [len_ints]; exact zo98 hw0 hw1,sm_of (n:=100) (by rw [len_ints]; (first|lia|omega)) (by decide +kernel),fun k2 c5 m5 k20 k21 h5 => ?_⟩
  rw [len_ints] at k21
  refine atD_of (atI_ints k20 (by exact zo303 k21)) ?_
  have hy:=hw _ (L2.getD_mem (show k2.toNat < worths.length by exact zo12 k20 k21))
  generalize worths.getD k2.toNat 0 = y at hy
  refine ⟨c5,m5,y,rfl,h5,by exact zo110 hy,sm_of (n:=1000000000000) (by (first|lia|omega)) (by decide +kernel),fun wo c6 m6 w0 w1 h6 => ?_⟩
  have he:=other_ends (ps:=ps) (a:=a) (r:=r) a0 (by exact zo158 hn a1) r0 (by exact zo175 hn r1)
  have en:n + 1 = 1 + (ps.length:Int):=by exact zo173 hn
  rw [← en] at he
  exact q0 ⟨a,(a + 1 + r) % (n + 1),1 + s,1 + wo⟩ c6 m6 ⟨he,by show 1 ≤ 1 + s; exact zo19 s0,by show 1 + s ≤ 1000000; exact zo59 hz s1,by show 1 ≤ 1 + wo; exact zo19 w0,by show 1 + wo ≤ 1000000000000; exact zo38 hy w1⟩ h6
end
end K29
namespace K29
open PySem L2
section
variable {P:Program} {w:World} {K:PySem.W.Frag} {mg:Str → Option Value} {base:Heap} {A:Adr}
def thg1 (pr:List D) (la:Int):List D:=[.non,.bl true,.bl false,.int 0,.int 5,.str "",.str "share",.lst [],.tup [],.dct,.tup [.lst []],.tup [.lst [],.lst pr]]
theorem thg1_len (pr:List D) (la:Int):(thg1 pr la).length = 12:=rfl
def thg2 (pr:List D) (la:Int):List D:=thg1 pr la ++ [.tup [.lst [],.lst pr,.tup [.int 1,.int 1],.int 1],.lst [.tup [.lst [],.lst pr,.tup [.int 1,.int 1]]]]
theorem thg2_len (pr:List D) (la:Int):(thg2 pr la).length = 14:=by unfold thg2; rw [List.length_append,thg1_len]; rfl
def thg3 (pr:List D) (la:Int):List D:=thg2 pr la ++ [.tup [.tup [.lst [],.lst pr,.tup [.int 1,.int 1]]],.lst [.lst [],.lst pr,.tup [.int 1,.int 1]],.dct,.tup [.non,.lst pr,.tup [.int 1,.int 1]],.tup [.lst [],.non,.tup [.int 1,.int 1]]]
theorem thg3_len (pr:List D) (la:Int):(thg3 pr la).length = 19:=by unfold thg3; rw [List.length_append,thg2_len]; rfl
def thg4 (pr:List D) (la:Int):List D:=thg3 pr la ++ [.tup [.lst [],.lst pr,.non]]
theorem thg4_len (pr:List D) (la:Int):(thg4 pr la).length = 20:=by unfold thg4; rw [List.length_append,thg3_len]; rfl
def thg5 (pr:List D) (la:Int):List D:=thg4 pr la ++ [.tup [.str "",.lst pr,.tup [.int 1,.int 1]],.tup [.lst [],.str "",.tup [.int 1,.int 1]],.tup [.lst [],.lst pr,.str "1"],.tup [.tup [],.lst pr,.tup [.int 1,.int 1]]]
theorem thg5_len (pr:List D) (la:Int):(thg5 pr la).length = 24:=by unfold thg5; rw [List.length_append,thg4_len]; rfl
def thg6 (pr:List D) (la:Int):List D:=thg5 pr la ++ [.tup [.dct,.lst pr,.tup [.int 1,.int 1]]]
theorem thg6_len (pr:List D) (la:Int):(thg6 pr la).length = 25:=by unfold thg6; rw [List.length_append,thg5_len]; rfl
def thg7 (pr:List D) (la:Int):List D:=thg6 pr la ++ [.tup [.lst [],.tup pr,.tup [.int 1,.int 1]],.tup [.lst [],.lst (pr ++ [.tup [.int 0,.int 1]]),.tup [.int 1,.int 1]]]
theorem thg7_len (pr:List D) (la:Int):(thg7 pr la).length = 27:=by unfold thg7; rw [List.length_append,thg6_len]; rfl
def thg8 (pr:List D) (la:Int):List D:=thg7 pr la ++ [.tup [.lst [],.lst (cutD pr (some 1) none),.tup [.int 1,.int 1]]]
theorem thg8_len (pr:List D) (la:Int):(thg8 pr la).length = 28:=by unfold thg8; rw [List.length_append,thg7_len]; rfl
def thg9 (pr:List D) (la:Int):List D:=thg8 pr la ++ [.tup [.lst [],.lst pr,.int 1],.tup [.lst [],.lst pr,.lst [.int 1,.int 1]],.tup [.lst [],.lst pr,.tup [.int 1,.int 2]]]
theorem thg9_len (pr:List D) (la:Int):(thg9 pr la).length = 31:=by unfold thg9; rw [List.length_append,thg8_len]; rfl
def thg10 (pr:List D) (la:Int):List D:=thg9 pr la ++ [.tup [.lst [],.lst pr,.tup [.int 2,.int 2]]]
theorem thg10_len (pr:List D) (la:Int):(thg10 pr la).length = 32:=by unfold thg10; rw [List.length_append,thg9_len]; rfl
def thg11 (pr:List D) (la:Int):List D:=thg10 pr la ++ [.tup [.lst [.non],.lst pr,.tup [.int 1,.int 1]],.tup [.lst [.int la],.lst pr,.tup [.int 1,.int 1]],.tup [.lst [.lst []],.lst pr,.tup [.int 1,.int 1]]]
theorem thg11_len (pr:List D) (la:Int):(thg11 pr la).length = 35:=by unfold thg11; rw [List.length_append,thg10_len]; rfl
def NoSh (N:Nat) (la:Int) (x:D):Prop:=pln x = true ∧ ShSz x ∧ ∀ ps rs as,Tree ps rs → ps.length = N → AsksOk ps as → (as.length:Int) ≤ la → shareB ps rs as x = false
theorem noA {N:Nat} {la:Int} {x:D} (h:pln x = true) (hx:∀ k p o,x ≠ .tup [k,p,o]):NoSh N la x:=⟨h,.no hx,fun ps rs as hT _ ha _ => shareB_not hx⟩
theorem noK {N:Nat} {la:Int} {k p o:D} (h:pln (.tup [k,p,o]) = true) (lk:∀ ds,k = .lst ds → ds.length ≤ 10000) (lp:∀ ds,p = .lst ds → ds.length ≤ 10000) (hz:zerosB p) (ho:smallO o = true) (he:∀ n:Nat,(n:Int) ≤ la → ∃ e,keepErr n k = some e):NoSh N la (.tup [k,p,o]) :=
  ⟨h,.mk3 lk lp hz (smallO_bt ho),fun ps rs as hT _ ha hl => by
    obtain ⟨e,he⟩:=he as.length hl
    rw [shareB_tup,he]; rfl⟩
theorem noP {N:Nat} {la:Int} {p o:D} (h:pln (.tup [.lst [],p,o]) = true) (lp:∀ ds,p = .lst ds → ds.length ≤ 10000) (hz:zerosB p) (ho:smallO o = true) (he:(pricesErr N p).isNone = false):NoSh N la (.tup [.lst [],p,o]) :=
  ⟨h,.mk3 (fun ds e => by cases e; exact Nat.zero_le _) lp hz (smallO_bt ho),fun ps rs as hT hN ha hl => by
    subst hN
    rw [shareB_tup,he,Bool.false_and,Bool.and_false,Bool.and_false]⟩
theorem prs_ok (N:Nat):pricesErr N (.lst (List.replicate N (D.tup [.int 0,.int 1]))) = none:=by
  unfold pricesErr
  simp only
  rw [firstBad_none (fun i d e => ?_)]
  · simp only; rw [if_pos (List.length_replicate ..)]
  · have hm:=List.mem_of_getElem? e
    rw [List.take_replicate] at hm
    rw [List.eq_of_mem_replicate hm]; exact (by decide +kernel:prB (D.tup [.int 0,.int 1]) = true)
theorem prs_len {N:Nat} {ds:List D} (h:ds.length ≠ N):(pricesErr N (.lst ds)).isNone = false:=by
  unfold pricesErr
  simp only
  cases firstBad fPr (ds.take N) 0 with
  | some i => rfl
  | none => simp only; rw [if_neg h]; rfl
theorem prs_non {N:Nat} (h : 1 ≤ N):(pricesErr N (.lst (List.replicate N .non))).isNone = false:=by
  obtain ⟨M,rfl⟩:∃ M,N = M + 1:=⟨N - 1,by exact zo157 h⟩
  unfold pricesErr
  simp only [List.replicate_succ,List.take_succ_cons]
  rfl
theorem plns_prs (N:Nat):plns (List.replicate N (D.tup [.int 0,.int 1])) = true:=plns_of fun d h => by rw [List.eq_of_mem_replicate h]; rfl
theorem zeros_rep (N:Nat):zerosB (.lst (List.replicate N (D.tup [.int 0,.int 1]))):=zeros_of fun d h => .inr (List.eq_of_mem_replicate h)
theorem noO {N:Nat} {la:Int} {o:D} (hN:N ≤ 23) (ho:pln o = true) (hso:smallO o = true) (he:frB o = false):NoSh N la (.tup [.lst [],.lst (List.replicate N (D.tup [.int 0,.int 1])),o]):=by
  have h:pln (.tup [.lst [],.lst (List.replicate N (D.tup [.int 0,.int 1])),o]) = true:=by simp [pln,plns,plns_prs,ho]
  refine ⟨h,.mk3 (fun ds e => by cases e; exact Nat.zero_le _) (fun ds e => by cases e; rw [List.length_replicate]; exact zo80 hN) (zeros_rep N) (smallO_bt hso),fun ps rs as hT hN2 ha hl => ?_⟩
  rw [shareB_tup,he,Bool.false_and,Bool.and_false,Bool.and_false,Bool.and_false]
theorem noR {N:Nat} {la:Int} (hN:N ≤ 23):NoSh N la (.tup [.lst [],.lst (List.replicate N (D.tup [.int 0,.int 1])),.tup [.int 1,.int 2]]):=by
  have h:pln (.tup [.lst [],.lst (List.replicate N (D.tup [.int 0,.int 1])),.tup [.int 1,.int 2]]) = true:=by simp [pln,plns,plns_prs]
  refine ⟨h,.mk3 (fun ds e => by cases e; exact Nat.zero_le _) (fun ds e => by cases e; rw [List.length_replicate]; exact zo80 hN) (zeros_rep N) (smallO_bt (by decide)),fun ps rs as hT hN2 ha hl => ?_⟩
  have e:decide (ratD (.tup [.int 1,.int 2]) < 1) = true:=by decide +kernel
  rw [shareB_tup,e,Bool.not_true,Bool.false_and,Bool.and_false,Bool.and_false,Bool.and_false,Bool.and_false]
theorem noLa {N:Nat} {la:Int} {pr:List D} (hp:plns pr = true) (l0:∀ ds,D.lst pr = .lst ds → ds.length ≤ 10000) (hz:zerosB (.lst pr)):NoSh N la (.tup [.lst [.int la],.lst pr,.tup [.int 1,.int 1]]):=by
  refine noK (by simp [pln,plns,hp]) (fun ds e => by cases e; simp) l0 hz rfl (fun n hn => ⟨.int 0,?_⟩)
  show (keepBad n [.int la] 0 0).map _ = _
  have : ¬ btw 0 ((n:Int) - 1) (.int la) = true:=by
    intro h; obtain ⟨z,e,h0,h1⟩:=btw_shape h; cases e; exact zo282 hn h1
  rw [keepBad,if_neg this]; rfl
theorem noCut {N:Nat} {la:Int} {pr:List D} (h0 : 1 ≤ N) (hp:plns pr = true) (hl:pr.length = N ∧ N ≤ 23) (hz:∀ d ∈ pr,d = .non ∨ d = D.tup [.int 0,.int 1]):NoSh N la (.tup [.lst [],.lst (cutD pr (some 1) none),.tup [.int 1,.int 1]]):=by
  have e:cutD pr (some 1) none = pr.drop 1:=cutD_drop (by decide)
  rw [e]
  have h2:=plns_drop hp 1
  have h3:(pr.drop 1).length ≤ 23 ∧ (pr.drop 1).length ≠ N:=by rw [List.length_drop]; exact zo61 h0 hl
  have h4:∀ d ∈ pr.drop 1,d = .non ∨ d = D.tup [.int 0,.int 1]:=fun d hd => hz d (List.mem_of_mem_drop hd)
  generalize pr.drop 1 = d at h2 h3 h4 ⊢
  exact noP (by simp [pln,plns,h2]) (fun ds e => by cases e; exact zo274 h3) (zeros_of h4) rfl (prs_len h3.2)
theorem ns_cons {N:Nat} {la:Int} {x:D} {xs:List D} (h:NoSh N la x) (t:∀ y ∈ xs,NoSh N la y):∀ y ∈ x :: xs,NoSh N la y:=List.forall_mem_cons.mpr ⟨h,t⟩
theorem ns_nil {N:Nat} {la:Int}:∀ y ∈ ([]:List D),NoSh N la y:=fun y h => by cases h
theorem ns_app {N:Nat} {la:Int} {xs ys:List D} (h:∀ y ∈ xs,NoSh N la y) (t:∀ y ∈ ys,NoSh N la y):∀ y ∈ xs ++ ys,NoSh N la y:=fun y hy => (List.mem_append.mp hy).elim (h y) (t y)
section
variable {N:Nat} {la:Int} {pr:List D} (h0 : 1 ≤ N) (hN:N ≤ 23) (hpr:List.replicate N (D.tup [.int 0,.int 1]) = pr)
include hN hpr
theorem lpr:pr.length = N:=by rw [← hpr]; exact List.length_replicate ..
theorem lp0:∀ ds,D.lst pr = .lst ds → ds.length ≤ 10000:=fun ds e => by cases e; rw [lpr hN hpr]; exact zo80 hN
theorem plp:plns pr = true:=by rw [← hpr]; exact plns_prs N
include h0
theorem th_all (hla : 0 ≤ la):∀ y ∈ thg11 pr la ++ [.tup [.lst [],.lst (List.replicate N .non),.tup [.int 1,.int 1]]],NoSh N la y:=by
  have hp:=plp hN hpr
  have l0:=lp0 hN hpr
  have l1:=lpr hN hpr
  have hz1:∀ d ∈ pr,d = .non ∨ d = D.tup [.int 0,.int 1]:=fun d h => by rw [← hpr] at h; exact .inr (List.eq_of_mem_replicate h)
  have hz:zerosB (.lst pr):=zeros_of hz1
  have ln:∀ {d:D} (ds:List D),(match d with | .lst _ => False | _ => True) → d = .lst ds → ds.length ≤ 10000:=fun ds h e => by subst e; exact h.elim
  have zn:∀ {d:D},(match d with | .lst _ => False | _ => True) → zerosB d:=fun h prs e => by subst e; exact h.elim
  have lz:∀ {n:Nat} (xs ds:List D),xs.length = n → n ≤ 10000 → D.lst xs = .lst ds → ds.length ≤ 10000:=fun xs ds h1 h2 e => by cases e; exact zo194 h1 h2
  unfold thg11 thg10 thg9 thg8 thg7 thg6 thg5 thg4 thg3 thg2 thg1
  repeat' (first | exact ns_nil | refine ns_app ?_ ?_ | refine ns_cons ?_ ?_)
  all_goals first
    | (refine noA ?_ ?_; (simp [pln,plns,hp]); (intro k p o h; cases h; done))
    | (refine noK ?_ (fun ds => ln ds trivial) l0 hz rfl (fun n _ => ⟨_,rfl⟩); (simp [pln,plns,hp]))
    | (refine noP ?_ (fun ds => ln ds trivial) (zn trivial) rfl rfl; (simp [pln,plns,hp]))
    | (subst hpr; refine noO hN ?_ rfl ?_; (simp [pln,plns]); (decide +kernel))
    | (subst hpr; exact noR hN)
    | (refine noP ?_ (fun ds => lz _ ds rfl ?_) (zeros_of fun d hd => (List.mem_append.mp hd).elim (hz1 d) (fun h => .inr (List.mem_singleton.mp h))) rfl (prs_len ?_); (simp [pln,plns,plns_app hp]); (simp; exact zo220 h0 hN l1); (simp; exact zo245 l1))
    | exact noCut h0 hp ⟨l1,hN⟩ hz1
    | (refine noK ?_ (fun ds => lz _ ds rfl ?_) l0 hz rfl (fun n _ => ⟨_,rfl⟩); (simp [pln,plns,hp]); (decide))
    | exact noLa hp l0 hz
    | (refine noP ?_ (fun ds => lz _ ds (List.length_replicate ..) ?_) (zeros_of fun d hd => .inl (List.eq_of_mem_replicate hd)) rfl (prs_non h0); (simp [pln,plns]; exact plns_of fun d h => by rw [List.eq_of_mem_replicate h]; rfl); (exact zo214 h0 hN l1))
end
def sdThing:SpD:=fun ds q => ∃ c m n as,ds = [.int n,dAsks as,dInts [c,m]] ∧ 0 ≤ c ∧ 1 ≤ n ∧ n ≤ 23 ∧ as.length ≤ 30 ∧ ∀ x c' m',NoSh n.toNat as.length x → 0 ≤ c' → q x [some (dInts [c',m'])]
theorem ok_q28 (T:Txt K mg A):FnOk P w K mg base CX0 2 A.f_q28 A.d_q28 ["_law_many","_law_asks","_law_source_here"] (spOf [false,false,true] false (sdThing)):=by
  have G_q34:=ok_q34 (P:=P) (w:=w) (base:=base) T
  have S:=sc_q28
  refine fnD T.F_q28 S ⟨[false,false,true],[false,false,true,false,false,false],false⟩ _ ?hl rfl rfl fun cdv Ar outer s H E hr => ⟨_,(qss_cons (qs_set (i:=3) S.nd rfl (Or.inl rfl) (qe_mk op_rep dRep (qe_lst (qa_cons (qe_tup (qa_cons qe_int (qa_cons qe_int qa_nil))) qa_nil)) (qe_var 0)))
      (qss_cons (qs_set (i:=4) S.nd rfl (Or.inl rfl) (qe_tup (qa_cons (qe_lst qa_nil) (qa_cons (qe_var 3) (qa_cons (qe_tup (qa_cons qe_int (qa_cons qe_int qa_nil))) qa_nil)))))
      (qss_cons (qs_cut (qs_set (i:=5) S.nd rfl (Or.inl rfl) (qe_lst (qa_cons qe_non (qa_cons qe_bl (qa_cons qe_bl (qa_cons qe_int (qa_cons qe_int (qa_cons qe_str (qa_cons qe_str (qa_cons (qe_lst qa_nil) (qa_cons (qe_tup qa_nil) (qa_cons qe_dict0 (qa_cons (qe_tup (qa_cons (qe_lst qa_nil) qa_nil)) (qa_cons (qe_tup (qa_cons (qe_lst qa_nil) (qa_cons (qe_var 3) qa_nil))) qa_nil)))))))))))))))
      (qss_cons (qs_cut (qs_set (i:=5) S.nd rfl (Or.inl rfl) (qe_mk op_cat dCat (qe_var 5) (qe_lst (qa_cons (qe_tup (qa_cons (qe_lst qa_nil) (qa_cons (qe_var 3) (qa_cons (qe_tup (qa_cons qe_int (qa_cons qe_int qa_nil))) (qa_cons qe_int qa_nil))))) (qa_cons (qe_lst (qa_cons (qe_var 4) qa_nil)) qa_nil))))))
      (qss_cons (qs_cut (qs_set (i:=5) S.nd rfl (Or.inl rfl) (qe_mk op_cat dCat (qe_var 5) (qe_lst (qa_cons (qe_tup (qa_cons (qe_var 4) qa_nil)) (qa_cons (qe_callTyN call_list_of dList rfl T.z_list bt_list (qa_cons (qe_var 4) qa_nil)) (qa_cons (qe_dict1 (i:=4) rfl) (qa_cons (qe_tup (qa_cons qe_non (qa_cons (qe_var 3) (qa_cons (qe_tup (qa_cons qe_int (qa_cons qe_int qa_nil))) qa_nil)))) (qa_cons (qe_tup (qa_cons (qe_lst qa_nil) (qa_cons qe_non (qa_cons (qe_tup (qa_cons qe_int (qa_cons qe_int qa_nil))) qa_nil)))) qa_nil)))))))))
      (qss_cons (qs_cut (qs_set (i:=5) S.nd rfl (Or.inl rfl) (qe_mk op_cat dCat (qe_var 5) (qe_lst (qa_cons (qe_tup (qa_cons (qe_lst qa_nil) (qa_cons (qe_var 3) (qa_cons qe_non qa_nil)))) qa_nil)))))
      (qss_cons (qs_cut (qs_set (i:=5) S.nd rfl (Or.inl rfl) (qe_mk op_cat dCat (qe_var 5) (qe_lst (qa_cons (qe_tup (qa_cons qe_str (qa_cons (qe_var 3) (qa_cons (qe_tup (qa_cons qe_int (qa_cons qe_int qa_nil))) qa_nil)))) (qa_cons (qe_tup (qa_cons (qe_lst qa_nil) (qa_cons qe_str (qa_cons (qe_tup (qa_cons qe_int (qa_cons qe_int qa_nil))) qa_nil)))) (qa_cons (qe_tup (qa_cons (qe_lst qa_nil) (qa_cons (qe_var 3) (qa_cons qe_str qa_nil)))) (qa_cons (qe_tup (qa_cons (qe_tup qa_nil) (qa_cons (qe_var 3) (qa_cons (qe_tup (qa_cons qe_int (qa_cons qe_int qa_nil))) qa_nil)))) qa_nil))))))))
      (qss_cons (qs_cut (qs_set (i:=5) S.nd rfl (Or.inl rfl) (qe_mk op_cat dCat (qe_var 5) (qe_lst (qa_cons (qe_tup (qa_cons qe_dict0 (qa_cons (qe_var 3) (qa_cons (qe_tup (qa_cons qe_int (qa_cons qe_int qa_nil))) qa_nil)))) qa_nil)))))
      (qss_cons (qs_cut (qs_set (i:=5) S.nd rfl (Or.inl rfl) (qe_mk op_cat dCat (qe_var 5) (qe_lst (qa_cons (qe_tup (qa_cons (qe_lst qa_nil) (qa_cons (qe_tupOf rfl T.z_tuple bt_tuple (qe_var 3)) (qa_cons (qe_tup (qa_cons qe_int (qa_cons qe_int qa_nil))) qa_nil)))) (qa_cons (qe_tup (qa_cons (qe_lst qa_nil) (qa_cons (qe_mk op_cat dCat (qe_var 3) (qe_lst (qa_cons (qe_tup (qa_cons qe_int (qa_cons qe_int qa_nil))) qa_nil))) (qa_cons (qe_tup (qa_cons qe_int (qa_cons qe_int qa_nil))) qa_nil)))) qa_nil))))))
      (qss_cons (qs_cut (qs_set (i:=5) S.nd rfl (Or.inl rfl) (qe_mk op_cat dCat (qe_var 5) (qe_lst (qa_cons (qe_tup (qa_cons (qe_lst qa_nil) (qa_cons (qe_slice (qe_var 3) (qo_some qe_int) qo_none) (qa_cons (qe_tup (qa_cons qe_int (qa_cons qe_int qa_nil))) qa_nil)))) qa_nil)))))
      (qss_cons (qs_cut (qs_set (i:=5) S.nd rfl (Or.inl rfl) (qe_mk op_cat dCat (qe_var 5) (qe_lst (qa_cons (qe_tup (qa_cons (qe_lst qa_nil) (qa_cons (qe_var 3) (qa_cons qe_int qa_nil)))) (qa_cons (qe_tup (qa_cons (qe_lst qa_nil) (qa_cons (qe_var 3) (qa_cons (qe_lst (qa_cons qe_int (qa_cons qe_int qa_nil))) qa_nil)))) (qa_cons (qe_tup (qa_cons (qe_lst qa_nil) (qa_cons (qe_var 3) (qa_cons (qe_tup (qa_cons qe_int (qa_cons qe_int qa_nil))) qa_nil)))) qa_nil)))))))
      (qss_cons (qs_cut (qs_set (i:=5) S.nd rfl (Or.inl rfl) (qe_mk op_cat dCat (qe_var 5) (qe_lst (qa_cons (qe_tup (qa_cons (qe_lst qa_nil) (qa_cons (qe_var 3) (qa_cons (qe_tup (qa_cons qe_int (qa_cons qe_int qa_nil))) qa_nil)))) qa_nil)))))
      (qss_cons (qs_cut (qs_set (i:=5) S.nd rfl (Or.inl rfl) (qe_mk op_cat dCat (qe_var 5) (qe_lst (qa_cons (qe_tup (qa_cons (qe_lst (qa_cons qe_non qa_nil)) (qa_cons (qe_var 3) (qa_cons (qe_tup (qa_cons qe_int (qa_cons qe_int qa_nil))) qa_nil)))) (qa_cons (qe_tup (qa_cons (qe_lst (qa_cons (qe_callB call_len_seq dLen rfl T.z_len bt_len (qa_cons (qe_var 1) qa_nil)) qa_nil)) (qa_cons (qe_var 3) (qa_cons (qe_tup (qa_cons qe_int (qa_cons qe_int qa_nil))) qa_nil)))) (qa_cons (qe_tup (qa_cons (qe_lst (qa_cons (qe_lst qa_nil) qa_nil)) (qa_cons (qe_var 3) (qa_cons (qe_tup (qa_cons qe_int (qa_cons qe_int qa_nil))) qa_nil)))) qa_nil)))))))
      (qss_cons (qs_set (i:=5) S.nd rfl (Or.inl rfl) (qe_mk op_cat dCat (qe_var 5) (qe_lst (qa_cons (qe_tup (qa_cons (qe_lst qa_nil) (qa_cons (qe_mk op_rep dRep (qe_lst (qa_cons qe_non qa_nil)) (qe_var 0)) (qa_cons (qe_tup (qa_cons qe_int (qa_cons qe_int qa_nil))) qa_nil)))) qa_nil))))
      (qss_one (qs_ret (qe_ix ix_seq dIx (qe_var 5) (qe_call (G_q34) (hr.mono (by decide)) rfl T.m_q34 T.k_q34 T.b_q34 (qk_m 2 (qk_s qe_int qk_nil))) (fun _ _ => rfl)))))))))))))))))),fun ds q h => ?_⟩
  case hl => intro ds q h; obtain ⟨c,m,n,as,rfl,_⟩:=h; rfl
  obtain ⟨c,m,n,as,rfl,h0,n0,n1,hal,q0⟩:=h
  obtain ⟨N,rfl⟩:∃ N:Nat,n = (N:Int):=⟨n.toNat,by exact zo128 n0 n1⟩
  refine ⟨⟨by exact zo217 n0 n1,by exact zo246 n0 n1,by simp; exact zo258 n0 n1⟩,?_⟩
  rw [rep_flat,Int.toNat_natCast]
  have hrl:(List.replicate N (D.tup [.int 0,.int 1])).length = N:=List.length_replicate ..
  generalize hpr:List.replicate N (D.tup [.int 0,.int 1]) = pr at hrl
  refine ⟨fun ρ => ρ = [some (.int N),some (dAsks as),some (dInts [c,m]),some (.lst pr),some (.tup [.lst [],.lst pr,.tup [.int 1,.int 1]]),some (.lst (thg1 pr ((as.map dAsk).length:Int)))],rfl,?_⟩
  rintro ρ rfl
  refine ⟨fun ρ => ρ = [some (.int N),some (dAsks as),some (dInts [c,m]),some (.lst pr),some (.tup [.lst [],.lst pr,.tup [.int 1,.int 1]]),some (.lst (thg2 pr ((as.map dAsk).length:Int)))],⟨by rw [thg1_len]; simp,rfl⟩,?_⟩
  rintro ρ rfl
  refine ⟨fun ρ => ρ = [some (.int N),some (dAsks as),some (dInts [c,m]),some (.lst pr),some (.tup [.lst [],.lst pr,.tup [.int 1,.int 1]]),some (.lst (thg3 pr ((as.map dAsk).length:Int)))],⟨⟨_,rfl⟩,by rw [thg2_len]; simp,rfl⟩,?_⟩
  rintro ρ rfl
  refine ⟨fun ρ => ρ = [some (.int N),some (dAsks as),some (dInts [c,m]),some (.lst pr),some (.tup [.lst [],.lst pr,.tup [.int 1,.int 1]]),some (.lst (thg4 pr ((as.map dAsk).length:Int)))],⟨by rw [thg3_len]; simp,rfl⟩,?_⟩
  rintro ρ rfl
  refine ⟨fun ρ => ρ = [some (.int N),some (dAsks as),some (dInts [c,m]),some (.lst pr),some (.tup [.lst [],.lst pr,.tup [.int 1,.int 1]]),some (.lst (thg5 pr ((as.map dAsk).length:Int)))],⟨by rw [thg4_len]; simp,rfl⟩,?_⟩
  rintro ρ rfl
  refine ⟨fun ρ => ρ = [some (.int N),some (dAsks as),some (dInts [c,m]),some (.lst pr),some (.tup [.lst [],.lst pr,.tup [.int 1,.int 1]]),some (.lst (thg6 pr ((as.map dAsk).length:Int)))],⟨by rw [thg5_len]; simp,rfl⟩,?_⟩
  rintro ρ rfl
  refine ⟨fun ρ => ρ = [some (.int N),some (dAsks as),some (dInts [c,m]),some (.lst pr),some (.tup [.lst [],.lst pr,.tup [.int 1,.int 1]]),some (.lst (thg7 pr ((as.map dAsk).length:Int)))],⟨by simp; exact zo199 n0 n1 hrl,by rw [thg6_len]; simp,rfl⟩,?_⟩
  rintro ρ rfl
  refine ⟨fun ρ => ρ = [some (.int N),some (dAsks as),some (dInts [c,m]),some (.lst pr),some (.tup [.lst [],.lst pr,.tup [.int 1,.int 1]]),some (.lst (thg8 pr ((as.map dAsk).length:Int)))],⟨by rw [thg7_len]; simp,rfl⟩,?_⟩
  rintro ρ rfl
  refine ⟨fun ρ => ρ = [some (.int N),some (dAsks as),some (dInts [c,m]),some (.lst pr),some (.tup [.lst [],.lst pr,.tup [.int 1,.int 1]]),some (.lst (thg9 pr ((as.map dAsk).length:Int)))],⟨by rw [thg8_len]; simp,rfl⟩,?_⟩
  rintro ρ rfl
  refine ⟨fun ρ => ρ = [some (.int N),some (dAsks as),some (dInts [c,m]),some (.lst pr),some (.tup [.lst [],.lst pr,.tup [.int 1,.int 1]]),some (.lst (thg10 pr ((as.map dAsk).length:Int)))],⟨by rw [thg9_len]; simp,rfl⟩,?_⟩
  rintro ρ rfl
  refine ⟨fun ρ => ρ = [some (.int N),some (dAsks as),some (dInts [c,m]),some (.lst pr),some (.tup [.lst [],.lst pr,.tup [.int 1,.int 1]]),some (.lst (thg11 pr ((as.map dAsk).length:Int)))],⟨by rw [thg10_len]; simp,rfl⟩,?_⟩
  rintro ρ rfl
  refine ⟨⟨by exact zo152 n0 n1 hrl,by exact zo182 n0 n1 hrl,by simp; exact zo188 n0 n1 hrl⟩,?_⟩
  rw [rep_flat,Int.toNat_natCast]
  refine ⟨by rw [thg11_len]; simp,?_⟩
  refine ⟨c,m,36,rfl,h0,by decide,sm_of (n:=36) (by decide) (by decide +kernel),fun u c1 m1 u0 u1 h1 => ?_⟩
  obtain ⟨x,hx,e⟩:=atI_any (xs:=thg11 pr ((as.map dAsk).length:Int) ++ [D.tup [.lst [],.lst (List.replicate N .non),.tup [.int 1,.int 1]]]) (i:=u) (by exact zo127 u0 u1) (by rw [List.length_append,thg11_len]; simp; exact zo306 u1)
  refine atD_of e ?_
  have:=th_all (by exact zo170 n0 n1 hrl) (by exact zo185 n0 n1 hrl) hpr (by exact zo54) x hx
  rw [List.length_map] at this
  exact q0 x c1 m1 this h1
end
end K29
namespace K29
open PySem L2
section
variable {P:Program} {w:World} {K:PySem.W.Frag} {mg:Str → Option Value} {base:Heap} {A:Adr}
theorem paper_due {ps rs:List Int} {as:List Ask} (hT:L2.Tree ps rs) (ha:AsksOk ps as):shareB ps rs as (D.tup [.lst [],.lst (List.replicate ps.length (D.tup [.int 0,.int 1])),.tup [.int 3,.int 2]]) = as.isEmpty:=by
  have e1:frB (.tup [.int 3,.int 2]) = true:=by decide +kernel
  have e2:decide (ratD (.tup [.int 3,.int 2]) < 1) = false:=by decide +kernel
  have e3:keepErr as.length (.lst []) = none:=rfl
  have e4:worthZ as (intsD (.lst [])) = 0:=rfl
  have e5:isNon (firstD (loadsZ ps as (intsD (.lst []))) rs) = true:=first0 hT as
  rw [shareB_tup,e1,e2,e3,e4,e5,prs_ok,zeros_dq,ratsD_dQs,bound_zero ha]
  have e6:ratD (.tup [.int 3,.int 2]) * ((0:Int):Rat) = ((0:Int):Rat):=by decide +kernel
  rw [e6]
  cases as with
  | nil => decide +kernel
  | cons a as =>
    have hs : 0 < ((a :: as).map (·.worth)).sum:=by
      have key:∀ l:List Ask,(∀ b ∈ l,1 ≤ b.worth) → 0 ≤ (l.map (·.worth)).sum:=by
        intro l
        induction l with
        | nil => intro _; exact Int.le_refl 0
        | cons b l ih => intro h; have h1:=h b (.head _); have h2:=ih fun x hx => h x (.tail _ hx); rw [List.map_cons,List.sum_cons]; exact zo216 h1 h2
      have h1:=(ha.ok a (.head _)).w0
      have h2:=key as fun b hb => (ha.ok b (.tail _ hb)).w0
      rw [List.map_cons,List.sum_cons]; exact zo222 h1 h2
    rw [decide_eq_true (Rat.intCast_lt_intCast.mpr hs)]; rfl
theorem ok_law (T:Txt K mg A):FnOk P w K mg base CX0 13 A.f_law A.d_law ["_law_script"] (spOf [false] false (sdLaw K)):=by
  have G_q41:=ok_q41 (P:=P) (w:=w) (base:=base) T
  have G_q33:=ok_q33 (P:=P) (w:=w) (base:=base) T
  have G_q24:=ok_q24 (P:=P) (w:=w) (base:=base) T
  have G_q28:=ok_q28 (P:=P) (w:=w) (base:=base) T
  have G_q35:=ok_q35 (P:=P) (w:=w) (base:=base) T
  have G_q22:=ok_q22 (P:=P) (w:=w) (base:=base) T
  have S:=sc_law
  refine fnD T.F_law S ⟨[false],[false,false,false,false,true,false,false],false⟩ _ ?hl rfl rfl fun cdv Ar outer s H E hr => ⟨_,(qss_cons (qs_set (i:=1) S.nd rfl (Or.inl rfl) (QF.qe (qf_call (G_q35) (hr.mono (by decide)) rfl T.m_q35 T.k_q35 T.b_q35 (qk_t (qf_call (G_q24) (hr.mono (by decide)) rfl T.m_q24 T.k_q24 T.b_q24 (qk_s (qe_call (G_q33) (hr.mono (by decide)) rfl T.m_q33 T.k_q33 T.b_q33 (qk_s (qe_var 0) (qk_s qe_int qk_nil))) (qk_s qe_int qk_nil))) (qk_s qe_int qk_nil)))))
      (fl_begin (i:=2) S.nd rfl (Or.inl rfl) (qn_lst qa_nil)
      (fe_cons (fl_for PassesOwn.never rfl (j:=3) S.nd rfl (Or.inl rfl) (qi_range2 rfl T.z_range (qa_cons qe_int (qa_cons (qe_callB (call_min2 rfl) dMin rfl T.z_min bt_min (qa_cons (qe_callB call_len_seq dLen rfl T.z_len bt_len (qa_cons (qe_var 0) qa_nil)) (qa_cons qe_int qa_nil))) qa_nil))) (fls_cons (fl_setO (j:=4) S.nd rfl (Or.inl rfl) (qf_call (G_q24) (hr.mono (by decide)) rfl T.m_q24 T.k_q24 T.b_q24 (qk_s (qe_call (G_q33) (hr.mono (by decide)) rfl T.m_q33 T.k_q33 T.b_q33 (qk_s (qe_var 0) (qk_s (qe_var 3) qk_nil))) (qk_s (qe_var 3) qk_nil)))) (fls_cons (fl_append rfl (qe_call (G_q41) (hr.mono (by decide)) rfl T.m_q41 T.k_q41 T.b_q41 (qk_m 4 (qk_s (qe_callB call_len_seq dLen rfl T.z_len bt_len (qa_cons (qe_ix ix_seq dIx (qe_var 1) qe_int (fun _ _ => rfl)) qa_nil)) (qk_s (qe_lst (qa_cons qe_int (qa_cons (qe_op op_pow dIC qe_int qe_int) qa_nil))) (qk_s (qe_lst (qa_cons qe_int (qa_cons (qe_op op_pow dIC qe_int qe_int) qa_nil))) qk_nil)))))) fls_nil)))
      (fe_end (qss_cons (qs_for PassesOwn.never rfl (qi_range2 rfl T.z_range (qa_cons qe_int (qa_cons (qe_callB (call_max2 rfl) dMax rfl T.z_max bt_max (qa_cons qe_int (qa_cons (qe_callB (call_min2 rfl) dMin rfl T.z_min bt_min (qa_cons (qe_callB call_len_seq dLen rfl T.z_len bt_len (qa_cons (qe_var 0) qa_nil)) (qa_cons qe_int qa_nil))) qa_nil))) qa_nil))) (qg_name (i:=3) S.nd rfl (Or.inl rfl)) (qss_cons (qs_set (i:=5) S.nd rfl (Or.inl rfl) (qe_call (G_q28) (hr.mono (by decide)) rfl T.m_q28 T.k_q28 T.b_q28 (qk_s (qe_callB call_len_seq dLen rfl T.z_len bt_len (qa_cons (qe_ix ix_seq dIx (qe_var 1) qe_int (fun _ _ => rfl)) qa_nil)) (qk_s (qe_var 2) (qk_t (qf_call (G_q24) (hr.mono (by decide)) rfl T.m_q24 T.k_q24 T.b_q24 (qk_s (qe_call (G_q33) (hr.mono (by decide)) rfl T.m_q33 T.k_q33 T.b_q33 (qk_s (qe_var 0) (qk_s (qe_var 3) qk_nil))) (qk_s (qe_op op_add dI qe_int (qe_var 3)) qk_nil))) qk_nil)))))
      (qss_one (qs_if (QW.qt (qw_or (qt_cmp op_isnotB dIsNB (qe_call (G_q22) (hr.mono (by decide)) rfl T.m_q22 T.k_q22 T.b_q22 (qk_s (qe_var 1) (qk_s (qe_var 2) (qk_s (qe_var 5) qk_nil)))) qe_bl (nomark _)) (qw_or1 (qt_cmp op_isnotB dIsNB (qe_call (G_q22) (hr.mono (by decide)) rfl T.m_q22 T.k_q22 T.b_q22 (qk_s (qe_var 1) (qk_s (qe_lst qa_nil) (qk_s (qe_var 5) qk_nil)))) qe_bl (nomark _))))) (qss_one (qs_ret qe_bl)) qss_nil))))
      (qss_cons (qs_set (i:=6) S.nd rfl (Or.inl rfl) (qe_tup (qa_cons (qe_lst qa_nil) (qa_cons (qe_mk op_rep dRep (qe_lst (qa_cons (qe_tup (qa_cons qe_int (qa_cons qe_int qa_nil))) qa_nil)) (qe_callB call_len_seq dLen rfl T.z_len bt_len (qa_cons (qe_ix ix_seq dIx (qe_var 1) qe_int (fun _ _ => rfl)) qa_nil))) (qa_cons (qe_tup (qa_cons qe_int (qa_cons qe_int qa_nil))) qa_nil)))))
      (qss_cons (qs_if (qt_cmp op_isnotB dIsNB (qe_call (G_q22) (hr.mono (by decide)) rfl T.m_q22 T.k_q22 T.b_q22 (qk_s (qe_var 1) (qk_s (qe_lst qa_nil) (qk_s (qe_var 6) qk_nil)))) qe_bl (nomark _)) (qss_one (qs_ret qe_bl)) qss_nil)
      (qss_one (qs_ret (qe_or (qe_cmp (op_eqD hr.units) dEq (qe_var 2) (qe_lst qa_nil) (nomark _)) (qe_one (qe_cmp op_isB dIsB (qe_call (G_q22) (hr.mono (by decide)) rfl T.m_q22 T.k_q22 T.b_q22 (qk_s (qe_var 1) (qk_s (qe_var 2) (qk_s (qe_var 6) qk_nil)))) qe_bl (nomark _))))))))))))),fun ds q h => ?_⟩
  case hl => intro ds q h; obtain ⟨φ,ns,rfl,_⟩:=h; rfl
  obtain ⟨φ,ns,rfl,hφ,hl,q0⟩:=h
  refine ⟨φ,ns,0,rfl,hφ,by decide,?_⟩
  refine ⟨_,0,rfl,by decide,by decide,fun c m h0 => ?_⟩
  refine ⟨c,m,9,rfl,h0,by decide,by decide,fun ps rs c1 m1 hT hle h1 => ?_⟩
  have hi:=hT.hi
  refine ⟨by show 2 < 7; decide,?_⟩
  refine ⟨hφ,?_⟩
  refine ⟨⟨by decide,by decide,by split <;> (first|lia|omega),by split <;> (first|lia|omega)⟩,?_⟩
  refine ⟨fun i ds ρ => ∃ (as:List Ask) (v3 v4:Option D),ds = as.map dAsk ∧ ρ = [some (.scr φ ns),some (dPair ps rs),none,v3,v4,none,none] ∧ as.length = i ∧ (∀ a ∈ as,AskOk ps a),⟨[],_,_,rfl,rfl,rfl,fun a h => by cases h⟩,?_,?_⟩
  · rintro i d ds ρ hd ⟨as,v4,v5,rfl,rfl,la,hok⟩
    obtain ⟨hi2,rfl⟩:=rngD_at hd
    have hi3:i < 30:=by revert hi2; split <;> (first|lia|omega)
    refine ⟨φ,ns,2 + (i:Int),rfl,hφ,by exact zo35 la hi3,?_⟩
    refine ⟨_,2 + (i:Int),rfl,by exact zo35 la hi3,by exact zo122 la hi3,fun c2 m2 h2 => ?_⟩
    refine ⟨⟨by decide,by decide,by decide⟩,⟨by decide,by decide,by decide⟩,?_⟩
    refine ⟨c2,m2,ps,rs,((ps.map D.int).length:Int),[1,10 ^ Int.toNat 6],[9,10 ^ Int.toNat 12],rfl,h2,hT,by rw [len_ints],by decide,by decide,by decide,by decide,by decide,by decide,fun a c3 m3 ha h3 => ?_⟩
    refine ⟨by rw [len_asks]; exact zo150 la hi3,?_⟩
    refine ⟨as ++ [a],_,_,by rw [List.map_append]; rfl,rfl,by rw [List.length_append,la]; rfl,fun b hb => ?_⟩
    rcases List.mem_append.mp hb with hb | hb
    · exact hok b hb
    · have:b = a:=List.mem_singleton.mp hb
      subst this; exact ha
  · rintro ds ρ ⟨as,v4,v5,rfl,rfl,la,hok⟩
    rw [rngD_len] at la
    have ha:AsksOk ps as:=⟨by revert la; split <;> (first|lia|omega),hok⟩
    have hal:=ha.len
    refine ⟨hφ,?_⟩
    refine ⟨⟨by decide,by decide,by split <;> split <;> (first|lia|omega),by split <;> split <;> (first|lia|omega)⟩,?_⟩
    refine ⟨fun i ρ => ∃ (v3 v4 v5:Option D),ρ = [some (.scr φ ns),some (dPair ps rs),some (dAsks as),v3,v4,v5,none],⟨_,_,_,rfl⟩,?_,?_⟩
    · rintro i d ρ hd ⟨v3,v4,v5,rfl⟩
      obtain ⟨hi2,rfl⟩:=rngD_at hd
      refine ⟨φ,ns,1 + (i:Int),rfl,hφ,by exact zo212,?_⟩
      refine ⟨_,500 + (1 + (i:Int)),rfl,by exact zo195,by revert hi2; split <;> split <;> (first|lia|omega),fun c2 m2 h2 => ?_⟩
      refine ⟨c2,m2,((ps.map D.int).length:Int),as,rfl,h2,by rw [len_ints]; have:=hT.lo; exact zo206 hle this,by rw [len_ints]; exact zo251 hle,hal,fun x c3 m3 hx h3 => ?_⟩
      rw [len_ints,Int.toNat_natCast] at hx
      refine ⟨ps,rs,as,x,rfl,hT,ha,hx.1,hx.2.1,?_⟩
      rw [hx.2.2 ps rs as hT rfl ha (by exact zo273)]
      refine ⟨ps,rs,[],x,rfl,hT,⟨by decide,fun a h => by cases h⟩,hx.1,hx.2.1,?_⟩
      rw [hx.2.2 ps rs [] hT rfl ⟨by decide,fun a h => by cases h⟩ (by simp)]
      exact ⟨_,_,_,rfl⟩
    · rintro ρ ⟨v3,v4,v5,rfl⟩
      have hN:ps.length ≤ 23:=hi
      refine ⟨⟨by rw [len_ints]; exact zo219 hle,by rw [len_ints]; exact zo255 hle,by simp; exact zo266 hle⟩,?_⟩
      rw [rep_flat,len_ints,Int.toNat_natCast]
      have hpl:pln (D.tup [.lst [],.lst (List.replicate ps.length (D.tup [.int 0,.int 1])),.tup [.int 3,.int 2]]) = true:=by simp [pln,plns,plns_prs]
      have hsz:ShSz (D.tup [.lst [],.lst (List.replicate ps.length (D.tup [.int 0,.int 1])),.tup [.int 3,.int 2]]):=.mk3 (fun ds e => by cases e; exact Nat.zero_le _) (fun ds e => by cases e; rw [List.length_replicate]; exact zo267 hle) (zeros_rep _) (smallO_bt (by decide))
      have h0k:AsksOk ps []:=⟨by decide,fun a h => by cases h⟩
      refine ⟨ps,rs,[],_,rfl,hT,h0k,hpl,hsz,?_⟩
      rw [paper_due hT h0k]
      refine ⟨okD_lay (lay_dAsks 0 as) (by decide),okD_ints [],?_⟩
      cases as with
      | nil => exact q0
      | cons a as =>
        refine ⟨ps,rs,a :: as,_,rfl,hT,ha,hpl,hsz,?_⟩
        rw [paper_due hT ha]
        exact q0
end
end K29
namespace K29
open PySem L2
theorem lenS {us:List Value} {n:Nat} (h:us.length = n + 1):∃ a r,us = a :: r ∧ r.length = n:=by
  cases us with
  | nil => cases h
  | cons a r => exact ⟨a,r,rfl,Nat.succ.inj h⟩
theorem us1 {fd:FuncData} {ps:List Str} (h:∀ a0,bindArgs fd ⟨[a0],[]⟩ = pure (ps.zip [a0])):∀ us:List Value,us.length = 1 → bindArgs fd ⟨us,[]⟩ = pure (ps.zip us):=fun us hl => by
  obtain ⟨a0,u0,rfl,h0⟩:=lenS hl
  cases List.eq_nil_of_length_eq_zero h0
  exact h a0
theorem us2 {fd:FuncData} {ps:List Str} (h:∀ a0 a1,bindArgs fd ⟨[a0,a1],[]⟩ = pure (ps.zip [a0,a1])):∀ us:List Value,us.length = 2 → bindArgs fd ⟨us,[]⟩ = pure (ps.zip us):=fun us hl => by
  obtain ⟨a0,u0,rfl,h0⟩:=lenS hl
  obtain ⟨a1,u1,rfl,h1⟩:=lenS h0
  cases List.eq_nil_of_length_eq_zero h1
  exact h a0 a1
theorem us3 {fd:FuncData} {ps:List Str} (h:∀ a0 a1 a2,bindArgs fd ⟨[a0,a1,a2],[]⟩ = pure (ps.zip [a0,a1,a2])):∀ us:List Value,us.length = 3 → bindArgs fd ⟨us,[]⟩ = pure (ps.zip us):=fun us hl => by
  obtain ⟨a0,u0,rfl,h0⟩:=lenS hl
  obtain ⟨a1,u1,rfl,h1⟩:=lenS h0
  obtain ⟨a2,u2,rfl,h2⟩:=lenS h1
  cases List.eq_nil_of_length_eq_zero h2
  exact h a0 a1 a2
theorem us4 {fd:FuncData} {ps:List Str} (h:∀ a0 a1 a2 a3,bindArgs fd ⟨[a0,a1,a2,a3],[]⟩ = pure (ps.zip [a0,a1,a2,a3])):∀ us:List Value,us.length = 4 → bindArgs fd ⟨us,[]⟩ = pure (ps.zip us):=fun us hl => by
  obtain ⟨a0,u0,rfl,h0⟩:=lenS hl
  obtain ⟨a1,u1,rfl,h1⟩:=lenS h0
  obtain ⟨a2,u2,rfl,h2⟩:=lenS h1
  obtain ⟨a3,u3,rfl,h3⟩:=lenS h2
  cases List.eq_nil_of_length_eq_zero h3
  exact h a0 a1 a2 a3
theorem all_mk {l:PySem.W.OpenLaw} {w:World} {K:PySem.W.Frag} {h:Heap} {mg:Str → Option Value} {fa f_q23 f_q12 f_q1 f_q8 f_q3 f_q7 f_q20 f_q17 f_q32 f_q4 f_q19 f_q43 f_q44 f_q38 f_q45 f_q5 f_q40 f_q9 f_q39 f_q6 f_q36 f_q13 f_q42 f_q11 f_q26 f_q21 f_q2 f_q25 f_q37 f_q18 f_q0 f_q10 f_q22 f_q33 f_q24 f_q34 f_q35 f_q41 f_q28 f_law:Addr} (X:K.In h) (G:h.Ns mainGlobals mg) (hfa:mg "law" = some (.ref fa))
    {od_q23 an_q23:Option Addr} {sl_q23:Array (Option Value)} {oc_q23 kV_q23 dc_q23 pm_q23 cd_q23 ct_q23:Value} (a_q23:PySem.W.nsIn K mainGlobals "is_whole" = some (some (.ref f_q23))) (l_q23:K.lookup f_q23 = some ⟨oc_q23,od_q23,.func (PySem.W.fnOf "is_whole" "is_whole" (defArgs s_q23) (defBody s_q23) (defScope s_q23) .none kV_q23 dc_q23 pm_q23 an_q23 cd_q23 ct_q23),sl_q23⟩) (c_q23:PySem.W.codeIn K cd_q23 "is_whole" = true) (k_q23:PySem.W.keepIn K (.ref f_q23) = true)
    {od_q12 an_q12:Option Addr} {sl_q12:Array (Option Value)} {oc_q12 kV_q12 dc_q12 pm_q12 cd_q12 ct_q12:Value} (a_q12:PySem.W.nsIn K mainGlobals "is_between" = some (some (.ref f_q12))) (l_q12:K.lookup f_q12 = some ⟨oc_q12,od_q12,.func (PySem.W.fnOf "is_between" "is_between" (defArgs s_q12) (defBody s_q12) (defScope s_q12) .none kV_q12 dc_q12 pm_q12 an_q12 cd_q12 ct_q12),sl_q12⟩) (c_q12:PySem.W.codeIn K cd_q12 "is_between" = true) (k_q12:PySem.W.keepIn K (.ref f_q12) = true)
    {od_q1 an_q1:Option Addr} {sl_q1:Array (Option Value)} {oc_q1 kV_q1 dc_q1 pm_q1 cd_q1 ct_q1:Value} (a_q1:PySem.W.nsIn K mainGlobals "greatest_common" = some (some (.ref f_q1))) (l_q1:K.lookup f_q1 = some ⟨oc_q1,od_q1,.func (PySem.W.fnOf "greatest_common" "greatest_common" (defArgs s_q1) (defBody s_q1) (defScope s_q1) .none kV_q1 dc_q1 pm_q1 an_q1 cd_q1 ct_q1),sl_q1⟩) (c_q1:PySem.W.codeIn K cd_q1 "greatest_common" = true) (k_q1:PySem.W.keepIn K (.ref f_q1) = true)
    {od_q8 an_q8:Option Addr} {sl_q8:Array (Option Value)} {oc_q8 kV_q8 dc_q8 pm_q8 cd_q8 ct_q8:Value} (a_q8:PySem.W.nsIn K mainGlobals "is_fraction" = some (some (.ref f_q8))) (l_q8:K.lookup f_q8 = some ⟨oc_q8,od_q8,.func (PySem.W.fnOf "is_fraction" "is_fraction" (defArgs s_q8) (defBody s_q8) (defScope s_q8) .none kV_q8 dc_q8 pm_q8 an_q8 cd_q8 ct_q8),sl_q8⟩) (c_q8:PySem.W.codeIn K cd_q8 "is_fraction" = true) (k_q8:PySem.W.keepIn K (.ref f_q8) = true)
    {od_q3 an_q3:Option Addr} {sl_q3:Array (Option Value)} {oc_q3 kV_q3 dc_q3 pm_q3 cd_q3 ct_q3:Value} (a_q3:PySem.W.nsIn K mainGlobals "has_two_lists" = some (some (.ref f_q3))) (l_q3:K.lookup f_q3 = some ⟨oc_q3,od_q3,.func (PySem.W.fnOf "has_two_lists" "has_two_lists" (defArgs s_q3) (defBody s_q3) (defScope s_q3) .none kV_q3 dc_q3 pm_q3 an_q3 cd_q3 ct_q3),sl_q3⟩) (c_q3:PySem.W.codeIn K cd_q3 "has_two_lists" = true) (k_q3:PySem.W.keepIn K (.ref f_q3) = true)
    {od_q7 an_q7:Option Addr} {sl_q7:Array (Option Value)} {oc_q7 kV_q7 dc_q7 pm_q7 cd_q7 ct_q7:Value} (a_q7:PySem.W.nsIn K mainGlobals "look_at_tree" = some (some (.ref f_q7))) (l_q7:K.lookup f_q7 = some ⟨oc_q7,od_q7,.func (PySem.W.fnOf "look_at_tree" "look_at_tree" (defArgs s_q7) (defBody s_q7) (defScope s_q7) .none kV_q7 dc_q7 pm_q7 an_q7 cd_q7 ct_q7),sl_q7⟩) (c_q7:PySem.W.codeIn K cd_q7 "look_at_tree" = true) (k_q7:PySem.W.keepIn K (.ref f_q7) = true)
    {od_q20 an_q20:Option Addr} {sl_q20:Array (Option Value)} {oc_q20 kV_q20 dc_q20 pm_q20 cd_q20 ct_q20:Value} (a_q20:PySem.W.nsIn K mainGlobals "is_place" = some (some (.ref f_q20))) (l_q20:K.lookup f_q20 = some ⟨oc_q20,od_q20,.func (PySem.W.fnOf "is_place" "is_place" (defArgs s_q20) (defBody s_q20) (defScope s_q20) .none kV_q20 dc_q20 pm_q20 an_q20 cd_q20 ct_q20),sl_q20⟩) (c_q20:PySem.W.codeIn K cd_q20 "is_place" = true) (k_q20:PySem.W.keepIn K (.ref f_q20) = true)
    {od_q17 an_q17:Option Addr} {sl_q17:Array (Option Value)} {oc_q17 kV_q17 dc_q17 pm_q17 cd_q17 ct_q17:Value} (a_q17:PySem.W.nsIn K mainGlobals "are_ends" = some (some (.ref f_q17))) (l_q17:K.lookup f_q17 = some ⟨oc_q17,od_q17,.func (PySem.W.fnOf "are_ends" "are_ends" (defArgs s_q17) (defBody s_q17) (defScope s_q17) .none kV_q17 dc_q17 pm_q17 an_q17 cd_q17 ct_q17),sl_q17⟩) (c_q17:PySem.W.codeIn K cd_q17 "are_ends" = true) (k_q17:PySem.W.keepIn K (.ref f_q17) = true)
    {od_q32 an_q32:Option Addr} {sl_q32:Array (Option Value)} {oc_q32 kV_q32 dc_q32 pm_q32 cd_q32 ct_q32:Value} (a_q32:PySem.W.nsIn K mainGlobals "is_ask" = some (some (.ref f_q32))) (l_q32:K.lookup f_q32 = some ⟨oc_q32,od_q32,.func (PySem.W.fnOf "is_ask" "is_ask" (defArgs s_q32) (defBody s_q32) (defScope s_q32) .none kV_q32 dc_q32 pm_q32 an_q32 cd_q32 ct_q32),sl_q32⟩) (c_q32:PySem.W.codeIn K cd_q32 "is_ask" = true) (k_q32:PySem.W.keepIn K (.ref f_q32) = true)
    {od_q4 an_q4:Option Addr} {sl_q4:Array (Option Value)} {oc_q4 kV_q4 dc_q4 pm_q4 cd_q4 ct_q4:Value} (a_q4:PySem.W.nsIn K mainGlobals "look_at_asks" = some (some (.ref f_q4))) (l_q4:K.lookup f_q4 = some ⟨oc_q4,od_q4,.func (PySem.W.fnOf "look_at_asks" "look_at_asks" (defArgs s_q4) (defBody s_q4) (defScope s_q4) .none kV_q4 dc_q4 pm_q4 an_q4 cd_q4 ct_q4),sl_q4⟩) (c_q4:PySem.W.codeIn K cd_q4 "look_at_asks" = true) (k_q4:PySem.W.keepIn K (.ref f_q4) = true)
    {od_q19 an_q19:Option Addr} {sl_q19:Array (Option Value)} {oc_q19 kV_q19 dc_q19 pm_q19 cd_q19 ct_q19:Value} (a_q19:PySem.W.nsIn K mainGlobals "fraction" = some (some (.ref f_q19))) (l_q19:K.lookup f_q19 = some ⟨oc_q19,od_q19,.func (PySem.W.fnOf "fraction" "fraction" (defArgs s_q19) (defBody s_q19) (defScope s_q19) .none kV_q19 dc_q19 pm_q19 an_q19 cd_q19 ct_q19),sl_q19⟩) (c_q19:PySem.W.codeIn K cd_q19 "fraction" = true) (k_q19:PySem.W.keepIn K (.ref f_q19) = true)
    {od_q43 an_q43:Option Addr} {sl_q43:Array (Option Value)} {oc_q43 kV_q43 dc_q43 pm_q43 cd_q43 ct_q43:Value} (a_q43:PySem.W.nsIn K mainGlobals "minus" = some (some (.ref f_q43))) (l_q43:K.lookup f_q43 = some ⟨oc_q43,od_q43,.func (PySem.W.fnOf "minus" "minus" (defArgs s_q43) (defBody s_q43) (defScope s_q43) .none kV_q43 dc_q43 pm_q43 an_q43 cd_q43 ct_q43),sl_q43⟩) (c_q43:PySem.W.codeIn K cd_q43 "minus" = true) (k_q43:PySem.W.keepIn K (.ref f_q43) = true)
    {od_q44 an_q44:Option Addr} {sl_q44:Array (Option Value)} {oc_q44 kV_q44 dc_q44 pm_q44 cd_q44 ct_q44:Value} (a_q44:PySem.W.nsIn K mainGlobals "times" = some (some (.ref f_q44))) (l_q44:K.lookup f_q44 = some ⟨oc_q44,od_q44,.func (PySem.W.fnOf "times" "times" (defArgs s_q44) (defBody s_q44) (defScope s_q44) .none kV_q44 dc_q44 pm_q44 an_q44 cd_q44 ct_q44),sl_q44⟩) (c_q44:PySem.W.codeIn K cd_q44 "times" = true) (k_q44:PySem.W.keepIn K (.ref f_q44) = true)
    {od_q38 an_q38:Option Addr} {sl_q38:Array (Option Value)} {oc_q38 kV_q38 dc_q38 pm_q38 cd_q38 ct_q38:Value} (a_q38:PySem.W.nsIn K mainGlobals "sum_of" = some (some (.ref f_q38))) (l_q38:K.lookup f_q38 = some ⟨oc_q38,od_q38,.func (PySem.W.fnOf "sum_of" "sum_of" (defArgs s_q38) (defBody s_q38) (defScope s_q38) .none kV_q38 dc_q38 pm_q38 an_q38 cd_q38 ct_q38),sl_q38⟩) (c_q38:PySem.W.codeIn K cd_q38 "sum_of" = true) (k_q38:PySem.W.keepIn K (.ref f_q38) = true)
    {od_q45 an_q45:Option Addr} {sl_q45:Array (Option Value)} {oc_q45 kV_q45 dc_q45 pm_q45 cd_q45 ct_q45:Value} (a_q45:PySem.W.nsIn K mainGlobals "under" = some (some (.ref f_q45))) (l_q45:K.lookup f_q45 = some ⟨oc_q45,od_q45,.func (PySem.W.fnOf "under" "under" (defArgs s_q45) (defBody s_q45) (defScope s_q45) .none kV_q45 dc_q45 pm_q45 an_q45 cd_q45 ct_q45),sl_q45⟩) (c_q45:PySem.W.codeIn K cd_q45 "under" = true) (k_q45:PySem.W.keepIn K (.ref f_q45) = true)
    {od_q5 an_q5:Option Addr} {sl_q5:Array (Option Value)} {oc_q5 kV_q5 dc_q5 pm_q5 cd_q5 ct_q5:Value} (a_q5:PySem.W.nsIn K mainGlobals "look_at_ends" = some (some (.ref f_q5))) (l_q5:K.lookup f_q5 = some ⟨oc_q5,od_q5,.func (PySem.W.fnOf "look_at_ends" "look_at_ends" (defArgs s_q5) (defBody s_q5) (defScope s_q5) .none kV_q5 dc_q5 pm_q5 an_q5 cd_q5 ct_q5),sl_q5⟩) (c_q5:PySem.W.codeIn K cd_q5 "look_at_ends" = true) (k_q5:PySem.W.keepIn K (.ref f_q5) = true)
    {od_q40 an_q40:Option Addr} {sl_q40:Array (Option Value)} {oc_q40 kV_q40 dc_q40 pm_q40 cd_q40 ct_q40:Value} (a_q40:PySem.W.nsIn K mainGlobals "climb" = some (some (.ref f_q40))) (l_q40:K.lookup f_q40 = some ⟨oc_q40,od_q40,.func (PySem.W.fnOf "climb" "climb" (defArgs s_q40) (defBody s_q40) (defScope s_q40) .none kV_q40 dc_q40 pm_q40 an_q40 cd_q40 ct_q40),sl_q40⟩) (c_q40:PySem.W.codeIn K cd_q40 "climb" = true) (k_q40:PySem.W.keepIn K (.ref f_q40) = true)
    {od_q9 an_q9:Option Addr} {sl_q9:Array (Option Value)} {oc_q9 kV_q9 dc_q9 pm_q9 cd_q9 ct_q9:Value} (a_q9:PySem.W.nsIn K mainGlobals "way_between" = some (some (.ref f_q9))) (l_q9:K.lookup f_q9 = some ⟨oc_q9,od_q9,.func (PySem.W.fnOf "way_between" "way_between" (defArgs s_q9) (defBody s_q9) (defScope s_q9) .none kV_q9 dc_q9 pm_q9 an_q9 cd_q9 ct_q9),sl_q9⟩) (c_q9:PySem.W.codeIn K cd_q9 "way_between" = true) (k_q9:PySem.W.keepIn K (.ref f_q9) = true)
    {od_q39 an_q39:Option Addr} {sl_q39:Array (Option Value)} {oc_q39 kV_q39 dc_q39 pm_q39 cd_q39 ct_q39:Value} (a_q39:PySem.W.nsIn K mainGlobals "way_of" = some (some (.ref f_q39))) (l_q39:K.lookup f_q39 = some ⟨oc_q39,od_q39,.func (PySem.W.fnOf "way_of" "way_of" (defArgs s_q39) (defBody s_q39) (defScope s_q39) .none kV_q39 dc_q39 pm_q39 an_q39 cd_q39 ct_q39),sl_q39⟩) (c_q39:PySem.W.codeIn K cd_q39 "way_of" = true) (k_q39:PySem.W.keepIn K (.ref f_q39) = true)
    {od_q6 an_q6:Option Addr} {sl_q6:Array (Option Value)} {oc_q6 kV_q6 dc_q6 pm_q6 cd_q6 ct_q6:Value} (a_q6:PySem.W.nsIn K mainGlobals "look_at_keep" = some (some (.ref f_q6))) (l_q6:K.lookup f_q6 = some ⟨oc_q6,od_q6,.func (PySem.W.fnOf "look_at_keep" "look_at_keep" (defArgs s_q6) (defBody s_q6) (defScope s_q6) .none kV_q6 dc_q6 pm_q6 an_q6 cd_q6 ct_q6),sl_q6⟩) (c_q6:PySem.W.codeIn K cd_q6 "look_at_keep" = true) (k_q6:PySem.W.keepIn K (.ref f_q6) = true)
    {od_q36 an_q36:Option Addr} {sl_q36:Array (Option Value)} {oc_q36 kV_q36 dc_q36 pm_q36 cd_q36 ct_q36:Value} (a_q36:PySem.W.nsIn K mainGlobals "lay_on" = some (some (.ref f_q36))) (l_q36:K.lookup f_q36 = some ⟨oc_q36,od_q36,.func (PySem.W.fnOf "lay_on" "lay_on" (defArgs s_q36) (defBody s_q36) (defScope s_q36) .none kV_q36 dc_q36 pm_q36 an_q36 cd_q36 ct_q36),sl_q36⟩) (c_q36:PySem.W.codeIn K cd_q36 "lay_on" = true) (k_q36:PySem.W.keepIn K (.ref f_q36) = true)
    {od_q13 an_q13:Option Addr} {sl_q13:Array (Option Value)} {oc_q13 kV_q13 dc_q13 pm_q13 cd_q13 ct_q13:Value} (a_q13:PySem.W.nsIn K mainGlobals "load_with" = some (some (.ref f_q13))) (l_q13:K.lookup f_q13 = some ⟨oc_q13,od_q13,.func (PySem.W.fnOf "load_with" "load_with" (defArgs s_q13) (defBody s_q13) (defScope s_q13) .none kV_q13 dc_q13 pm_q13 an_q13 cd_q13 ct_q13),sl_q13⟩) (c_q13:PySem.W.codeIn K cd_q13 "load_with" = true) (k_q13:PySem.W.keepIn K (.ref f_q13) = true)
    {od_q42 an_q42:Option Addr} {sl_q42:Array (Option Value)} {oc_q42 kV_q42 dc_q42 pm_q42 cd_q42 ct_q42:Value} (a_q42:PySem.W.nsIn K mainGlobals "loads" = some (some (.ref f_q42))) (l_q42:K.lookup f_q42 = some ⟨oc_q42,od_q42,.func (PySem.W.fnOf "loads" "loads" (defArgs s_q42) (defBody s_q42) (defScope s_q42) .none kV_q42 dc_q42 pm_q42 an_q42 cd_q42 ct_q42),sl_q42⟩) (c_q42:PySem.W.codeIn K cd_q42 "loads" = true) (k_q42:PySem.W.keepIn K (.ref f_q42) = true)
    {od_q11 an_q11:Option Addr} {sl_q11:Array (Option Value)} {oc_q11 kV_q11 dc_q11 pm_q11 cd_q11 ct_q11:Value} (a_q11:PySem.W.nsIn K mainGlobals "first_over" = some (some (.ref f_q11))) (l_q11:K.lookup f_q11 = some ⟨oc_q11,od_q11,.func (PySem.W.fnOf "first_over" "first_over" (defArgs s_q11) (defBody s_q11) (defScope s_q11) .none kV_q11 dc_q11 pm_q11 an_q11 cd_q11 ct_q11),sl_q11⟩) (c_q11:PySem.W.codeIn K cd_q11 "first_over" = true) (k_q11:PySem.W.keepIn K (.ref f_q11) = true)
    {od_q26 an_q26:Option Addr} {sl_q26:Array (Option Value)} {oc_q26 kV_q26 dc_q26 pm_q26 cd_q26 ct_q26:Value} (a_q26:PySem.W.nsIn K mainGlobals "worth_of" = some (some (.ref f_q26))) (l_q26:K.lookup f_q26 = some ⟨oc_q26,od_q26,.func (PySem.W.fnOf "worth_of" "worth_of" (defArgs s_q26) (defBody s_q26) (defScope s_q26) .none kV_q26 dc_q26 pm_q26 an_q26 cd_q26 ct_q26),sl_q26⟩) (c_q26:PySem.W.codeIn K cd_q26 "worth_of" = true) (k_q26:PySem.W.keepIn K (.ref f_q26) = true)
    {od_q21 an_q21:Option Addr} {sl_q21:Array (Option Value)} {oc_q21 kV_q21 dc_q21 pm_q21 cd_q21 ct_q21:Value} (a_q21:PySem.W.nsIn K mainGlobals "is_price" = some (some (.ref f_q21))) (l_q21:K.lookup f_q21 = some ⟨oc_q21,od_q21,.func (PySem.W.fnOf "is_price" "is_price" (defArgs s_q21) (defBody s_q21) (defScope s_q21) .none kV_q21 dc_q21 pm_q21 an_q21 cd_q21 ct_q21),sl_q21⟩) (c_q21:PySem.W.codeIn K cd_q21 "is_price" = true) (k_q21:PySem.W.keepIn K (.ref f_q21) = true)
    {od_q2 an_q2:Option Addr} {sl_q2:Array (Option Value)} {oc_q2 kV_q2 dc_q2 pm_q2 cd_q2 ct_q2:Value} (a_q2:PySem.W.nsIn K mainGlobals "look_at_prices" = some (some (.ref f_q2))) (l_q2:K.lookup f_q2 = some ⟨oc_q2,od_q2,.func (PySem.W.fnOf "look_at_prices" "look_at_prices" (defArgs s_q2) (defBody s_q2) (defScope s_q2) .none kV_q2 dc_q2 pm_q2 an_q2 cd_q2 ct_q2),sl_q2⟩) (c_q2:PySem.W.codeIn K cd_q2 "look_at_prices" = true) (k_q2:PySem.W.keepIn K (.ref f_q2) = true)
    {od_q25 an_q25:Option Addr} {sl_q25:Array (Option Value)} {oc_q25 kV_q25 dc_q25 pm_q25 cd_q25 ct_q25:Value} (a_q25:PySem.W.nsIn K mainGlobals "spare_of" = some (some (.ref f_q25))) (l_q25:K.lookup f_q25 = some ⟨oc_q25,od_q25,.func (PySem.W.fnOf "spare_of" "spare_of" (defArgs s_q25) (defBody s_q25) (defScope s_q25) .none kV_q25 dc_q25 pm_q25 an_q25 cd_q25 ct_q25),sl_q25⟩) (c_q25:PySem.W.codeIn K cd_q25 "spare_of" = true) (k_q25:PySem.W.keepIn K (.ref f_q25) = true)
    {od_q37 an_q37:Option Addr} {sl_q37:Array (Option Value)} {oc_q37 kV_q37 dc_q37 pm_q37 cd_q37 ct_q37:Value} (a_q37:PySem.W.nsIn K mainGlobals "spares" = some (some (.ref f_q37))) (l_q37:K.lookup f_q37 = some ⟨oc_q37,od_q37,.func (PySem.W.fnOf "spares" "spares" (defArgs s_q37) (defBody s_q37) (defScope s_q37) .none kV_q37 dc_q37 pm_q37 an_q37 cd_q37 ct_q37),sl_q37⟩) (c_q37:PySem.W.codeIn K cd_q37 "spares" = true) (k_q37:PySem.W.keepIn K (.ref f_q37) = true)
    {od_q18 an_q18:Option Addr} {sl_q18:Array (Option Value)} {oc_q18 kV_q18 dc_q18 pm_q18 cd_q18 ct_q18:Value} (a_q18:PySem.W.nsIn K mainGlobals "bound_of" = some (some (.ref f_q18))) (l_q18:K.lookup f_q18 = some ⟨oc_q18,od_q18,.func (PySem.W.fnOf "bound_of" "bound_of" (defArgs s_q18) (defBody s_q18) (defScope s_q18) .none kV_q18 dc_q18 pm_q18 an_q18 cd_q18 ct_q18),sl_q18⟩) (c_q18:PySem.W.codeIn K cd_q18 "bound_of" = true) (k_q18:PySem.W.keepIn K (.ref f_q18) = true)
    {od_q0 an_q0:Option Addr} {sl_q0:Array (Option Value)} {oc_q0 kV_q0 dc_q0 pm_q0 cd_q0 ct_q0:Value} (a_q0:PySem.W.nsIn K mainGlobals "is_keep_that_fits" = some (some (.ref f_q0))) (l_q0:K.lookup f_q0 = some ⟨oc_q0,od_q0,.func (PySem.W.fnOf "is_keep_that_fits" "is_keep_that_fits" (defArgs s_q0) (defBody s_q0) (defScope s_q0) .none kV_q0 dc_q0 pm_q0 an_q0 cd_q0 ct_q0),sl_q0⟩) (c_q0:PySem.W.codeIn K cd_q0 "is_keep_that_fits" = true) (k_q0:PySem.W.keepIn K (.ref f_q0) = true)
    {od_q10 an_q10:Option Addr} {sl_q10:Array (Option Value)} {oc_q10 kV_q10 dc_q10 pm_q10 cd_q10 ct_q10:Value} (a_q10:PySem.W.nsIn K mainGlobals "are_prices" = some (some (.ref f_q10))) (l_q10:K.lookup f_q10 = some ⟨oc_q10,od_q10,.func (PySem.W.fnOf "are_prices" "are_prices" (defArgs s_q10) (defBody s_q10) (defScope s_q10) .none kV_q10 dc_q10 pm_q10 an_q10 cd_q10 ct_q10),sl_q10⟩) (c_q10:PySem.W.codeIn K cd_q10 "are_prices" = true) (k_q10:PySem.W.keepIn K (.ref f_q10) = true)
    {od_q22 an_q22:Option Addr} {sl_q22:Array (Option Value)} {oc_q22 kV_q22 dc_q22 pm_q22 cd_q22 ct_q22:Value} (a_q22:PySem.W.nsIn K mainGlobals "is_share" = some (some (.ref f_q22))) (l_q22:K.lookup f_q22 = some ⟨oc_q22,od_q22,.func (PySem.W.fnOf "is_share" "is_share" (defArgs s_q22) (defBody s_q22) (defScope s_q22) .none kV_q22 dc_q22 pm_q22 an_q22 cd_q22 ct_q22),sl_q22⟩) (c_q22:PySem.W.codeIn K cd_q22 "is_share" = true) (k_q22:PySem.W.keepIn K (.ref f_q22) = true)
    {od_q33 an_q33:Option Addr} {sl_q33:Array (Option Value)} {oc_q33 kV_q33 dc_q33 pm_q33 cd_q33 ct_q33:Value} (a_q33:PySem.W.nsIn K mainGlobals "_law_cell" = some (some (.ref f_q33))) (l_q33:K.lookup f_q33 = some ⟨oc_q33,od_q33,.func (PySem.W.fnOf "_law_cell" "_law_cell" (defArgs s_q33) (defBody s_q33) (defScope s_q33) .none kV_q33 dc_q33 pm_q33 an_q33 cd_q33 ct_q33),sl_q33⟩) (c_q33:PySem.W.codeIn K cd_q33 "_law_cell" = true) (k_q33:PySem.W.keepIn K (.ref f_q33) = true)
    {od_q24 an_q24:Option Addr} {sl_q24:Array (Option Value)} {oc_q24 kV_q24 dc_q24 pm_q24 cd_q24 ct_q24:Value} (a_q24:PySem.W.nsIn K mainGlobals "_law_source" = some (some (.ref f_q24))) (l_q24:K.lookup f_q24 = some ⟨oc_q24,od_q24,.func (PySem.W.fnOf "_law_source" "_law_source" (defArgs s_q24) (defBody s_q24) (defScope s_q24) .none kV_q24 dc_q24 pm_q24 an_q24 cd_q24 ct_q24),sl_q24⟩) (c_q24:PySem.W.codeIn K cd_q24 "_law_source" = true) (k_q24:PySem.W.keepIn K (.ref f_q24) = true)
    {od_q34 an_q34:Option Addr} {sl_q34:Array (Option Value)} {oc_q34 kV_q34 dc_q34 pm_q34 cd_q34 ct_q34:Value} (a_q34:PySem.W.nsIn K mainGlobals "_law_draw" = some (some (.ref f_q34))) (l_q34:K.lookup f_q34 = some ⟨oc_q34,od_q34,.func (PySem.W.fnOf "_law_draw" "_law_draw" (defArgs s_q34) (defBody s_q34) (defScope s_q34) .none kV_q34 dc_q34 pm_q34 an_q34 cd_q34 ct_q34),sl_q34⟩) (c_q34:PySem.W.codeIn K cd_q34 "_law_draw" = true) (k_q34:PySem.W.keepIn K (.ref f_q34) = true)
    {od_q35 an_q35:Option Addr} {sl_q35:Array (Option Value)} {oc_q35 kV_q35 dc_q35 pm_q35 cd_q35 ct_q35:Value} (a_q35:PySem.W.nsIn K mainGlobals "_law_tree" = some (some (.ref f_q35))) (l_q35:K.lookup f_q35 = some ⟨oc_q35,od_q35,.func (PySem.W.fnOf "_law_tree" "_law_tree" (defArgs s_q35) (defBody s_q35) (defScope s_q35) .none kV_q35 dc_q35 pm_q35 an_q35 cd_q35 ct_q35),sl_q35⟩) (c_q35:PySem.W.codeIn K cd_q35 "_law_tree" = true) (k_q35:PySem.W.keepIn K (.ref f_q35) = true)
    {od_q41 an_q41:Option Addr} {sl_q41:Array (Option Value)} {oc_q41 kV_q41 dc_q41 pm_q41 cd_q41 ct_q41:Value} (a_q41:PySem.W.nsIn K mainGlobals "_law_ask" = some (some (.ref f_q41))) (l_q41:K.lookup f_q41 = some ⟨oc_q41,od_q41,.func (PySem.W.fnOf "_law_ask" "_law_ask" (defArgs s_q41) (defBody s_q41) (defScope s_q41) .none kV_q41 dc_q41 pm_q41 an_q41 cd_q41 ct_q41),sl_q41⟩) (c_q41:PySem.W.codeIn K cd_q41 "_law_ask" = true) (k_q41:PySem.W.keepIn K (.ref f_q41) = true)
    {od_q28 an_q28:Option Addr} {sl_q28:Array (Option Value)} {oc_q28 kV_q28 dc_q28 pm_q28 cd_q28 ct_q28:Value} (a_q28:PySem.W.nsIn K mainGlobals "_law_thing" = some (some (.ref f_q28))) (l_q28:K.lookup f_q28 = some ⟨oc_q28,od_q28,.func (PySem.W.fnOf "_law_thing" "_law_thing" (defArgs s_q28) (defBody s_q28) (defScope s_q28) .none kV_q28 dc_q28 pm_q28 an_q28 cd_q28 ct_q28),sl_q28⟩) (c_q28:PySem.W.codeIn K cd_q28 "_law_thing" = true) (k_q28:PySem.W.keepIn K (.ref f_q28) = true)
    {od_law an_law:Option Addr} {sl_law:Array (Option Value)} {oc_law kV_law dc_law pm_law cd_law ct_law:Value} (a_law:PySem.W.nsIn K mainGlobals "law" = some (some (.ref f_law))) (l_law:K.lookup f_law = some ⟨oc_law,od_law,.func (PySem.W.fnOf "law" "law" (defArgs s_law) (defBody s_law) (defScope s_law) .none kV_law dc_law pm_law an_law cd_law ct_law),sl_law⟩) (c_law:PySem.W.codeIn K cd_law "law" = true) (k_law:PySem.W.keepIn K (.ref f_law) = true)
    {t_MOST_TIES:Tok} (c_MOST_TIES:PySem.W.nsIn K mainGlobals "MOST_TIES" = some (some (.int 23 t_MOST_TIES)))
    {t_MOST_ROOM:Tok} (c_MOST_ROOM:PySem.W.nsIn K mainGlobals "MOST_ROOM" = some (some (.int 1000000 t_MOST_ROOM)))
    {t_MOST_ASKS:Tok} (c_MOST_ASKS:PySem.W.nsIn K mainGlobals "MOST_ASKS" = some (some (.int 30 t_MOST_ASKS)))
    {t_MOST_SIZE:Tok} (c_MOST_SIZE:PySem.W.nsIn K mainGlobals "MOST_SIZE" = some (some (.int 1000000 t_MOST_SIZE)))
    {t_MOST_WORTH:Tok} (c_MOST_WORTH:PySem.W.nsIn K mainGlobals "MOST_WORTH" = some (some (.int 1000000000000 t_MOST_WORTH)))
    (z_ValueError:PySem.W.nsIn K mainGlobals "ValueError" = some none)
    (z_abs:PySem.W.nsIn K mainGlobals "abs" = some none)
    (z_bool:PySem.W.nsIn K mainGlobals "bool" = some none)
    (z_enumerate:PySem.W.nsIn K mainGlobals "enumerate" = some none)
    (z_int:PySem.W.nsIn K mainGlobals "int" = some none)
    (z_isinstance:PySem.W.nsIn K mainGlobals "isinstance" = some none)
    (z_len:PySem.W.nsIn K mainGlobals "len" = some none)
    (z_list:PySem.W.nsIn K mainGlobals "list" = some none)
    (z_max:PySem.W.nsIn K mainGlobals "max" = some none)
    (z_min:PySem.W.nsIn K mainGlobals "min" = some none)
    (z_range:PySem.W.nsIn K mainGlobals "range" = some none)
    (z_sorted:PySem.W.nsIn K mainGlobals "sorted" = some none)
    (z_sum:PySem.W.nsIn K mainGlobals "sum" = some none)
    (z_tuple:PySem.W.nsIn K mainGlobals "tuple" = some none)
    (z_zip:PySem.W.nsIn K mainGlobals "zip" = some none)
    {c_q14:Addr} (e_q14:PySem.W.nsIn K mainGlobals "AskError" = some (some (.ref c_q14)))
    {c_q29:Addr} (e_q29:PySem.W.nsIn K mainGlobals "NoAsks" = some (some (.ref c_q29)))
    {c_q30:Addr} (e_q30:PySem.W.nsIn K mainGlobals "NoKeep" = some (some (.ref c_q30)))
    {c_q15:Addr} (e_q15:PySem.W.nsIn K mainGlobals "NoNumber" = some (some (.ref c_q15)))
    {c_q27:Addr} (e_q27:PySem.W.nsIn K mainGlobals "NoPlace" = some (some (.ref c_q27)))
    {c_q16:Addr} (e_q16:PySem.W.nsIn K mainGlobals "NoPrices" = some (some (.ref c_q16)))
    {c_q31:Addr} (e_q31:PySem.W.nsIn K mainGlobals "NoTree" = some (some (.ref c_q31)))
    {dd_q14:Option Addr} {nm_q14 qn_q14:Str} {bs_q14 su_q14:List Value} {ns_q14:Addr} {hb_q14 ab_q14:Bool} {sn_q14:List Str} {co_q14:Option Bool} {u0_AskError u1_AskError u2_AskError u3_AskError u5_AskError:Option Value} (l_q14:K.lookup c_q14 = some ⟨.type "type",dd_q14,.cls ⟨nm_q14,bs_q14,.ref c_q14 :: bmV,ns_q14,qn_q14,hb_q14,sn_q14,su_q14,ab_q14,co_q14,false⟩,#[u0_AskError,u1_AskError,u2_AskError,u3_AskError,some (.builtin "ValueError.__new__"),u5_AskError]⟩)
    {no_q14:Value} {nd_q14:Option Addr} {es_q14:Array DictEntry} {np_q14:Nat} {nl_q14:Array (Option Value)} (n_q14':K.lookup ns_q14 = some ⟨no_q14,nd_q14,.dict es_q14 np_q14,nl_q14⟩)
     (q_q14:(es_q14.all fun e => match e.key with | .str _ _ => true | _ => false) = true)
     (t_q14:PySem.W.nsIn K ns_q14 "__init__" = some none)
    {dd_q29:Option Addr} {nm_q29 qn_q29:Str} {bs_q29 su_q29:List Value} {ns_q29:Addr} {hb_q29 ab_q29:Bool} {sn_q29:List Str} {co_q29:Option Bool} {u0_NoAsks u1_NoAsks u2_NoAsks u3_NoAsks u5_NoAsks:Option Value} (l_q29:K.lookup c_q29 = some ⟨.type "type",dd_q29,.cls ⟨nm_q29,bs_q29,.ref c_q29 :: ([.ref c_q14] ++ bmV),ns_q29,qn_q29,hb_q29,sn_q29,su_q29,ab_q29,co_q29,false⟩,#[u0_NoAsks,u1_NoAsks,u2_NoAsks,u3_NoAsks,some (.builtin "ValueError.__new__"),u5_NoAsks]⟩)
    {no_q29:Value} {nd_q29:Option Addr} {es_q29:Array DictEntry} {np_q29:Nat} {nl_q29:Array (Option Value)} (n_q29':K.lookup ns_q29 = some ⟨no_q29,nd_q29,.dict es_q29 np_q29,nl_q29⟩)
     (q_q29:(es_q29.all fun e => match e.key with | .str _ _ => true | _ => false) = true)
    {n_q29:Addr} (t_q29:PySem.W.nsIn K ns_q29 "__init__" = some (some (.ref n_q29)))
    {dd_q30:Option Addr} {nm_q30 qn_q30:Str} {bs_q30 su_q30:List Value} {ns_q30:Addr} {hb_q30 ab_q30:Bool} {sn_q30:List Str} {co_q30:Option Bool} {u0_NoKeep u1_NoKeep u2_NoKeep u3_NoKeep u5_NoKeep:Option Value} (l_q30:K.lookup c_q30 = some ⟨.type "type",dd_q30,.cls ⟨nm_q30,bs_q30,.ref c_q30 :: ([.ref c_q14] ++ bmV),ns_q30,qn_q30,hb_q30,sn_q30,su_q30,ab_q30,co_q30,false⟩,#[u0_NoKeep,u1_NoKeep,u2_NoKeep,u3_NoKeep,some (.builtin "ValueError.__new__"),u5_NoKeep]⟩)
    {no_q30:Value} {nd_q30:Option Addr} {es_q30:Array DictEntry} {np_q30:Nat} {nl_q30:Array (Option Value)} (n_q30':K.lookup ns_q30 = some ⟨no_q30,nd_q30,.dict es_q30 np_q30,nl_q30⟩)
     (q_q30:(es_q30.all fun e => match e.key with | .str _ _ => true | _ => false) = true)
    {n_q30:Addr} (t_q30:PySem.W.nsIn K ns_q30 "__init__" = some (some (.ref n_q30)))
    {dd_q15:Option Addr} {nm_q15 qn_q15:Str} {bs_q15 su_q15:List Value} {ns_q15:Addr} {hb_q15 ab_q15:Bool} {sn_q15:List Str} {co_q15:Option Bool} {u0_NoNumber u1_NoNumber u2_NoNumber u3_NoNumber u5_NoNumber:Option Value} (l_q15:K.lookup c_q15 = some ⟨.type "type",dd_q15,.cls ⟨nm_q15,bs_q15,.ref c_q15 :: ([.ref c_q14] ++ bmV),ns_q15,qn_q15,hb_q15,sn_q15,su_q15,ab_q15,co_q15,false⟩,#[u0_NoNumber,u1_NoNumber,u2_NoNumber,u3_NoNumber,some (.builtin "ValueError.__new__"),u5_NoNumber]⟩)
    {no_q15:Value} {nd_q15:Option Addr} {es_q15:Array DictEntry} {np_q15:Nat} {nl_q15:Array (Option Value)} (n_q15':K.lookup ns_q15 = some ⟨no_q15,nd_q15,.dict es_q15 np_q15,nl_q15⟩)
     (q_q15:(es_q15.all fun e => match e.key with | .str _ _ => true | _ => false) = true)
     (t_q15:PySem.W.nsIn K ns_q15 "__init__" = some none)
    {dd_q27:Option Addr} {nm_q27 qn_q27:Str} {bs_q27 su_q27:List Value} {ns_q27:Addr} {hb_q27 ab_q27:Bool} {sn_q27:List Str} {co_q27:Option Bool} {u0_NoPlace u1_NoPlace u2_NoPlace u3_NoPlace u5_NoPlace:Option Value} (l_q27:K.lookup c_q27 = some ⟨.type "type",dd_q27,.cls ⟨nm_q27,bs_q27,.ref c_q27 :: ([.ref c_q14] ++ bmV),ns_q27,qn_q27,hb_q27,sn_q27,su_q27,ab_q27,co_q27,false⟩,#[u0_NoPlace,u1_NoPlace,u2_NoPlace,u3_NoPlace,some (.builtin "ValueError.__new__"),u5_NoPlace]⟩)
    {no_q27:Value} {nd_q27:Option Addr} {es_q27:Array DictEntry} {np_q27:Nat} {nl_q27:Array (Option Value)} (n_q27':K.lookup ns_q27 = some ⟨no_q27,nd_q27,.dict es_q27 np_q27,nl_q27⟩)
     (q_q27:(es_q27.all fun e => match e.key with | .str _ _ => true | _ => false) = true)
     (t_q27:PySem.W.nsIn K ns_q27 "__init__" = some none)
    {dd_q16:Option Addr} {nm_q16 qn_q16:Str} {bs_q16 su_q16:List Value} {ns_q16:Addr} {hb_q16 ab_q16:Bool} {sn_q16:List Str} {co_q16:Option Bool} {u0_NoPrices u1_NoPrices u2_NoPrices u3_NoPrices u5_NoPrices:Option Value} (l_q16:K.lookup c_q16 = some ⟨.type "type",dd_q16,.cls ⟨nm_q16,bs_q16,.ref c_q16 :: ([.ref c_q14] ++ bmV),ns_q16,qn_q16,hb_q16,sn_q16,su_q16,ab_q16,co_q16,false⟩,#[u0_NoPrices,u1_NoPrices,u2_NoPrices,u3_NoPrices,some (.builtin "ValueError.__new__"),u5_NoPrices]⟩)
    {no_q16:Value} {nd_q16:Option Addr} {es_q16:Array DictEntry} {np_q16:Nat} {nl_q16:Array (Option Value)} (n_q16':K.lookup ns_q16 = some ⟨no_q16,nd_q16,.dict es_q16 np_q16,nl_q16⟩)
     (q_q16:(es_q16.all fun e => match e.key with | .str _ _ => true | _ => false) = true)
    {n_q16:Addr} (t_q16:PySem.W.nsIn K ns_q16 "__init__" = some (some (.ref n_q16)))
    {dd_q31:Option Addr} {nm_q31 qn_q31:Str} {bs_q31 su_q31:List Value} {ns_q31:Addr} {hb_q31 ab_q31:Bool} {sn_q31:List Str} {co_q31:Option Bool} {u0_NoTree u1_NoTree u2_NoTree u3_NoTree u5_NoTree:Option Value} (l_q31:K.lookup c_q31 = some ⟨.type "type",dd_q31,.cls ⟨nm_q31,bs_q31,.ref c_q31 :: ([.ref c_q14] ++ bmV),ns_q31,qn_q31,hb_q31,sn_q31,su_q31,ab_q31,co_q31,false⟩,#[u0_NoTree,u1_NoTree,u2_NoTree,u3_NoTree,some (.builtin "ValueError.__new__"),u5_NoTree]⟩)
    {no_q31:Value} {nd_q31:Option Addr} {es_q31:Array DictEntry} {np_q31:Nat} {nl_q31:Array (Option Value)} (n_q31':K.lookup ns_q31 = some ⟨no_q31,nd_q31,.dict es_q31 np_q31,nl_q31⟩)
     (q_q31:(es_q31.all fun e => match e.key with | .str _ _ => true | _ => false) = true)
    {n_q31:Addr} (t_q31:PySem.W.nsIn K ns_q31 "__init__" = some (some (.ref n_q31)))
     (sp_:PySem.W.specialIn K (.builtin "object.__class__") "__get__" = some (some (.builtin "getset_descriptor.__get__")))
     (tk_:PySem.W.takesIn K (.builtin "object.__class__") = some true)
     (g_q29:PySem.W.findIn K (.ref c_q29) "__getattribute__" = some (some (.builtin "BaseException.__getattribute__")))
     (h_q29:PySem.W.findIn K (.ref c_q29) "__getattr__" = some none)
     (w_q29:PySem.W.findIn K (.ref c_q29) "__class__" = some (some (.builtin "object.__class__")))
     (mo_q29:PySem.W.mroIn K c_q29 (.type "object") = some true)
     (hd_q29:PySem.W.hasDictIn K c_q29 = true)
     (sv_q29:PySem.W.subIn K (.ref c_q29) (.type "ValueError") = some true)
     (g_q30:PySem.W.findIn K (.ref c_q30) "__getattribute__" = some (some (.builtin "BaseException.__getattribute__")))
     (h_q30:PySem.W.findIn K (.ref c_q30) "__getattr__" = some none)
     (w_q30:PySem.W.findIn K (.ref c_q30) "__class__" = some (some (.builtin "object.__class__")))
     (mo_q30:PySem.W.mroIn K c_q30 (.type "object") = some true)
     (hd_q30:PySem.W.hasDictIn K c_q30 = true)
     (sv_q30:PySem.W.subIn K (.ref c_q30) (.type "ValueError") = some true)
     (g_q15:PySem.W.findIn K (.ref c_q15) "__getattribute__" = some (some (.builtin "BaseException.__getattribute__")))
     (h_q15:PySem.W.findIn K (.ref c_q15) "__getattr__" = some none)
     (w_q15:PySem.W.findIn K (.ref c_q15) "__class__" = some (some (.builtin "object.__class__")))
     (mo_q15:PySem.W.mroIn K c_q15 (.type "object") = some true)
     (hd_q15:PySem.W.hasDictIn K c_q15 = true)
     (sv_q15:PySem.W.subIn K (.ref c_q15) (.type "ValueError") = some true)
     (g_q27:PySem.W.findIn K (.ref c_q27) "__getattribute__" = some (some (.builtin "BaseException.__getattribute__")))
     (h_q27:PySem.W.findIn K (.ref c_q27) "__getattr__" = some none)
     (w_q27:PySem.W.findIn K (.ref c_q27) "__class__" = some (some (.builtin "object.__class__")))
     (mo_q27:PySem.W.mroIn K c_q27 (.type "object") = some true)
     (hd_q27:PySem.W.hasDictIn K c_q27 = true)
     (sv_q27:PySem.W.subIn K (.ref c_q27) (.type "ValueError") = some true)
     (g_q16:PySem.W.findIn K (.ref c_q16) "__getattribute__" = some (some (.builtin "BaseException.__getattribute__")))
     (h_q16:PySem.W.findIn K (.ref c_q16) "__getattr__" = some none)
     (w_q16:PySem.W.findIn K (.ref c_q16) "__class__" = some (some (.builtin "object.__class__")))
     (mo_q16:PySem.W.mroIn K c_q16 (.type "object") = some true)
     (hd_q16:PySem.W.hasDictIn K c_q16 = true)
     (sv_q16:PySem.W.subIn K (.ref c_q16) (.type "ValueError") = some true)
     (g_q31:PySem.W.findIn K (.ref c_q31) "__getattribute__" = some (some (.builtin "BaseException.__getattribute__")))
     (h_q31:PySem.W.findIn K (.ref c_q31) "__getattr__" = some none)
     (w_q31:PySem.W.findIn K (.ref c_q31) "__class__" = some (some (.builtin "object.__class__")))
     (mo_q31:PySem.W.mroIn K c_q31 (.type "object") = some true)
     (hd_q31:PySem.W.hasDictIn K c_q31 = true)
     (sv_q31:PySem.W.subIn K (.ref c_q31) (.type "ValueError") = some true)
    {odi_q29 ani_q29:Option Addr} {sli_q29:Array (Option Value)} {oci_q29 kVi_q29 dci_q29 pmi_q29 cdi_q29 cti_q29:Value} (li_q29:K.lookup n_q29 = some ⟨oci_q29,odi_q29,.func (PySem.W.fnOf "__init__" "NoAsks.__init__" (defArgs (inClass (top 3) 0)) (defBody (inClass (top 3) 0)) (defScope (inClass (top 3) 0)) .none kVi_q29 dci_q29 pmi_q29 ani_q29 cdi_q29 cti_q29),sli_q29⟩)
     (ci_q29:PySem.W.codeIn K cdi_q29 "NoAsks.__init__" = true)
     (ki_q29:PySem.W.keepIn K (.ref n_q29) = true)
     (fi_q29:PySem.W.typeIn K (.ref n_q29) = some (.type "function"))
     (kc_q29:PySem.W.keepIn K (.ref c_q29) = true)
     (sa_q29:PySem.W.findIn K (.ref c_q29) "__setattr__" = some (some (.builtin "object.__setattr__")))
     (at_q29_number:PySem.W.findIn K (.ref c_q29) "number" = some none)
    {odi_q30 ani_q30:Option Addr} {sli_q30:Array (Option Value)} {oci_q30 kVi_q30 dci_q30 pmi_q30 cdi_q30 cti_q30:Value} (li_q30:K.lookup n_q30 = some ⟨oci_q30,odi_q30,.func (PySem.W.fnOf "__init__" "NoKeep.__init__" (defArgs (inClass (top 4) 0)) (defBody (inClass (top 4) 0)) (defScope (inClass (top 4) 0)) .none kVi_q30 dci_q30 pmi_q30 ani_q30 cdi_q30 cti_q30),sli_q30⟩)
     (ci_q30:PySem.W.codeIn K cdi_q30 "NoKeep.__init__" = true)
     (ki_q30:PySem.W.keepIn K (.ref n_q30) = true)
     (fi_q30:PySem.W.typeIn K (.ref n_q30) = some (.type "function"))
     (kc_q30:PySem.W.keepIn K (.ref c_q30) = true)
     (sa_q30:PySem.W.findIn K (.ref c_q30) "__setattr__" = some (some (.builtin "object.__setattr__")))
     (at_q30_number:PySem.W.findIn K (.ref c_q30) "number" = some none)
    {odi_q16 ani_q16:Option Addr} {sli_q16:Array (Option Value)} {oci_q16 kVi_q16 dci_q16 pmi_q16 cdi_q16 cti_q16:Value} (li_q16:K.lookup n_q16 = some ⟨oci_q16,odi_q16,.func (PySem.W.fnOf "__init__" "NoPrices.__init__" (defArgs (inClass (top 5) 0)) (defBody (inClass (top 5) 0)) (defScope (inClass (top 5) 0)) .none kVi_q16 dci_q16 pmi_q16 ani_q16 cdi_q16 cti_q16),sli_q16⟩)
     (ci_q16:PySem.W.codeIn K cdi_q16 "NoPrices.__init__" = true)
     (ki_q16:PySem.W.keepIn K (.ref n_q16) = true)
     (fi_q16:PySem.W.typeIn K (.ref n_q16) = some (.type "function"))
     (kc_q16:PySem.W.keepIn K (.ref c_q16) = true)
     (sa_q16:PySem.W.findIn K (.ref c_q16) "__setattr__" = some (some (.builtin "object.__setattr__")))
     (at_q16_number:PySem.W.findIn K (.ref c_q16) "number" = some none)
    {odi_q31 ani_q31:Option Addr} {sli_q31:Array (Option Value)} {oci_q31 kVi_q31 dci_q31 pmi_q31 cdi_q31 cti_q31:Value} (li_q31:K.lookup n_q31 = some ⟨oci_q31,odi_q31,.func (PySem.W.fnOf "__init__" "NoTree.__init__" (defArgs (inClass (top 2) 0)) (defBody (inClass (top 2) 0)) (defScope (inClass (top 2) 0)) .none kVi_q31 dci_q31 pmi_q31 ani_q31 cdi_q31 cti_q31),sli_q31⟩)
     (ci_q31:PySem.W.codeIn K cdi_q31 "NoTree.__init__" = true)
     (ki_q31:PySem.W.keepIn K (.ref n_q31) = true)
     (fi_q31:PySem.W.typeIn K (.ref n_q31) = some (.type "function"))
     (kc_q31:PySem.W.keepIn K (.ref c_q31) = true)
     (sa_q31:PySem.W.findIn K (.ref c_q31) "__setattr__" = some (some (.builtin "object.__setattr__")))
     (at_q31_part:PySem.W.findIn K (.ref c_q31) "part" = some none)
     (at_q31_number:PySem.W.findIn K (.ref c_q31) "number" = some none)
     (rb_q14:PySem.W.readsIn K c_q14 (.type "type") = true)
     (fb_q14:PySem.W.findCls K (.ref c_q14) (.type "type") "__init__" = some (.val (.builtin "ValueError.__init__")))
     (gb_q14:PySem.W.specialIn K (.ref c_q14) "__getattribute__" = some (some (.builtin "type.__getattribute__")))
   :∃ fd:FuncData,(∀ (s:Shared) (v:Value),BindsTo s fd ⟨[v],[]⟩ [("_law_script",v)]) ∧ ∀ base:Heap,K.In base → base.Ns mainGlobals mg → FnOk l.prog w K mg base CX0 13 fa fd ["_law_script"] (spLaw K):=by
  have e:=hfa.symm.trans (PySem.W.mg_of X G a_law)
  cases e
  have F_q23:=fun_mk (st:=s_q23) l_q23 c_q23 k_q23
  have b_q23:=F_q23.binds (ps:=["thing"]) fun _ _ _ _ _ _ us hl => us1 (fun _ => rfl) us hl
  have F_q12:=fun_mk (st:=s_q12) l_q12 c_q12 k_q12
  have b_q12:=F_q12.binds (ps:=["thing","least","most"]) fun _ _ _ _ _ _ us hl => us3 (fun _ _ _ => rfl) us hl
  have F_q1:=fun_mk (st:=s_q1) l_q1 c_q1 k_q1
  have b_q1:=F_q1.binds (ps:=["number","bottom"]) fun _ _ _ _ _ _ us hl => us2 (fun _ _ => rfl) us hl
  have F_q8:=fun_mk (st:=s_q8) l_q8 c_q8 k_q8
  have b_q8:=F_q8.binds (ps:=["thing"]) fun _ _ _ _ _ _ us hl => us1 (fun _ => rfl) us hl
  have F_q3:=fun_mk (st:=s_q3) l_q3 c_q3 k_q3
  have b_q3:=F_q3.binds (ps:=["thing"]) fun _ _ _ _ _ _ us hl => us1 (fun _ => rfl) us hl
  have F_q7:=fun_mk (st:=s_q7) l_q7 c_q7 k_q7
  have b_q7:=F_q7.binds (ps:=["thing"]) fun _ _ _ _ _ _ us hl => us1 (fun _ => rfl) us hl
  have F_q20:=fun_mk (st:=s_q20) l_q20 c_q20 k_q20
  have b_q20:=F_q20.binds (ps:=["tree","thing"]) fun _ _ _ _ _ _ us hl => us2 (fun _ _ => rfl) us hl
  have F_q17:=fun_mk (st:=s_q17) l_q17 c_q17 k_q17
  have b_q17:=F_q17.binds (ps:=["tree","one","other"]) fun _ _ _ _ _ _ us hl => us3 (fun _ _ _ => rfl) us hl
  have F_q32:=fun_mk (st:=s_q32) l_q32 c_q32 k_q32
  have b_q32:=F_q32.binds (ps:=["tree","thing"]) fun _ _ _ _ _ _ us hl => us2 (fun _ _ => rfl) us hl
  have F_q4:=fun_mk (st:=s_q4) l_q4 c_q4 k_q4
  have b_q4:=F_q4.binds (ps:=["tree","thing"]) fun _ _ _ _ _ _ us hl => us2 (fun _ _ => rfl) us hl
  have F_q19:=fun_mk (st:=s_q19) l_q19 c_q19 k_q19
  have b_q19:=F_q19.binds (ps:=["top","bottom"]) fun _ _ _ _ _ _ us hl => us2 (fun _ _ => rfl) us hl
  have F_q43:=fun_mk (st:=s_q43) l_q43 c_q43 k_q43
  have b_q43:=F_q43.binds (ps:=["one","other"]) fun _ _ _ _ _ _ us hl => us2 (fun _ _ => rfl) us hl
  have F_q44:=fun_mk (st:=s_q44) l_q44 c_q44 k_q44
  have b_q44:=F_q44.binds (ps:=["one","other"]) fun _ _ _ _ _ _ us hl => us2 (fun _ _ => rfl) us hl
  have F_q38:=fun_mk (st:=s_q38) l_q38 c_q38 k_q38
  have b_q38:=F_q38.binds (ps:=["some"]) fun _ _ _ _ _ _ us hl => us1 (fun _ => rfl) us hl
  have F_q45:=fun_mk (st:=s_q45) l_q45 c_q45 k_q45
  have b_q45:=F_q45.binds (ps:=["one","other"]) fun _ _ _ _ _ _ us hl => us2 (fun _ _ => rfl) us hl
  have F_q5:=fun_mk (st:=s_q5) l_q5 c_q5 k_q5
  have b_q5:=F_q5.binds (ps:=["tree","one","other"]) fun _ _ _ _ _ _ us hl => us3 (fun _ _ _ => rfl) us hl
  have F_q40:=fun_mk (st:=s_q40) l_q40 c_q40 k_q40
  have b_q40:=F_q40.binds (ps:=["tree","one","other"]) fun _ _ _ _ _ _ us hl => us3 (fun _ _ _ => rfl) us hl
  have F_q9:=fun_mk (st:=s_q9) l_q9 c_q9 k_q9
  have b_q9:=F_q9.binds (ps:=["tree","one","other"]) fun _ _ _ _ _ _ us hl => us3 (fun _ _ _ => rfl) us hl
  have F_q39:=fun_mk (st:=s_q39) l_q39 c_q39 k_q39
  have b_q39:=F_q39.binds (ps:=["tree","ask"]) fun _ _ _ _ _ _ us hl => us2 (fun _ _ => rfl) us hl
  have F_q6:=fun_mk (st:=s_q6) l_q6 c_q6 k_q6
  have b_q6:=F_q6.binds (ps:=["tree","asks","thing"]) fun _ _ _ _ _ _ us hl => us3 (fun _ _ _ => rfl) us hl
  have F_q36:=fun_mk (st:=s_q36) l_q36 c_q36 k_q36
  have b_q36:=F_q36.binds (ps:=["ask","way","load"]) fun _ _ _ _ _ _ us hl => us3 (fun _ _ _ => rfl) us hl
  have F_q13:=fun_mk (st:=s_q13) l_q13 c_q13 k_q13
  have b_q13:=F_q13.binds (ps:=["tree","ask","load"]) fun _ _ _ _ _ _ us hl => us3 (fun _ _ _ => rfl) us hl
  have F_q42:=fun_mk (st:=s_q42) l_q42 c_q42 k_q42
  have b_q42:=F_q42.binds (ps:=["tree","asks","keep"]) fun _ _ _ _ _ _ us hl => us3 (fun _ _ _ => rfl) us hl
  have F_q11:=fun_mk (st:=s_q11) l_q11 c_q11 k_q11
  have b_q11:=F_q11.binds (ps:=["tree","asks","keep"]) fun _ _ _ _ _ _ us hl => us3 (fun _ _ _ => rfl) us hl
  have F_q26:=fun_mk (st:=s_q26) l_q26 c_q26 k_q26
  have b_q26:=F_q26.binds (ps:=["tree","asks","keep"]) fun _ _ _ _ _ _ us hl => us3 (fun _ _ _ => rfl) us hl
  have F_q21:=fun_mk (st:=s_q21) l_q21 c_q21 k_q21
  have b_q21:=F_q21.binds (ps:=["thing"]) fun _ _ _ _ _ _ us hl => us1 (fun _ => rfl) us hl
  have F_q2:=fun_mk (st:=s_q2) l_q2 c_q2 k_q2
  have b_q2:=F_q2.binds (ps:=["tree","thing"]) fun _ _ _ _ _ _ us hl => us2 (fun _ _ => rfl) us hl
  have F_q25:=fun_mk (st:=s_q25) l_q25 c_q25 k_q25
  have b_q25:=F_q25.binds (ps:=["tree","ask","weight","prices"]) fun _ _ _ _ _ _ us hl => us4 (fun _ _ _ _ => rfl) us hl
  have F_q37:=fun_mk (st:=s_q37) l_q37 c_q37 k_q37
  have b_q37:=F_q37.binds (ps:=["tree","asks","prices"]) fun _ _ _ _ _ _ us hl => us3 (fun _ _ _ => rfl) us hl
  have F_q18:=fun_mk (st:=s_q18) l_q18 c_q18 k_q18
  have b_q18:=F_q18.binds (ps:=["tree","asks","prices"]) fun _ _ _ _ _ _ us hl => us3 (fun _ _ _ => rfl) us hl
  have F_q0:=fun_mk (st:=s_q0) l_q0 c_q0 k_q0
  have b_q0:=F_q0.binds (ps:=["tree","asks","thing"]) fun _ _ _ _ _ _ us hl => us3 (fun _ _ _ => rfl) us hl
  have F_q10:=fun_mk (st:=s_q10) l_q10 c_q10 k_q10
  have b_q10:=F_q10.binds (ps:=["tree","thing"]) fun _ _ _ _ _ _ us hl => us2 (fun _ _ => rfl) us hl
  have F_q22:=fun_mk (st:=s_q22) l_q22 c_q22 k_q22
  have b_q22:=F_q22.binds (ps:=["tree","asks","thing"]) fun _ _ _ _ _ _ us hl => us3 (fun _ _ _ => rfl) us hl
  have F_q33:=fun_mk (st:=s_q33) l_q33 c_q33 k_q33
  have b_q33:=F_q33.binds (ps:=["_law_script","_law_k"]) fun _ _ _ _ _ _ us hl => us2 (fun _ _ => rfl) us hl
  have F_q24:=fun_mk (st:=s_q24) l_q24 c_q24 k_q24
  have b_q24:=F_q24.binds (ps:=["_law_cell_here","_law_k"]) fun _ _ _ _ _ _ us hl => us2 (fun _ _ => rfl) us hl
  have F_q34:=fun_mk (st:=s_q34) l_q34 c_q34 k_q34
  have b_q34:=F_q34.binds (ps:=["_law_source_here","_law_many"]) fun _ _ _ _ _ _ us hl => us2 (fun _ _ => rfl) us hl
  have F_q35:=fun_mk (st:=s_q35) l_q35 c_q35 k_q35
  have b_q35:=F_q35.binds (ps:=["_law_source_here","_law_most"]) fun _ _ _ _ _ _ us hl => us2 (fun _ _ => rfl) us hl
  have F_q41:=fun_mk (st:=s_q41) l_q41 c_q41 k_q41
  have b_q41:=F_q41.binds (ps:=["_law_source_here","_law_many","_law_sizes","_law_worths"]) fun _ _ _ _ _ _ us hl => us4 (fun _ _ _ _ => rfl) us hl
  have F_q28:=fun_mk (st:=s_q28) l_q28 c_q28 k_q28
  have b_q28:=F_q28.binds (ps:=["_law_many","_law_asks","_law_source_here"]) fun _ _ _ _ _ _ us hl => us3 (fun _ _ _ => rfl) us hl
  have F_law:=fun_mk (st:=s_law) l_law c_law k_law
  have b_law:=F_law.binds (ps:=["_law_script"]) fun _ _ _ _ _ _ us hl => us1 (fun _ => rfl) us hl
  have I_q29:=fun_mk (st:=inClass (top 3) 0) li_q29 ci_q29 ki_q29
  have bi_q29:=I_q29.binds (ps:=["self","number"]) fun _ _ _ _ _ _ us hl => us2 (fun _ _ => rfl) us hl
  have I_q30:=fun_mk (st:=inClass (top 4) 0) li_q30 ci_q30 ki_q30
  have bi_q30:=I_q30.binds (ps:=["self","number"]) fun _ _ _ _ _ _ us hl => us2 (fun _ _ => rfl) us hl
  have I_q16:=fun_mk (st:=inClass (top 5) 0) li_q16 ci_q16 ki_q16
  have bi_q16:=I_q16.binds (ps:=["self","number"]) fun _ _ _ _ _ _ us hl => us2 (fun _ _ => rfl) us hl
  have I_q31:=fun_mk (st:=inClass (top 2) 0) li_q31 ci_q31 ki_q31
  have bi_q31:=I_q31.binds (ps:=["self","part","number"]) fun _ _ _ _ _ _ us hl => us3 (fun _ _ _ => rfl) us hl
  have T:Txt K mg ⟨f_q23,_,f_q12,_,f_q1,_,f_q8,_,f_q3,_,f_q7,_,f_q20,_,f_q17,_,f_q32,_,f_q4,_,f_q19,_,f_q43,_,f_q44,_,f_q38,_,f_q45,_,f_q5,_,f_q40,_,f_q9,_,f_q39,_,f_q6,_,f_q36,_,f_q13,_,f_q42,_,f_q11,_,f_q26,_,f_q21,_,f_q2,_,f_q25,_,f_q37,_,f_q18,_,f_q0,_,f_q10,_,f_q22,_,f_q33,_,f_q24,_,f_q34,_,f_q35,_,f_q41,_,f_q28,_,fa,_,c_q14,c_q29,c_q30,c_q15,c_q27,c_q16,c_q31,n_q29,n_q30,n_q16,n_q31,_,_,_,_⟩:=⟨F_q23,b_q23,k_q23,PySem.W.mg_of X G a_q23,F_q12,b_q12,k_q12,PySem.W.mg_of X G a_q12,F_q1,b_q1,k_q1,PySem.W.mg_of X G a_q1,F_q8,b_q8,k_q8,PySem.W.mg_of X G a_q8,F_q3,b_q3,k_q3,PySem.W.mg_of X G a_q3,F_q7,b_q7,k_q7,PySem.W.mg_of X G a_q7,F_q20,b_q20,k_q20,PySem.W.mg_of X G a_q20,F_q17,b_q17,k_q17,PySem.W.mg_of X G a_q17,F_q32,b_q32,k_q32,PySem.W.mg_of X G a_q32,F_q4,b_q4,k_q4,PySem.W.mg_of X G a_q4,F_q19,b_q19,k_q19,PySem.W.mg_of X G a_q19,F_q43,b_q43,k_q43,PySem.W.mg_of X G a_q43,F_q44,b_q44,k_q44,PySem.W.mg_of X G a_q44,F_q38,b_q38,k_q38,PySem.W.mg_of X G a_q38,F_q45,b_q45,k_q45,PySem.W.mg_of X G a_q45,F_q5,b_q5,k_q5,PySem.W.mg_of X G a_q5,F_q40,b_q40,k_q40,PySem.W.mg_of X G a_q40,F_q9,b_q9,k_q9,PySem.W.mg_of X G a_q9,F_q39,b_q39,k_q39,PySem.W.mg_of X G a_q39,F_q6,b_q6,k_q6,PySem.W.mg_of X G a_q6,F_q36,b_q36,k_q36,PySem.W.mg_of X G a_q36,F_q13,b_q13,k_q13,PySem.W.mg_of X G a_q13,F_q42,b_q42,k_q42,PySem.W.mg_of X G a_q42,F_q11,b_q11,k_q11,PySem.W.mg_of X G a_q11,F_q26,b_q26,k_q26,PySem.W.mg_of X G a_q26,F_q21,b_q21,k_q21,PySem.W.mg_of X G a_q21,F_q2,b_q2,k_q2,PySem.W.mg_of X G a_q2,F_q25,b_q25,k_q25,PySem.W.mg_of X G a_q25,F_q37,b_q37,k_q37,PySem.W.mg_of X G a_q37,F_q18,b_q18,k_q18,PySem.W.mg_of X G a_q18,F_q0,b_q0,k_q0,PySem.W.mg_of X G a_q0,F_q10,b_q10,k_q10,PySem.W.mg_of X G a_q10,F_q22,b_q22,k_q22,PySem.W.mg_of X G a_q22,F_q33,b_q33,k_q33,PySem.W.mg_of X G a_q33,F_q24,b_q24,k_q24,PySem.W.mg_of X G a_q24,F_q34,b_q34,k_q34,PySem.W.mg_of X G a_q34,F_q35,b_q35,k_q35,PySem.W.mg_of X G a_q35,F_q41,b_q41,k_q41,PySem.W.mg_of X G a_q41,F_q28,b_q28,k_q28,PySem.W.mg_of X G a_q28,F_law,b_law,k_law,PySem.W.mg_of X G a_law,PySem.W.mg_none_of X G z_ValueError,PySem.W.mg_none_of X G z_abs,PySem.W.mg_none_of X G z_bool,PySem.W.mg_none_of X G z_enumerate,PySem.W.mg_none_of X G z_int,PySem.W.mg_none_of X G z_isinstance,PySem.W.mg_none_of X G z_len,PySem.W.mg_none_of X G z_list,PySem.W.mg_none_of X G z_max,PySem.W.mg_none_of X G z_min,PySem.W.mg_none_of X G z_range,PySem.W.mg_none_of X G z_sorted,PySem.W.mg_none_of X G z_sum,PySem.W.mg_none_of X G z_tuple,PySem.W.mg_none_of X G z_zip,⟨_,PySem.W.mg_of X G c_MOST_TIES⟩,⟨_,PySem.W.mg_of X G c_MOST_ROOM⟩,⟨_,PySem.W.mg_of X G c_MOST_ASKS⟩,⟨_,PySem.W.mg_of X G c_MOST_SIZE⟩,⟨_,PySem.W.mg_of X G c_MOST_WORTH⟩,PySem.W.mg_of X G e_q14,PySem.W.mg_of X G e_q29,PySem.W.mg_of X G e_q30,PySem.W.mg_of X G e_q15,PySem.W.mg_of X G e_q27,PySem.W.mg_of X G e_q16,PySem.W.mg_of X G e_q31,(xc_mk l_q14 (nsOk_mk n_q14' q_q14) t_q14 tail_bm),(xc_mk l_q29 (nsOk_mk n_q29' q_q29) t_q29 (tail_mk l_q14 (nsOk_mk n_q14' q_q14) t_q14 tail_bm)),(xc_mk l_q30 (nsOk_mk n_q30' q_q30) t_q30 (tail_mk l_q14 (nsOk_mk n_q14' q_q14) t_q14 tail_bm)),(xc_mk l_q15 (nsOk_mk n_q15' q_q15) t_q15 (tail_mk l_q14 (nsOk_mk n_q14' q_q14) t_q14 tail_bm)),(xc_mk l_q27 (nsOk_mk n_q27' q_q27) t_q27 (tail_mk l_q14 (nsOk_mk n_q14' q_q14) t_q14 tail_bm)),(xc_mk l_q16 (nsOk_mk n_q16' q_q16) t_q16 (tail_mk l_q14 (nsOk_mk n_q14' q_q14) t_q14 tail_bm)),(xc_mk l_q31 (nsOk_mk n_q31' q_q31) t_q31 (tail_mk l_q14 (nsOk_mk n_q14' q_q14) t_q14 tail_bm)),(xcOk_mk g_q29 h_q29 w_q29 sp_ tk_ mo_q29 hd_q29),(kit_val sv_q29),(xcOk_mk g_q30 h_q30 w_q30 sp_ tk_ mo_q30 hd_q30),(kit_val sv_q30),(xcOk_mk g_q15 h_q15 w_q15 sp_ tk_ mo_q15 hd_q15),(kit_val sv_q15),(xcOk_mk g_q27 h_q27 w_q27 sp_ tk_ mo_q27 hd_q27),(kit_val sv_q27),(xcOk_mk g_q16 h_q16 w_q16 sp_ tk_ mo_q16 hd_q16),(kit_val sv_q16),(xcOk_mk g_q31 h_q31 w_q31 sp_ tk_ mo_q31 hd_q31),(kit_val sv_q31),I_q29,bi_q29,fi_q29,kc_q29,⟨sa_q29,at_q29_number⟩,I_q30,bi_q30,fi_q30,kc_q30,⟨sa_q30,at_q30_number⟩,I_q16,bi_q16,fi_q16,kc_q16,⟨sa_q16,at_q16_number⟩,I_q31,bi_q31,fi_q31,kc_q31,⟨sa_q31,at_q31_part⟩,⟨sa_q31,at_q31_number⟩,⟨rb_q14,fb_q14,gb_q14⟩⟩
  exact ⟨PySem.W.fnOf "law" "law" (defArgs s_law) (defBody s_law) (defScope s_law) .none kV_law dc_law pm_law an_law cd_law ct_law,fun s v => .of_eq rfl,fun base _ _ => (ok_law T).imp fun _ _ _ _ h => spLaw_of h⟩
theorem walk {l:PySem.W.OpenLaw} {q:Program} {loose:List Str} {XP:(Str → Option Value) → Heap → Prop} {YP:World → Heap → Prop} {d:DefRec} {K:Params → PySem.W.Frag} (hn:l.most = some 63) (hdf:d.params.defaults = [])
    (hY:∀ (w:World) (h:Heap),YP w h → (K w.params).In h)
    (F:∀ (w:World) (mg:Str → Option Value) (fa:Addr) (h:Heap),(K w.params).In h → h.Ns mainGlobals mg → mg d.name = some (.ref fa) →
      ∃ fd:FuncData,(∀ (s:Shared) (u:Value),BindsTo s fd ⟨[u],[]⟩ [("_law_script",u)]) ∧ ∀ base:Heap,(K w.params).In base → base.Ns mainGlobals mg → FnOk l.prog w (K w.params) mg base CX0 13 fa fd ["_law_script"] (spLaw (K w.params))) :
    PySem.W.WalkO q loose XP YP l.row.toRowW d [] (fun f vs => PySem.call f vs) :=
  L2.walk_of (n:=63) (k:=13) (x:="_law_script") (CX:=fun _ => CX0) (sp:=fun w => spLaw (K w.params)) hn (by decide) hdf ⟨rfl,by decide,by decide,rfl⟩ hY F (fun _ _ a ns hl hO hS => ⟨a,ns,rfl,hO,hS,hl,fun _ => rfl⟩) fun _ _ _ _ _ z => z
end K29
open PySem PySem.W PyProof.Rows
set_option maxRecDepth 100000 in
theorem PySem.Challenge.cw_treeasks_k29_no_shares_holds : PySem.Challenge.rw_treeasks_k29_no_shares.Holds := by
  w_on; o_law; k_head; (case hw => w_witness2)
  k_fill
  refine K29.walk (l:=PySem.Challenge.rw_treeasks_k29_no_shares) rfl rfl (fun w h Y => PySem.W.kIn_of Y) ?F
  case F =>
    intro w mg fa h KX G hmg
    refine' K29.all_mk KX G hmg ?a_q23 ?l_q23 ?c_q23 ?k_q23 ?a_q12 ?l_q12 ?c_q12 ?k_q12 ?a_q1 ?l_q1 ?c_q1 ?k_q1 ?a_q8 ?l_q8 ?c_q8 ?k_q8 ?a_q3 ?l_q3 ?c_q3 ?k_q3 ?a_q7 ?l_q7 ?c_q7 ?k_q7 ?a_q20 ?l_q20 ?c_q20 ?k_q20 ?a_q17 ?l_q17 ?c_q17 ?k_q17 ?a_q32 ?l_q32 ?c_q32 ?k_q32 ?a_q4 ?l_q4 ?c_q4 ?k_q4 ?a_q19 ?l_q19 ?c_q19 ?k_q19 ?a_q43 ?l_q43 ?c_q43 ?k_q43 ?a_q44 ?l_q44 ?c_q44 ?k_q44 ?a_q38 ?l_q38 ?c_q38 ?k_q38 ?a_q45 ?l_q45 ?c_q45 ?k_q45 ?a_q5 ?l_q5 ?c_q5 ?k_q5 ?a_q40 ?l_q40 ?c_q40 ?k_q40 ?a_q9 ?l_q9 ?c_q9 ?k_q9 ?a_q39 ?l_q39 ?c_q39 ?k_q39 ?a_q6 ?l_q6 ?c_q6 ?k_q6 ?a_q36 ?l_q36 ?c_q36 ?k_q36 ?a_q13 ?l_q13 ?c_q13 ?k_q13 ?a_q42 ?l_q42 ?c_q42 ?k_q42 ?a_q11 ?l_q11 ?c_q11 ?k_q11 ?a_q26 ?l_q26 ?c_q26 ?k_q26 ?a_q21 ?l_q21 ?c_q21 ?k_q21 ?a_q2 ?l_q2 ?c_q2 ?k_q2 ?a_q25 ?l_q25 ?c_q25 ?k_q25 ?a_q37 ?l_q37 ?c_q37 ?k_q37 ?a_q18 ?l_q18 ?c_q18 ?k_q18 ?a_q0 ?l_q0 ?c_q0 ?k_q0 ?a_q10 ?l_q10 ?c_q10 ?k_q10 ?a_q22 ?l_q22 ?c_q22 ?k_q22 ?a_q33 ?l_q33 ?c_q33 ?k_q33 ?a_q24 ?l_q24 ?c_q24 ?k_q24 ?a_q34 ?l_q34 ?c_q34 ?k_q34 ?a_q35 ?l_q35 ?c_q35 ?k_q35 ?a_q41 ?l_q41 ?c_q41 ?k_q41 ?a_q28 ?l_q28 ?c_q28 ?k_q28 ?a_law ?l_law ?c_law ?k_law ?c_MOST_TIES ?c_MOST_ROOM ?c_MOST_ASKS ?c_MOST_SIZE ?c_MOST_WORTH ?z_ValueError ?z_abs ?z_bool ?z_enumerate ?z_int ?z_isinstance ?z_len ?z_list ?z_max ?z_min ?z_range ?z_sorted ?z_sum ?z_tuple ?z_zip ?e_q14 ?e_q29 ?e_q30 ?e_q15 ?e_q27 ?e_q16 ?e_q31 ?l_q14 ?n_q14' ?q_q14 ?t_q14 ?l_q29 ?n_q29' ?q_q29 ?t_q29 ?l_q30 ?n_q30' ?q_q30 ?t_q30 ?l_q15 ?n_q15' ?q_q15 ?t_q15 ?l_q27 ?n_q27' ?q_q27 ?t_q27 ?l_q16 ?n_q16' ?q_q16 ?t_q16 ?l_q31 ?n_q31' ?q_q31 ?t_q31 ?sp_ ?tk_ ?g_q29 ?h_q29 ?w_q29 ?mo_q29 ?hd_q29 ?sv_q29 ?g_q30 ?h_q30 ?w_q30 ?mo_q30 ?hd_q30 ?sv_q30 ?g_q15 ?h_q15 ?w_q15 ?mo_q15 ?hd_q15 ?sv_q15 ?g_q27 ?h_q27 ?w_q27 ?mo_q27 ?hd_q27 ?sv_q27 ?g_q16 ?h_q16 ?w_q16 ?mo_q16 ?hd_q16 ?sv_q16 ?g_q31 ?h_q31 ?w_q31 ?mo_q31 ?hd_q31 ?sv_q31 ?li_q29 ?ci_q29 ?ki_q29 ?fi_q29 ?kc_q29 ?sa_q29 ?at_q29_number ?li_q30 ?ci_q30 ?ki_q30 ?fi_q30 ?kc_q30 ?sa_q30 ?at_q30_number ?li_q16 ?ci_q16 ?ki_q16 ?fi_q16 ?kc_q16 ?sa_q16 ?at_q16_number ?li_q31 ?ci_q31 ?ki_q31 ?fi_q31 ?kc_q31 ?sa_q31 ?at_q31_part ?at_q31_number ?rb_q14 ?fb_q14 ?gb_q14
    (case a_q23 => k_is)
    (case l_q23 => k_is)
    (case c_q23 => k_is)
    (case k_q23 => k_is)
    (case a_q12 => k_is)
    (case l_q12 => k_is)
    (case c_q12 => k_is)
    (case k_q12 => k_is)
    (case a_q1 => k_is)
    (case l_q1 => k_is)
    (case c_q1 => k_is)
    (case k_q1 => k_is)
    (case a_q8 => k_is)
    (case l_q8 => k_is)
    (case c_q8 => k_is)
    (case k_q8 => k_is)
    (case a_q3 => k_is)
    (case l_q3 => k_is)
    (case c_q3 => k_is)
    (case k_q3 => k_is)
    (case a_q7 => k_is)
    (case l_q7 => k_is)
    (case c_q7 => k_is)
    (case k_q7 => k_is)
    (case a_q20 => k_is)
    (case l_q20 => k_is)
    (case c_q20 => k_is)
    (case k_q20 => k_is)
    (case a_q17 => k_is)
    (case l_q17 => k_is)
    (case c_q17 => k_is)
    (case k_q17 => k_is)
    (case a_q32 => k_is)
    (case l_q32 => k_is)
    (case c_q32 => k_is)
    (case k_q32 => k_is)
    (case a_q4 => k_is)
    (case l_q4 => k_is)
    (case c_q4 => k_is)
    (case k_q4 => k_is)
    (case a_q19 => k_is)
    (case l_q19 => k_is)
    (case c_q19 => k_is)
    (case k_q19 => k_is)
    (case a_q43 => k_is)
    (case l_q43 => k_is)
    (case c_q43 => k_is)
    (case k_q43 => k_is)
    (case a_q44 => k_is)
    (case l_q44 => k_is)
    (case c_q44 => k_is)
    (case k_q44 => k_is)
    (case a_q38 => k_is)
    (case l_q38 => k_is)
    (case c_q38 => k_is)
    (case k_q38 => k_is)
    (case a_q45 => k_is)
    (case l_q45 => k_is)
    (case c_q45 => k_is)
    (case k_q45 => k_is)
    (case a_q5 => k_is)
    (case l_q5 => k_is)
    (case c_q5 => k_is)
    (case k_q5 => k_is)
    (case a_q40 => k_is)
    (case l_q40 => k_is)
    (case c_q40 => k_is)
    (case k_q40 => k_is)
    (case a_q9 => k_is)
    (case l_q9 => k_is)
    (case c_q9 => k_is)
    (case k_q9 => k_is)
    (case a_q39 => k_is)
    (case l_q39 => k_is)
    (case c_q39 => k_is)
    (case k_q39 => k_is)
    (case a_q6 => k_is)
    (case l_q6 => k_is)
    (case c_q6 => k_is)
    (case k_q6 => k_is)
    (case a_q36 => k_is)
    (case l_q36 => k_is)
    (case c_q36 => k_is)
    (case k_q36 => k_is)
    (case a_q13 => k_is)
    (case l_q13 => k_is)
    (case c_q13 => k_is)
    (case k_q13 => k_is)
    (case a_q42 => k_is)
    (case l_q42 => k_is)
    (case c_q42 => k_is)
    (case k_q42 => k_is)
    (case a_q11 => k_is)
    (case l_q11 => k_is)
    (case c_q11 => k_is)
    (case k_q11 => k_is)
    (case a_q26 => k_is)
    (case l_q26 => k_is)
    (case c_q26 => k_is)
    (case k_q26 => k_is)
    (case a_q21 => k_is)
    (case l_q21 => k_is)
    (case c_q21 => k_is)
    (case k_q21 => k_is)
    (case a_q2 => k_is)
    (case l_q2 => k_is)
    (case c_q2 => k_is)
    (case k_q2 => k_is)
    (case a_q25 => k_is)
    (case l_q25 => k_is)
    (case c_q25 => k_is)
    (case k_q25 => k_is)
    (case a_q37 => k_is)
    (case l_q37 => k_is)
    (case c_q37 => k_is)
    (case k_q37 => k_is)
    (case a_q18 => k_is)
    (case l_q18 => k_is)
    (case c_q18 => k_is)
    (case k_q18 => k_is)
    (case a_q0 => k_is)
    (case l_q0 => k_is)
    (case c_q0 => k_is)
    (case k_q0 => k_is)
    (case a_q10 => k_is)
    (case l_q10 => k_is)
    (case c_q10 => k_is)
    (case k_q10 => k_is)
    (case a_q22 => k_is)
    (case l_q22 => k_is)
    (case c_q22 => k_is)
    (case k_q22 => k_is)
    (case a_q33 => k_is)
    (case l_q33 => k_is)
    (case c_q33 => k_is)
    (case k_q33 => k_is)
    (case a_q24 => k_is)
    (case l_q24 => k_is)
    (case c_q24 => k_is)
    (case k_q24 => k_is)
    (case a_q34 => k_is)
    (case l_q34 => k_is)
    (case c_q34 => k_is)
    (case k_q34 => k_is)
    (case a_q35 => k_is)
    (case l_q35 => k_is)
    (case c_q35 => k_is)
    (case k_q35 => k_is)
    (case a_q41 => k_is)
    (case l_q41 => k_is)
    (case c_q41 => k_is)
    (case k_q41 => k_is)
    (case a_q28 => k_is)
    (case l_q28 => k_is)
    (case c_q28 => k_is)
    (case k_q28 => k_is)
    (case a_law => k_is)
    (case l_law => k_is)
    (case c_law => k_is)
    (case k_law => k_is)
    (case c_MOST_TIES => k_is)
    (case c_MOST_ROOM => k_is)
    (case c_MOST_ASKS => k_is)
    (case c_MOST_SIZE => k_is)
    (case c_MOST_WORTH => k_is)
    (case z_ValueError => k_is)
    (case z_abs => k_is)
    (case z_bool => k_is)
    (case z_enumerate => k_is)
    (case z_int => k_is)
    (case z_isinstance => k_is)
    (case z_len => k_is)
    (case z_list => k_is)
    (case z_max => k_is)
    (case z_min => k_is)
    (case z_range => k_is)
    (case z_sorted => k_is)
    (case z_sum => k_is)
    (case z_tuple => k_is)
    (case z_zip => k_is)
    (case e_q14 => k_is)
    (case e_q29 => k_is)
    (case e_q30 => k_is)
    (case e_q15 => k_is)
    (case e_q27 => k_is)
    (case e_q16 => k_is)
    (case e_q31 => k_is)
    (case l_q14 => k_is)
    (case n_q14' => k_is)
    (case q_q14 => (rw [← Array.all_toList]; rfl))
    (case t_q14 => k_is)
    (case l_q29 => k_is)
    (case n_q29' => k_is)
    (case q_q29 => (rw [← Array.all_toList]; rfl))
    (case t_q29 => k_is)
    (case l_q30 => k_is)
    (case n_q30' => k_is)
    (case q_q30 => (rw [← Array.all_toList]; rfl))
    (case t_q30 => k_is)
    (case l_q15 => k_is)
    (case n_q15' => k_is)
    (case q_q15 => (rw [← Array.all_toList]; rfl))
    (case t_q15 => k_is)
    (case l_q27 => k_is)
    (case n_q27' => k_is)
    (case q_q27 => (rw [← Array.all_toList]; rfl))
    (case t_q27 => k_is)
    (case l_q16 => k_is)
    (case n_q16' => k_is)
    (case q_q16 => (rw [← Array.all_toList]; rfl))
    (case t_q16 => k_is)
    (case l_q31 => k_is)
    (case n_q31' => k_is)
    (case q_q31 => (rw [← Array.all_toList]; rfl))
    (case t_q31 => k_is)
    (case sp_ => k_is)
    (case tk_ => k_is)
    (case g_q29 => k_is)
    (case h_q29 => k_is)
    (case w_q29 => k_is)
    (case mo_q29 => k_is)
    (case hd_q29 => k_is)
    (case sv_q29 => k_is)
    (case g_q30 => k_is)
    (case h_q30 => k_is)
    (case w_q30 => k_is)
    (case mo_q30 => k_is)
    (case hd_q30 => k_is)
    (case sv_q30 => k_is)
    (case g_q15 => k_is)
    (case h_q15 => k_is)
    (case w_q15 => k_is)
    (case mo_q15 => k_is)
    (case hd_q15 => k_is)
    (case sv_q15 => k_is)
    (case g_q27 => k_is)
    (case h_q27 => k_is)
    (case w_q27 => k_is)
    (case mo_q27 => k_is)
    (case hd_q27 => k_is)
    (case sv_q27 => k_is)
    (case g_q16 => k_is)
    (case h_q16 => k_is)
    (case w_q16 => k_is)
    (case mo_q16 => k_is)
    (case hd_q16 => k_is)
    (case sv_q16 => k_is)
    (case g_q31 => k_is)
    (case h_q31 => k_is)
    (case w_q31 => k_is)
    (case mo_q31 => k_is)
    (case hd_q31 => k_is)
    (case sv_q31 => k_is)
    (case li_q29 => k_is)
    (case ci_q29 => k_is)
    (case ki_q29 => k_is)
    (case fi_q29 => k_is)
    (case kc_q29 => k_is)
    (case sa_q29 => k_is)
    (case at_q29_number => k_is)
    (case li_q30 => k_is)
    (case ci_q30 => k_is)
    (case ki_q30 => k_is)
    (case fi_q30 => k_is)
    (case kc_q30 => k_is)
    (case sa_q30 => k_is)
    (case at_q30_number => k_is)
    (case li_q16 => k_is)
    (case ci_q16 => k_is)
    (case ki_q16 => k_is)
    (case fi_q16 => k_is)
    (case kc_q16 => k_is)
    (case sa_q16 => k_is)
    (case at_q16_number => k_is)
    (case li_q31 => k_is)
    (case ci_q31 => k_is)
    (case ki_q31 => k_is)
    (case fi_q31 => k_is)
    (case kc_q31 => k_is)
    (case sa_q31 => k_is)
    (case at_q31_part => k_is)
    (case at_q31_number => k_is)
    (case rb_q14 => k_is)
    (case fb_q14 => k_is)
    (case gb_q14 => k_is)
end
