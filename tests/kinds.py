"""All kinds of makes, for the tests of what is alike over each of them."""

from treelore.flat import FlatTree
from treelore.handles import HandleTree
from treelore.lasting import LastingTree
from treelore.makes import Make
from treelore.tiedtree import TiedTree

MAKES = (Make, HandleTree, LastingTree, FlatTree, TiedTree)
