"""The whole: from a text to code and bits, and from these to a window on the code."""

from stopglass.bits import pack, unpack
from stopglass.codewalk import CodeWalker
from stopglass.errors import Untrue
from stopglass.holds import holds
from stopglass.looker import look
from stopglass.maker import make
from stopglass.texts import read
from stopglass.walkers import TextWalker


def made(text):
    program = program_of(text)
    code, table = make(program)
    return (program, code, pack(program, table))


def program_of(text):
    program = read(text)
    look(program)
    return program


def window(program, code, bits, args):
    table = unpack(program, bits)
    # Nothing of the bits is believed: what is told by a table that holds is true, whoever wrote it.
    if not holds(program, code, table):
        raise Untrue()
    return CodeWalker(program, code, table, args)


def plain(text, args):
    return TextWalker(program_of(text), args)
