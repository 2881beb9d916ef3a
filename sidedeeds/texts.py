"""Texts: rows written out, and read in again."""

from sidedeeds.deeds import is_row
from sidedeeds.errors import NoText

MOST_FIGURES = 2


def written_out(row):
    return "".join([deed_out(deed) for deed in row])


def deed_out(deed):
    name, ticks, parts = deed
    written = ", ".join([f"{cell}={form_out(form)}" for cell, form in parts])
    return f"{name} {ticks}: {written}\n"


def form_out(form):
    number, terms = form
    return str(number) + "".join([term_out(cell, many) for cell, many in terms])


def term_out(cell, many):
    sign = "-" if many < 0 else "+"
    figures = "" if abs(many) == 1 else str(abs(many))
    return sign + figures + cell


def read_in(text):
    # Reading may be lax: a text that is a row's is the very text that this row is written out as.
    row = tuple(deed_in(line) for line in text.split("\n")[:-1])
    if not is_row(row) or written_out(row) != text:
        raise NoText("this is no row's text")
    return row


def deed_in(line):
    head, colon, rest = line.partition(": ")
    name, blank, ticks = head.partition(" ")
    return name, whole_in(ticks), tuple(part_in(part) for part in rest.split(", "))


def part_in(text):
    cell, sign, form = text.partition("=")
    return cell, form_in(form)


def form_in(text):
    # With a + ahead of each -, too, the number and the terms are what stands between them.
    pieces = text.replace("-", "+-").removeprefix("+").split("+")
    return whole_in(pieces[0]), tuple(term_in(piece) for piece in pieces[1:])


def term_in(piece):
    figures = piece[:-1]
    # That it is once is not written.
    if figures == "" or figures == "-":
        figures += "1"
    return piece[-1:], whole_in(figures)


def whole_in(text):
    figures = text.removeprefix("-")
    # Longer ones are no row's, and Python refuses to read very long ones.
    if not 1 <= len(figures) <= MOST_FIGURES or not all("0" <= figure <= "9" for figure in figures):
        raise NoText("a whole number is missing")
    return int(text)
