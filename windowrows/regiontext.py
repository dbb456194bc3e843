"""Texts of regions."""

from windowrows.cells import stretch_of
from windowrows.errors import BadText
from windowrows.reader import Reader
from windowrows.regions import UNITS, every, nothing, own_group, own_row, region_between, ties
from windowrows.steps import AXES, ZONES
from windowrows.stretches import stretch_at, turned

MOST_SIGNS = 8


def read_region(text):
    """Return the region that the whole text describes."""
    reader = Reader(text)
    region = read_union(reader, 0)
    if reader.token() != "":
        raise BadText(reader.place)
    return region


def read_union(reader, depth):
    """Return the region of the union at the reader's place, and go behind it.

    depth is the number of the signs that enclose the union.
    """
    region = _read_part(reader, depth)
    while reader.takes("|"):
        region = region | _read_part(reader, depth)
    return region


def _read_part(reader, depth):
    region = _read_factor(reader, depth)
    while True:
        if reader.takes("&"):
            region = region & _read_factor(reader, depth)
        elif reader.takes("-"):
            region = region - _read_factor(reader, depth)
        else:
            return region


def _read_factor(reader, depth):
    if depth == MOST_SIGNS and reader.token() in ("~", "("):
        raise BadText(reader.place)
    if reader.takes("~"):
        return ~_read_factor(reader, depth + 1)
    if not reader.takes("("):
        return _read_basic(reader)
    region = read_union(reader, depth + 1)
    if not reader.takes(")"):
        raise BadText(reader.place)
    return region


def _read_basic(reader):
    for unit in UNITS:
        if reader.takes(unit):
            return _read_between(reader, unit)
    if reader.takes("self"):
        return own_row()
    if reader.takes("ties"):
        return ties()
    if reader.takes("group"):
        return own_group()
    if reader.takes("all"):
        return every()
    if reader.takes("none"):
        return nothing()
    raise BadText(reader.place)


def _read_between(reader, unit):
    found = stretch_at(reader.text, reader.place)
    if found is None:
        raise BadText(reader.place)
    low, high, behind = found
    if turned(low, high):
        raise BadText(reader.place)
    reader.move(behind)
    return region_between(unit, low, high)


def write_region(region):
    """Return a text that read_region reads as an equal region."""
    cells = region.cells()
    parts = [part for zone in ZONES for part in _zone_parts(zone, [cell for cell in cells if cell.zone == zone])]
    return " | ".join(parts) if parts else "none"


def _zone_parts(zone, cells):
    """Return the parts of a union that describes the cells of a zone."""
    if zone in ("past", "future"):
        return _parts(cells, AXES)
    if zone == "self":
        return ["self" for cell in cells]
    return [f"ties & {part}" for part in _parts(cells, ("rows",))]


def _parts(cells, units):
    """Return the parts of a union that describes the cells by these units."""
    parts = []
    for stretch in _stretches(cells, units[0]):
        alike = [cell for cell in cells if stretch_of(cell, units[0]) == stretch]
        parts.append(" & ".join([f"{units[0]} {stretch}"] + _factors(alike, units[1:])))
    return parts


def _stretches(cells, unit):
    """Return the stretches of a unit, each once, in the order of the cells."""
    found = []
    for cell in cells:
        if stretch_of(cell, unit) not in found:
            found.append(stretch_of(cell, unit))
    return found


def _factors(cells, units):
    """Return the factors, at most one, that restrict the cells by these units."""
    # A unit with one stretch in the whole zone does not restrict the cells.
    needed = [unit for unit in units if not _is_whole(stretch_of(cells[0], unit))]
    if not needed:
        return []
    parts = _parts(cells, needed)
    return parts if len(parts) == 1 else ["(" + " | ".join(parts) + ")"]


def _is_whole(stretch):
    return stretch.low in (None, 1) and stretch.high in (None, -1)
