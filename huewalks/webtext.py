"""The text of a web: one line for the number of places, then one for each arrow."""

from huewalks.checks import check_text, read_number
from huewalks.errors import BadText
from huewalks.webs import MOST_ARROWS, MOST_PLACES, Web, check_web


def format_web(web):
    """The text of the web."""
    check_web(web)
    return "\n".join([f"web {len(web)}"] + [f"{u} {v}" for u, v in web])


def parse_web(text):
    """The web with this text."""
    check_text(text)
    # Only a newline ends a line, so the lines are not taken by splitlines.
    lines = text.split("\n")
    places = _read_places(lines[0])
    if places is None:
        raise BadText(1)
    arrows = []
    for i in range(1, len(lines)):
        arrow = _read_arrow(places, lines[i])
        if arrow is None or i > MOST_ARROWS:
            raise BadText(i + 1)
        if len(arrows) > 0 and arrow <= arrows[-1]:
            raise BadText(i + 1)
        arrows.append(arrow)
    return Web(places, arrows)


def _read_places(line):
    """The number of places that the first line tells; None if the line is not right."""
    words = line.split(" ")
    if len(words) != 2 or words[0] != "web":
        return None
    places = read_number(words[1])
    if places is None or places > MOST_PLACES:
        return None
    return places


def _read_arrow(places, line):
    """The arrow that the line tells; None if the line does not tell two places."""
    words = line.split(" ")
    if len(words) != 2:
        return None
    u = read_number(words[0])
    v = read_number(words[1])
    if u is None or v is None or u >= places or v >= places:
        return None
    return (u, v)
