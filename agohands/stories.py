"""Stories: webs that go one behind the other."""

from agohands.errors import NotLike
from agohands.kinds import is_beat, is_tuple
from agohands.turns import after, staying
from agohands.ways import Ways, copies_in
from agohands.webs import is_web

MOST_PARTS = 6


def _is_part(thing):
    return is_tuple(thing, 2, 2) and is_beat(thing[0]) and is_web(thing[1])


def _fits(web, other):
    """Whether both may stand in one story: like many doings and hands, the same before."""
    return web[:2] == other[:2]


def is_story(thing):
    """Whether it is a story."""
    if not is_tuple(thing, 1, MOST_PARTS) or not all([_is_part(part) for part in thing]):
        return False
    beats = [beat for beat, _ in thing]
    if beats[0] != 0 or not all([beat < later for beat, later in zip(beats, beats[1:])]):
        return False
    return all([_fits(thing[0][1], web) for _, web in thing])


def _parts_back(story):
    """For each part (its first beat, the ways of its web), the last one first."""
    return [(start, Ways(web)) for start, web in story[::-1]]


def _back(parts_back, hand, beat):
    """(pieces, hand, beat): the pieces (ways, parts) of the way, the youngest first, and its end."""
    pieces = []
    for start, ways in parts_back:
        # Where a copy leads back past a part as a whole its piece is empty.
        parts, hand, beat = ways.back(hand, beat, start)
        pieces.append((ways, parts))
        if beat >= start:
            break
    return pieces, hand, beat


def _doing(parts_back, hand, beat):
    pieces, begun_by, begun_at = _back(parts_back, hand, beat)
    # All webs of a story have the same before, so the eldest piece's knows it.
    doing = pieces[-1][0].begun(begun_by, begun_at)
    for ways, parts in reversed(pieces):
        doing = ways.led_on(parts, doing)
    return doing


def story_doing(story, hand, beat):
    """What the hand does at the beat of the story."""
    return _doing(_parts_back(story), hand, beat)


def story_scene(story, beat):
    """The tuple of what all hands do at the beat of the story."""
    parts_back = _parts_back(story)
    return tuple([_doing(parts_back, hand, beat) for hand in range(len(story[0][1][2]))])


def story_source(story, hand, beat):
    """Where the story's doing began: (hand, beat, turn, copies)."""
    pieces, begun_by, begun_at = _back(_parts_back(story), hand, beat)
    turn = staying(story[0][1][0])
    for ways, parts in pieces:
        turn = after(ways.turn_of_all(parts), turn)
    copies = sum([copies_in(parts) for _, parts in pieces])
    return begun_by, max(begun_at, -1), turn, copies


def changed(story, beat, web):
    """The story up to the beat, and from there on the web."""
    if not is_web(web):
        raise NotLike("it is no web")
    if not _fits(story[0][1], web):
        raise NotLike("it has other doings, hands or another before than the story's webs")
    kept = tuple([part for part in story if part[0] < beat])
    if len(kept) == MOST_PARTS:
        raise NotLike(f"a story has at most {MOST_PARTS} parts")
    return (*kept, (beat, web))
