"""Plain rows: what hands do, beat by beat."""

from agohands.webs import clock, most_ago, own_doing, rule_at


def _step(web, hand, beat):
    """(copied hand, ago, turn) by which the hand goes at the beat."""
    rule = web[2][hand][rule_at(web, hand, beat)]
    what = rule[2]
    if what[0] == "copy":
        return what[1:]
    # An own doing is what the turn that makes all doings into it makes of
    # any doing, so going on need not ask which of the two a rule is.
    return 0, 1, (own_doing(rule, beat),) * web[0]


def scenes_on(web, past, beat, count):
    """The scenes at so many beats from the beat on.

    past has the scenes at the beats below, the latest last: at least as many
    as the web's most ago.
    """
    beats = clock(web)
    hands = range(len(web[2]))
    steps_by_rest = {}
    # The first one is there for own doings alone: they too copy something.
    scenes = [web[1], *past]
    for now in range(beat, beat + count):
        rest = now % beats
        if rest not in steps_by_rest:
            steps_by_rest[rest] = [_step(web, hand, rest) for hand in hands]
        steps = steps_by_rest[rest]
        scene = tuple([turn[scenes[-ago][copied]] for copied, ago, turn in steps])
        scenes.append(scene)
    return scenes[len(past) + 1:]


def scenes_before(web):
    """As many scenes ahead of beat 0 as the web's rules look back on."""
    return [web[1]] * most_ago(web)


def row_of(scenes, hand):
    """What the hand does at these scenes."""
    return [scene[hand] for scene in scenes]


def plain_rows(web, beat):
    """For each hand the list of what it does at the beats below this one."""
    scenes = scenes_on(web, scenes_before(web), 0, beat)
    return [row_of(scenes, hand) for hand in range(len(web[2]))]
