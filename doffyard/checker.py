"""Takes a claim with its paper, or doesn't (point 20); it trusts nobody, and goes by none of the house's answers."""

from doffyard.callings import are_calls, is_crowded, is_plan, is_stretch
from doffyard.doffs import are_doffs, go_on_at_once, is_doffers_plan
from doffyard.legs import walked_by
from doffyard.likeness import stand_alike
from doffyard.plainness import fewest_for, has_pieces_alike, is_plain, most_wait, with_hands_from, with_rows
from doffyard.stories import breaks_by, is_small_yard, standings_of
from doffyard.walker import Walker, frames_doing, walk_to, what_stands
from doffyard.wholes import is_beat, is_count, is_moment, is_tuple_of, is_whole, is_within
from doffyard.yards import is_yard

MOST_ROUND = 10000


def takes_stands(parts, paper):
    """Take what stands at a moment, by LEGS to it."""
    yard, moment, told = parts
    if not (is_yard(yard) and is_moment(moment)):
        return False
    walker = walked_by(yard, paper, moment)
    return walker is not None and is_same(told, what_stands([walker]))


def takes_round(parts, paper):
    """Take that two moments are alike, by LEGS to the first one; the beats between them are walked besides."""
    yard, lead, beats = parts
    if not (is_yard(yard) and is_moment(lead) and is_within(beats, 1, MOST_ROUND)):
        return False
    walker = walked_by(yard, paper, lead)
    if walker is None:
        return False
    before = what_stands([walker])
    walk_to(walker, lead + beats)
    return stand_alike(yard, lead, before, lead + beats, what_stands([walker]))


def takes_unlike(parts, paper):
    """Take that a frame does another thing in the one yard than in the other, by LEGS in both."""
    yard, other, frame, beat = parts
    if not (is_yard(yard) and is_yard(other) and len(yard[0]) == len(other[0])):
        return False
    if not (is_within(frame, 0, len(yard[0]) - 1) and is_beat(beat) and is_tuple_of(paper, 2, 2)):
        return False
    walker = walked_by(yard, paper[0], beat - 1)
    beside_it = walked_by(other, paper[1], beat - 1)
    if walker is None or beside_it is None:
        return False
    return frames_doing([walker])[frame] != frames_doing([beside_it])[frame]


def takes_plain(parts, paper):
    """Take the most beats that a break can wait in a plain yard, by ROWS by which one does."""
    yard, beats = parts
    if not (is_yard(yard) and is_plain(yard) and is_whole(beats) and beats == most_wait(yard)):
        return False
    torn = with_rows(yard, paper)
    return is_yard(torn) and first_torn(torn, beats + 1) < first_torn(torn, beats)


def takes_fewest(parts, paper):
    """Take the fewest hands of a plain yard, by ROWS by which with one hand less a break waits longer."""
    yard, wait, how = parts
    if not (is_yard(yard) and is_plain(yard) and has_pieces_alike(yard) and is_count(wait) and is_whole(how)):
        return False
    if how != fewest_for(yard, wait):
        return False
    if how == 1:
        return paper is None
    torn = with_rows(with_hands_from(yard, 0, how - 1), paper)
    return is_yard(torn) and first_torn(torn, wait + 1) > 0


def takes_story(parts, paper):
    """Take that a break can be whole behind just so many beats, by a story."""
    small, beats = parts
    if not (is_small_yard(small) and is_whole(beats)):
        return False
    standings = standings_of(small, paper)
    if standings is None:
        return False
    return any(whole is not None and whole - broke == beats
               for broke, frame, thread, whole in breaks_by(standings, paper))


def takes_endless(parts, paper):
    """Take that a thread can be broken for ever, by a story and a round of it."""
    small = parts[0]
    if not (is_small_yard(small) and is_tuple_of(paper, 2, 2)):
        return False
    story, again = paper
    if not (isinstance(story, tuple) and isinstance(again, tuple) and again):
        return False
    standings = standings_of(small, story + again)
    if standings is None:
        return False
    along = standings[len(story):]
    if along[0] != along[-1]:
        return False
    return any(is_torn_in_all(thread, along) for thread in along[0][0])


def takes_calls(parts, paper):
    """Take the fewest hands for calls, by a plan and a stretch."""
    calls, how = parts
    if not (are_calls(calls) and is_count(how) and is_tuple_of(paper, 2, 2)):
        return False
    plan, stretch = paper
    if not is_plan(calls, plan, how):
        return False
    if not calls:
        return how == 0 and stretch is None
    return is_stretch(stretch) and is_crowded(calls, stretch, how - 1)


def takes_short(parts, paper):
    """Take that so many hands don't answer all calls, by a stretch."""
    calls, many = parts
    return are_calls(calls) and is_count(many) and is_stretch(paper) and is_crowded(calls, paper, many)


def takes_doffers(parts, paper):
    """Take the fewest doffers for doffings, by a plan and a beat."""
    doffs, how = parts
    if not (are_doffs(doffs) and is_count(how) and is_tuple_of(paper, 2, 2)):
        return False
    plan, beat = paper
    if not is_doffers_plan(doffs, plan, how):
        return False
    if not doffs:
        return how == 0 and beat is None
    return go_on_at_once(doffs, beat, how)


CLAIMS = {"stands": takes_stands, "round": takes_round, "unlike": takes_unlike, "plain": takes_plain,
          "fewest": takes_fewest, "story": takes_story, "endless": takes_endless, "calls": takes_calls,
          "short": takes_short, "doffers": takes_doffers}
PARTS = {"stands": 3, "round": 3, "unlike": 4, "plain": 2, "fewest": 3, "story": 2, "endless": 1, "calls": 2,
         "short": 2, "doffers": 2}


def holds(claim, paper):
    """Whether the claim is taken by its paper, both of any kind."""
    if not (isinstance(claim, tuple) and claim and isinstance(claim[0], str) and claim[0] in CLAIMS):
        return False
    if len(claim) != 1 + PARTS[claim[0]]:
        return False
    takes = CLAIMS[claim[0]]
    return takes(claim[1:], paper)


def first_torn(yard, moment):
    """Tell how many threads that broke behind beat 1 are broken still at the moment, from 1 on."""
    walker = Walker(yard, list(range(len(yard[0]))), list(range(len(yard[4]))))
    walk_to(walker, moment)
    return len([since for frame, thread, since in walker.broken if since == 1])


def is_torn_in_all(thread, standings):
    """Whether the thread is broken in all that stood, one behind the other, in a small yard."""
    return all(thread in standing[0] for standing in standings)


def is_same(thing, told):
    """Whether a thing of any kind is just what is told, of tuples, whole numbers and None."""
    if isinstance(told, tuple):
        return (is_tuple_of(thing, len(told), len(told))
                and all(is_same(part, other) for part, other in zip(thing, told)))
    if told is None:
        return thing is None
    return is_whole(thing) and thing == told
