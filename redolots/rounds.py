"""Rounds of a script, and careful scripts judged by looks (points 50 and 53)."""
from redolots.errors import InvalidRun, NotCareful
from redolots.images import look
from redolots.lines import check_script, fires
from redolots.movement import check_careful
from redolots.plain import images, plain_run
from redolots.rules import is_between


def play_story(script, image, story):
    """The image behind the full round that comes behind the rounds of the story."""
    check_script(script, image)
    for at, cut in enumerate(story):
        if not is_between(cut, 0, len(script)):
            raise InvalidRun(at)
    for cut in story:
        image = plain_run(script[:cut], image)
    return plain_run(script, image)


def by_look(script, image):
    """Whether a careful script is safe under FromTop, with all beginnings of rounds or with a story."""
    check_careful(script, image)
    right = plain_run(script, image)
    beginnings = {look(image): image}
    stories = {look(image): ()}
    waiting = list(beginnings)
    done = 0
    while done < len(waiting):
        view = waiting[done]
        done += 1
        shown = images(script, beginnings[view])
        if shown[-1] != right:
            return ("unsafe", stories[view])
        for cut, after in enumerate(shown):
            seen = look(after)
            story = stories[view] + (cut,)
            if seen not in beginnings:
                beginnings[seen] = after
                stories[seen] = story
                waiting.append(seen)
            elif beginnings[seen] != after:
                # Moves onto empty blocks lose no value, so one of these two beginnings ends wrong.
                return ("unsafe", stories[seen] if plain_run(script, after) == right else story)
    return ("safe", right, sorted(beginnings.items()))


def is_staircase(script, image):
    """True if the script is careful, each line fires behind its own look, and no look comes twice."""
    try:
        check_careful(script, image)
    except NotCareful:
        return False
    views = [look(shown) for shown in images(script, image)]
    if len(set(views)) < len(views):
        return False
    return all([line[3] == view and fires(line, view) for line, view in zip(script, views)])
