"""Papers of calm: lots of posts that show, step by step, that a harm is never met."""

from asneverbegun.errors import InvalidHarm
from asneverbegun.events import CALM_HARMS, is_harm
from asneverbegun.posts import PostForm, post_of, state_of
from asneverbegun.trails import ALL_KINDS, Trails
from asneverbegun.walker import Walker


def calm_paper(system, harm):
    """Returns a calm paper for a harm, or None if there is none."""
    if not is_harm(harm, CALM_HARMS):
        raise InvalidHarm()
    trails = Trails(Walker(system, False), ALL_KINDS, (harm,))
    return None if harm in trails.found else _posts_of(trails)


def calm_papers(system):
    """Returns for each harm that has a calm paper a pair of the harm and one: all posts that come about."""
    trails = Trails(Walker(system, False), ALL_KINDS)
    calm = [harm for harm in CALM_HARMS if harm not in trails.found]
    paper = _posts_of(trails) if len(calm) > 0 else ()
    return tuple([(harm, paper) for harm in calm])


def calm_holds(system, harm, value):
    """Tells whether any value is a calm paper for a harm."""
    if not is_harm(harm, CALM_HARMS):
        raise InvalidHarm()
    form = PostForm(system)
    if not isinstance(value, tuple) or not all([form.fits(post) for post in value]):
        return False
    walker = Walker(system, False)
    posts = {post: True for post in value}
    starts = [post_of(walker.chart, state) for state, _ in walker.beginnings()]
    if not all([post in posts for post in starts]):
        return False
    return all([_holds_at(walker, harm, posts, post) for post in posts])


def _posts_of(trails):
    """Returns the tuple of the posts of all states that were found."""
    posts = {}
    for state in trails.ways:
        posts[post_of(trails.walker.chart, state)] = True
    return tuple(list(posts))


def _holds_at(walker, harm, posts, post):
    """Tells whether no step from a post meets the harm, or leads out of the paper."""
    for _, _, harms, behind, _ in walker.steps(state_of(walker.chart, post)):
        if harm in harms:
            return False
        if behind is not None and post_of(walker.chart, behind) not in posts:
            return False
    return True
