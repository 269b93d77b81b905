"""Nestboards: jobs by rising skill, and the ways to give them to a team."""
