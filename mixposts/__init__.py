"""Mixposts: one house, many listeners, posts that mix."""
