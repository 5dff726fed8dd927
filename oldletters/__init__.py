"""Oldletters: workers that fall and begin anew, and letters of any age."""
